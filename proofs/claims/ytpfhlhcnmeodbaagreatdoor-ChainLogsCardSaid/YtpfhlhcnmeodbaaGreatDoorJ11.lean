/-
  Joined: The developers' levels, Root and Path.; strings.Clone's contract at this program's numbers.; What lies where of the developers' keys.; The developers' log in memory.; An element's address, in a region whose order is open.; The document's log: in memory; Hash, Auth.; The developers' New.; The developers' Digest (first written over a scratch copy: it fits where the landed code is 'return sha.Cut(sha.Sum("text", string(root[:]), pack.Num(index), text))').; Bytes of a text, turned: []byte(s), b[i] ^= c, string(b).; The developers' Node, Count, Sign.; The table of the round constants, laid; what a law's arguments are.; The developers' log: New, Len, Left.
-/
import Derived.Deep.DeepHandedRow
import Derived.Lib.LaidTab
import Derived.Shelf.LaysM
import Derived.Shelf.Strconv.Clone
import Derived.Test.YtpfhlhcnmeodbaaGreatDoorProg
import Derived.Test.YtpfhlhcnmeodbaaGreatDoorCards
import Derived.Test.YtpfhlhcnmeodbaaGreatDoorTie
import Derived.Test.YtpfhlhcnmeodbaaGreatDoorJ02
import Derived.Test.YtpfhlhcnmeodbaaGreatDoorJ07
import Derived.Test.YtpfhlhcnmeodbaaGreatDoorJ08
import Derived.Test.YtpfhlhcnmeodbaaGreatDoorJ09
import Derived.Test.YtpfhlhcnmeodbaaGreatDoorJ10
namespace Go.Proofs.YtpfhlhcnmeodbaaGreatDoor
open Go.RowKit Go.BigFrame
theorem Tryz.infoRow : (Tryz.prog.info? 34).map (fun i => (i.zero, i.size, i.bytes)) = some (some (.slice none 0 0), 1, 24) := by kernel_rfl
def lenTr : Value → Nat
  | .slice _ n _ => n
  | _ => 0
def OwnV (B : Nat) (e : TypeId) (v : Value) (S : List Value) (w : World) : Prop := w.ownsRow B e 1 v S.length S
theorem OwnV.formB {B : Nat} {e : TypeId} {v : Value} {S : List Value} {w : World} (h : OwnV B e v S w) (h0 : 0 < S.length) : ∃ g cap, v = .slice (some ⟨g, 0, none⟩) S.length cap ∧ g < w.heap.size := by
  rcases h.2 with ⟨_, h2⟩ | ⟨g, cap, cur, h1, _, h3, _⟩
  · omega
  · exact ⟨g, cap, h1, lt_of_block h3⟩
theorem OwnV.below {B : Nat} {e : TypeId} {v : Value} {S : List Value} {w w' : World} (h : OwnV B e v S w) (b : Below w.heap.size w w') : OwnV B e v S w' := by
  refine ⟨h.1, ?_⟩
  rcases h.2 with h2 | ⟨g, cap, cur, h1, h2, h3, h4⟩
  · exact .inl h2
  · exact .inr ⟨g, cap, cur, h1, h2, (b.block g (lt_of_block h3)).trans h3, h4⟩
theorem OwnV.get {B g n c : Nat} {e : TypeId} {S : List Value} {w : World} (hn : n = S.length) (h : OwnV B e (.slice (some ⟨g, 0, none⟩) n c) S w) {j : Nat} {u : Value} (hj : S[j]? = some u) : w.cell? ⟨g, j, none⟩ = some u := by
  subst hn
  have hl := (List.getElem?_eq_some_iff.1 hj).1
  rw [World.ownsRow.cellAt h j (by omega), hj]
theorem OwnE.kept {B B2 : Nat} {e e2 : TypeId} {v u : Value} {L : List (List Nat)} {S : List Value} {w w' : World} (h : OwnE B e v L w) (ho : OwnV B2 e2 u S w) (hne : e ≠ e2) (hg : w.grownBy w' u.ownBlock) : OwnE B e v L w' := by
  refine ⟨h.1, ?_⟩
  rcases h.2 with h2 | ⟨g, cap, cur, h1, h2, h3, h4⟩
  · exact .inl h2
  · refine .inr ⟨g, cap, cur, h1, h2, (hg.block g (lt_of_block h3) fun hc => ?_).trans h3, h4⟩
    rcases ho.2 with ⟨hu, _⟩ | ⟨g2, cap2, cur2, hu, _, hg2, _⟩
    · rw [hu] at hc; cases hc
    · rw [hu] at hc
      obtain rfl : g = g2 := by simpa [Value.ownBlock] using hc
      rw [h3] at hg2
      simp only [Option.some.injEq, Obj.cells.injEq] at hg2
      exact hne hg2.2.1
theorem wpList_append_val {P : Program} {w : World} {ops : Array Oper} {rest : List Oper} {o : Oper} {a : Act} {Q : Exit → Act → World → Prop} (hgd : o.guard = none) (s x : Operand) (t e : TypeId)
    (ho : o.op = .call { callee := .builtin .append, args := #[s, x], argTypes := #[t, t] })
    (B : Nat) (z : Value) (bytes : Nat) (hzs : z.cells.size = 1) (hby : bytes ≤ 1024) (ht : P.underlying t = some (.slice e)) (hinfo : (P.info? e).map (fun i => (i.zero, i.size, i.bytes)) = some (some z, 1, bytes))
    (v : Value) (S : List Value) (u : Value) (hu : u.oneCell' = true) (ad : Addr) (c : Nat) (hs : a.eval s = v) (hown : OwnV B e v S w) (hx : a.eval x = .slice (some ad) 1 c) (hnews : w.cell? (ad.add 0) = some u)
    (h63 : S.length ≤ 1000000) (hB : B ≤ w.heap.size)
    (h : ∀ v' w', Hid (OwnV B e v' (S ++ [u]) w') → Hid (w.grownBy w' v.ownBlock) → Hid (Below B w w') → wpList P ops Q rest (a.put o.dst v') w') : wpList P ops Q (o :: rest) a w := by
  obtain ⟨i, hi, hz0, hz1, hz2⟩ := info_parts hinfo
  refine wpList_append_own_at w hgd s x _ ho B e i z 1 bytes ht hi hz0 hz1 hz2 hzs (by decide) v S.length S hs hown ad 1 c [u] hx rfl ?_ ?_ (by unfold maxLen; omega) ?_ hB ?_
  · intro j q hj
    have hj0 : j = 0 := by
      have := (List.getElem?_eq_some_iff.1 hj).1
      simpa using this
    subst hj0
    obtain rfl : u = q := by simpa using hj
    exact hnews
  · intro q hq
    obtain rfl := List.mem_singleton.1 hq
    exact hu
  · refine Nat.le_trans (Nat.mul_le_mul (show S.length + 1 ≤ 1000001 by omega) hby) (by decide)
  · intro v' w' h2 hg _ _
    refine h v' w' ?_ hg ((Below.refl B w).grown hg hB (fun k hk => (World.ownsRow.lt hown k hk).1))
    show w'.ownsRow B e 1 v' (S ++ [u]).length (S ++ [u])
    rw [List.length_append]
    exact h2
structure LevAt (B : Nat) (L : List (List Nat)) (n k : Nat) (ao : Option Addr) (cap : Nat) (S : List Value) (w : World) : Prop where
  len : S.length = k + 1
  leaf : S[0]? = some (.slice ao n cap)
  row : ∀ j, 1 ≤ j → j ≤ k → ∃ v, S[j]? = some v ∧ OwnE B 29 v (lvl L n j) w
theorem LevAt.below {B : Nat} {L : List (List Nat)} {n k : Nat} {ao : Option Addr} {cap : Nat} {S : List Value} {w w' : World} (h : LevAt B L n k ao cap S w) (b : Below w.heap.size w w') : LevAt B L n k ao cap S w' :=
  ⟨h.len, h.leaf, fun j h1 h2 => by
    obtain ⟨v, hv, ho⟩ := h.row j h1 h2
    exact ⟨v, hv, ho.below b⟩⟩
theorem LevAt.kept {B B2 : Nat} {L : List (List Nat)} {n k : Nat} {ao : Option Addr} {cap : Nat} {S T : List Value} {u : Value} {w w' : World} (h : LevAt B L n k ao cap S w) (ho : OwnV B2 34 u T w) (hg : w.grownBy w' u.ownBlock) : LevAt B L n k ao cap S w' :=
  ⟨h.len, h.leaf, fun j h1 h2 => by
    obtain ⟨v, hv, hr⟩ := h.row j h1 h2
    exact ⟨v, hv, hr.kept ho (by decide) hg⟩⟩
theorem LevAt.push {B : Nat} {L : List (List Nat)} {n k : Nat} {ao : Option Addr} {cap : Nat} {S : List Value} {w : World} {v : Value} (h : LevAt B L n k ao cap S w) (hv : OwnE B 29 v (lvl L n (k + 1)) w) : LevAt B L n (k + 1) ao cap (S ++ [v]) w :=
  ⟨by simp [h.len], by rw [List.getElem?_append_left (by rw [h.len]; omega)]; exact h.leaf, fun j h1 h2 => by
    by_cases hj : j ≤ k
    · obtain ⟨u, hu, hr⟩ := h.row j h1 hj
      exact ⟨u, by rw [List.getElem?_append_left (by rw [h.len]; omega)]; exact hu, hr⟩
    · obtain rfl : j = k + 1 := by omega
      exact ⟨v, by rw [List.getElem?_append_right (by rw [h.len]; exact Nat.le_refl _), h.len, Nat.sub_self]; rfl, hv⟩⟩
theorem LevAt.get {B : Nat} {L : List (List Nat)} {n k : Nat} {ao : Option Addr} {cap : Nat} {S : List Value} {w : World} (h : LevAt B L n k ao cap S w) (hE : EAt ao L w) (hL : Elems L) (hn : n = L.length) {m : Nat} (hm : n = 2 ^ m) (hk : k ≤ m) {j : Nat} (hj : j ≤ k) :
    ∃ aj cj, S[j]? = some (.slice aj (n / 2 ^ j) cj) ∧ EAt aj (lvl L n j) w := by
  cases j with
  | zero => exact ⟨ao, cap, by rw [h.leaf]; simp, by rw [hn, lvl_zero]; exact hE⟩
  | succ j =>
    obtain ⟨v, hv, ho⟩ := h.row (j + 1) (by omega) hj
    obtain ⟨aj, cj, rfl⟩ := ho.form
    exact ⟨aj, cj, by rw [hv, lvl_len], ho.at (lvl_ok hL hn ⟨m, hm, by omega⟩)⟩
set_option maxHeartbeats 4000000 in
set_option maxRecDepth 100000 in
theorem dev_levels (L : List (List Nat)) (h : Nat) (ao : Option Addr) (cap : Nat) (w : World) (hL : Elems L) (hE : EAt ao L w) (hn : L.length = 2 ^ h) (h8 : h ≤ 8) (hkat : KAt w) :
    Calls Tryz.prog 64 #[.slice ao L.length cap] w fun e w' => (∃ v S, e = .returned v ∧ OwnV w.heap.size 34 v S w' ∧ LevAt w.heap.size L L.length h ao cap S w') ∧ Below w.heap.size w w' := by
  obtain ⟨i0, hi, hz0, hz1, hz2⟩ := info_parts Tryz.infoE16
  have HIF := Lib.hid hi
  have HZ0 := Lib.hid hz0
  have HZ1 := Lib.hid hz1
  have HZ2 := Lib.hid hz2
  have HE := Lib.hid hE
  have LE := Lib.hid hL
  have HK := Lib.hid hkat
  have HN := Shut.mk hn
  have h256 : L.length ≤ 256 := by rw [hn]; exact Nat.le_trans (Nat.pow_le_pow_right (by decide) h8) (by decide)
  clear hE hL hn hkat hi hz0 hz1 hz2
  go_enter Tryz.func64, Tryz.ntmps64
  go_upto_region 2 with (fail)
  obtain ⟨w1, hw1⟩ : ∃ x', x' = w.alloc (.cells #[.slice ao L.length cap] 34) := ⟨_, rfl⟩
  rw [← hw1]
  have HB1 := Lib.hid (show Below w.heap.size w w1 by rw [hw1]; exact (Below.refl _ _).alloc (Nat.le_refl _) _)
  have HO1 := Lib.hid (show OwnV w.heap.size 34 (.slice (some ⟨w.heap.size, 0, none⟩) 1 1) [.slice ao L.length cap] w1 by
    rw [hw1]
    exact World.ownsRow_lit (base := w.heap.size) (e := 34) (size := 1) w #[.slice ao L.length cap] 1 (Nat.le_refl _) (by unfold maxLen; omega) rfl)
  clear hw1
  go_wp2_with fail
  go_loopw [3, 4] (fun va vb wq => ∃ k S ab cb, k ≤ h ∧ vb = .slice ab (L.length / 2 ^ k) cb ∧ S[k]? = some (.slice ab (L.length / 2 ^ k) cb) ∧ EAt ab (lvl L L.length k) wq ∧ OwnV w.heap.size 34 va S wq ∧ LevAt w.heap.size L L.length k ao cap S wq ∧ Below w.heap.size w wq) (fun _ vb _ => lenTr vb)
  case atStart => exact ⟨0, [.slice ao L.length cap], ao, cap, by omega, by simp, by simp, by rw [lvl_zero]; exact HE.out.below HB1.out, HO1.out, ⟨rfl, rfl, fun j h1 h2 => by omega⟩, HB1.out⟩
  case round =>
    clear HB1 HO1
    obtain ⟨wk, hwk⟩ : ∃ x, x = wr := ⟨_, rfl⟩
    subst hwk
    obtain ⟨k, S, ab, cb, hk, rfl, hsk, heb, hov, hlev, hb⟩ := hrel
    have HB := Lib.hid hb
    have HEB := Lib.hid heb
    have HLV := Lib.hid hlev
    obtain ⟨g0, c0, rfl, hg0⟩ := hov.formB (by rw [hlev.len]; omega)
    rw [hlev.len] at hov ⊢
    have HOV := Lib.hid hov
    have hdiv : L.length / 2 ^ k = 2 ^ (h - k) := by rw [HN.out, Nat.pow_div hk (by decide)]
    by_cases hlk : k < h
    · have hdiv2 : L.length / 2 ^ (k + 1) = 2 ^ (h - (k + 1)) := by rw [HN.out, Nat.pow_div (by omega) (by decide)]
      have hpos : 1 ≤ 2 ^ (h - (k + 1)) := Nat.one_le_two_pow
      have htwo : L.length / 2 ^ k = 2 * (L.length / 2 ^ (k + 1)) := by rw [hdiv, hdiv2, ← Nat.pow_succ']; congr 1; omega
      have HRL := Shut.mk (lvl_len L L.length k)
      have HRE := Lib.hid (lvl_ok LE.out rfl (k := k) ⟨h, HN.out, hk⟩)
      have HNX := Shut.mk (lvl_next L L.length k)
      have HLL := Shut.mk (lvl_len L L.length (k + 1))
      have hm1 : 1 ≤ L.length / 2 ^ (k + 1) := by rw [hdiv2]; exact hpos
      have hm2 : L.length / 2 ^ (k + 1) ≤ 256 := Nat.le_trans (Nat.div_le_self _ _) h256
      obtain ⟨m, hm⟩ : ∃ m, L.length / 2 ^ (k + 1) = m := ⟨_, rfl⟩
      obtain ⟨r, hr⟩ : ∃ r, L.length / 2 ^ k = r := ⟨_, rfl⟩
      obtain ⟨R, hR⟩ : ∃ R, lvl L L.length k = R := ⟨_, rfl⟩
      rw [hm] at hm1 hm2 htwo HNX HLL
      rw [hr] at htwo HRL hsk ⊢
      rw [hR] at HEB HRL HRE HNX
      have HM := Shut.mk hm
      clear hb heb hlev hov hdiv hdiv2 hpos hsk hm hR hr
      have hq : (r : Int) / 2 = (m : Int) := by omega
      have hr1 : (1 : Int) < (r : Int) := by omega
      have HRM := Lib.hid htwo
      clear htwo
      go_wp2_with (at_make; refine wpList_make_full _ rfl _ _ 34 rfl wk.heap.size 29 i0 _ 16 Tryz.underlying34 HIF.out HZ0.out HZ1.out .i64 .i64 _ _ m rfl rfl rfl rfl (by rw [HZ2.out]; omega) (by unfold maxLen; omega) (Nat.le_refl _) ?_)
      intro w2 ho2 hg2
      have hb2 : Below wk.heap.size wk w2 := (Below.refl wk.heap.size wk).grown hg2 (Nat.le_refl _) (by intro g hg; cases hg)
      have HO2 := Lib.hid (show OwnE wk.heap.size 29 (.slice (some ⟨wk.heap.size, 0, none⟩) m m) (partP R k m 0) w2 by rw [partP_zero]; exact OwnE.made ho2)
      have HB2 := Lib.hid hb2
      obtain ⟨g, hg⟩ : ∃ g, g = wk.heap.size := ⟨_, rfl⟩
      rw [← hg] at HO2 ⊢
      have HG := Lib.hid hg
      clear ho2 hg2 hb2 hg
      go_wp2_with fail
      go_loopw [19] (fun n wq => ∃ i : Nat, i ≤ m ∧ n = .int .i64 i ∧ OwnE g 29 (.slice (some ⟨g, 0, none⟩) m m) (partP R k m i) wq ∧ Below wk.heap.size wk wq) (fun n _ => m - (intOf n).toNat)
      case atStart => exact ⟨0, by omega, rfl, HO2.out, HB2.out⟩
      case round =>
        clear HO2 HB2
        obtain ⟨i, him, rfl, hoi, hbi⟩ := hrel
        have HOI := Lib.hid hoi
        have HBI := Lib.hid hbi
        clear hoi
        by_cases hli : i < m
        · have ha := HRM.out
          obtain ⟨b, o, rfl, hbb⟩ := HEB.out.some (by rw [HRL.out]; omega)
          have hl1 : 2 * i < R.length := by rw [HRL.out]; omega
          have hl2 : 2 * i + 1 < R.length := by rw [HRL.out]; omega
          have HX := Lib.hid (rangeAt_below (HEB.out.get hl1) hbi hbb)
          have HY := Lib.hid (rangeAt_below (HEB.out.get hl2) hbi hbb)
          have HBB := Lib.hid (show b < wr.heap.size from Nat.lt_of_lt_of_le hbb hbi.size)
          obtain ⟨hx1, hx2⟩ := HRE.out.getD hl1
          obtain ⟨hy1, hy2⟩ := HRE.out.getD hl2
          have HPS := Shut.mk (partP_set R k hli)
          have HPE := Lib.hid (partP_ok R k m i)
          have HPL := Lib.hid (partP_len R k (Nat.le_of_lt hli))
          obtain ⟨x, hx⟩ : ∃ x, R.getD (2 * i) [] = x := ⟨_, rfl⟩
          obtain ⟨y, hy⟩ : ∃ y, R.getD (2 * i + 1) [] = y := ⟨_, rfl⟩
          obtain ⟨U, hU⟩ : ∃ U, upN x y ((k + 1 : Nat) : Int) (i : Int) = U := ⟨_, rfl⟩
          have hu1 := upN_len x y ((k + 1 : Nat) : Int) (i : Int)
          have hu2 := upN_lt x y ((k + 1 : Nat) : Int) (i : Int)
          rw [hx, hy, hU] at HPS
          rw [hU] at hu1 hu2
          rw [hx] at hx1 hx2 HX
          rw [hy] at hy1 hy2 HY
          have HX1 := Lib.hid hx1
          have HX2 := Lib.hid hx2
          have HY1 := Lib.hid hy1
          have HY2 := Lib.hid hy2
          have HU1 := Lib.hid hu1
          have HU2 := Lib.hid hu2
          have HUE := Shut.mk hU
          have HKI := Lib.hid ((HK.out.below HB.out).below hbi)
          clear hx hy hU hx1 hx2 hy1 hy2 hu1 hu2 hbi hbb hl1 hl2
          have HIX := Lib.hid (show (Tryz.prog.info? 29).map (·.size) = some x.length by rw [HX1.out]; exact Tryz.infoE)
          have HIY := Lib.hid (show (Tryz.prog.info? 29).map (·.size) = some y.length by rw [HY1.out]; exact Tryz.infoE)
          have hb1 : 2 * (i : Int) < (r : Int) := by omega
          have hb2 : 2 * (i : Int) + 1 < (r : Int) := by omega
          have hb3 : (i : Int) < (m : Int) := by omega
          clear ha
          go_upto_region 8 with (fail)
          refine wp_region_class_tail (fun w' => SS wr w') 18 (by kernel_rfl) (by kernel_rfl) (SS.start HKI.out) ?_
          simp only [List.take_succ_cons, List.take_zero, List.drop_succ_cons, List.drop_zero]
          repeat (first
            | (go_big_quiet_want; refine quiet_load_elem 29 _ rfl b (o + 2 * i * 16) x _ rfl (fun w' h => rangeAt_below HX.out h.1 HBB.out) Tryz.underlying29 rfl HIX.out ?_; go_big_quiet_on; simp only [Act.put, List.setIfInBounds_toArray, List.set_cons_zero, List.set_cons_succ])
            | (go_big_quiet_want; refine quiet_load_elem 29 _ rfl b (o + (2 * i + 1) * 16) y _ rfl (fun w' h => rangeAt_below HY.out h.1 HBB.out) Tryz.underlying29 rfl HIY.out ?_; go_big_quiet_on; simp only [Act.put, List.setIfInBounds_toArray, List.set_cons_zero, List.set_cons_succ])
            | go_big_quiet_step ((intro hs'; first
                | rfl
                | (go_at_call 86; exact (dev_up x y ((k + 1 : Nat) : Int) (i : Int) _ HX1.out HX2.out HY1.out HY2.out (by omega) (by omega) (by omega) (by omega) hs'.2).mono fun e w' h => ⟨h.1.trans (by rw [HUE.out]), hs'.next h.2⟩))))
          refine wpQuiet_nil ?_
          intro w3 hs3
          have HO3 := Lib.hid (HOI.out.below hs3.1)
          have HB3 := Lib.hid (HBI.out.trans (hs3.1.mono HBI.out.size))
          have HGK := Lib.hid (show wk.heap.size ≤ g by rw [HG.out]; exact Nat.le_refl _)
          clear hs3 HOI HX HY HKI
          go_wp2_with (refine wpList_store_elem rfl 29 _ _ rfl rfl g g m m i (i * 16) 29 (partP R k m i) U HPL.out.symm (Nat.mul_comm _ _) rfl rfl HO3.out HPE.out hli HU1.out HU2.out Tryz.infoE ?_)
          intro w4 ho4 hb4
          have HO4 := Lib.hid (show OwnE g 29 (.slice (some ⟨g, 0, none⟩) m m) (partP R k m (i + 1)) w4 by rw [← HPS.out]; exact ho4.out)
          have HB4 := Lib.hid (show Below wk.heap.size wk w4 from But.toBelow HB3.out hb4.out HGK.out HB3.out.size)
          clear ho4 hb4 HO3 HB3 HPS HPE HPL
          go_wp2_with fail
          exact ⟨⟨i + 1, by omega, by go_num, HO4.out, HB4.out⟩, by simp [intOf]; omega⟩
        · obtain rfl : i = m := by omega
          rw [partP_full, HNX.out] at HOI
          have HGK := Lib.hid (show wk.heap.size ≤ g by rw [HG.out]; exact Nat.le_refl _)
          have hnw : ¬ (i : Int) < (i : Int) := by omega
          have HNV := Lib.hid (HOI.out.mono (show w.heap.size ≤ g from Nat.le_trans HB.out.size HGK.out))
          have HOV2 := Lib.hid (HOV.out.below hbi)
          have HLV2 := Lib.hid (HLV.out.below hbi)
          have HB2 := Lib.hid (HB.out.trans (hbi.mono HB.out.size))
          clear HOI HOV HLV HEB hbi
          have hba : Below wr.heap.size wr (wr.alloc (.cells #[.slice (some ⟨g, 0, none⟩) i i] 34)) := (Below.refl _ _).alloc (Nat.le_refl _) _
          have HOVa := Lib.hid (HOV2.out.below hba)
          have HLVa := Lib.hid (HLV2.out.below hba)
          have HNVa := Lib.hid (HNV.out.below hba)
          have HBa := Lib.hid (HB2.out.trans (hba.mono HB2.out.size))
          have HCa := Lib.hid (show (wr.alloc (.cells #[.slice (some ⟨g, 0, none⟩) i i] 34)).cell? ((⟨wr.heap.size, 0, none⟩ : Addr).add 0) = some (.slice (some ⟨g, 0, none⟩) i i) by rw [Addr.add_lit, Lib.cell_of_heap (heap_alloc_new wr _)]; rfl)
          have HSL := Lib.hid (show S.length ≤ 1000000 by rw [HLV2.out.len]; omega)
          clear hba HOV2 HLV2 HNV HB2
          go_wp2_with (at_builtin; refine wpList_append_val rfl (.tmp 41) (.tmp 43) 109 34 rfl w.heap.size (.slice none 0 0) 24 rfl (by decide) Tryz.underlying109 Tryz.infoRow _ S (.slice (some ⟨g, 0, none⟩) i i) rfl ⟨wr.heap.size, 0, none⟩ 1 rfl HOVa.out rfl HCa.out HSL.out HBa.out.size ?_)
          intro v5 w5 ho5 hg5 hb5
          have HO5 := Lib.hid ho5.out
          have HLV5 := Lib.hid ((HLVa.out.kept HOVa.out hg5.out).push (HNVa.out.kept HOVa.out (by decide) hg5.out))
          have HE5 := Lib.hid ((HNVa.out.kept HOVa.out (by decide) hg5.out).at (lvl_ok LE.out rfl (k := k + 1) ⟨h, HN.out, hlk⟩))
          have HB5 := Lib.hid (HBa.out.trans hb5.out)
          have HSK := Lib.hid (show (S ++ [Value.slice (some ⟨g, 0, none⟩) i i])[k + 1]? = some (.slice (some ⟨g, 0, none⟩) i i) by rw [List.getElem?_append_right (by rw [HLVa.out.len]; exact Nat.le_refl _), HLVa.out.len, Nat.sub_self]; rfl)
          clear ho5 hg5 hb5 HOVa HLVa HNVa HBa HCa HSL
          go_wp2_with fail
          refine ⟨⟨k + 1, S ++ [Value.slice (some ⟨g, 0, none⟩) i i], some ⟨g, 0, none⟩, i, hlk, by rw [HM.out], by rw [HM.out]; exact HSK.out, HE5.out, HO5.out, HLV5.out, HB5.out⟩, ?_⟩
          have := HRM.out
          simp [lenTr]
          omega
    · obtain rfl : k = h := by omega
      have hone : L.length / 2 ^ k = 1 := by rw [hdiv, Nat.sub_self]
      rw [hone]
      clear hb heb hlev hov hdiv hone hsk
      go_wp2_with fail
      go_ret
      exact ⟨⟨_, _, rfl, HOV.out, HLV.out⟩, HB.out⟩
theorem bits_xor_one {q : Nat} (h : q < 256) : bits .xor .i64 (q : Int) 1 = ((sibN q : Nat) : Int) := by
  have key : ∀ n : Fin 300, IntKind.i64.wrap (n.val : Int) = (n.val : Int) := by decide +kernel
  show IntKind.i64.wrap ((BitVec.ofInt 64 (q : Int) ^^^ BitVec.ofInt 64 1).toNat : Int) = _
  rw [xor_one_i64 h]
  exact key ⟨sibN q, by unfold sibN; split <;> omega⟩
set_option maxHeartbeats 1000000 in
set_option maxRecDepth 100000 in
theorem dev_root (L : List (List Nat)) (h : Nat) (ao : Option Addr) (cap : Nat) (w : World) (hL : Elems L) (hE : EAt ao L w) (hg : goodN L.length = true) (hn : L.length = 2 ^ h) (h8 : h ≤ 8) (hkat : KAt w) :
    Calls Tryz.prog 38 #[.slice ao L.length cap] w fun e w' => e = .returned (.tuple #[.agg (nums .u8 (atN L h 0)).toArray, .int .i64 0]) ∧ Below w.heap.size w w' := by
  have HG := Shut.mk hg
  have HN := Shut.mk hn
  have HE := Lib.hid hE
  have LE := Lib.hid hL
  have HK := Lib.hid hkat
  have h256 := goodN_le hg
  have HAT := Shut.mk (show (lvl L L.length h).getD 0 [] = atN L h 0 from lvl_get L (by rw [hn, Nat.div_self (Nat.two_pow_pos h)]; decide))
  have hone : L.length / 2 ^ h = 1 := by rw [hn, Nat.div_self (Nat.two_pow_pos h)]
  have HO := Shut.mk hone
  clear hg hn hE hL hkat hone
  go_enter Tryz.func38, Tryz.ntmps38
  go_upto_region 1 with (fail)
  change Code.wp _ _ _ _ (w.alloc (.cells (nums .u8 (List.replicate 16 0)).toArray 29))
  obtain ⟨w1, hw1⟩ : ∃ x', x' = w.alloc (.cells (nums .u8 (List.replicate 16 0)).toArray 29) := ⟨_, rfl⟩
  rw [← hw1]
  have HR1 := Lib.hid (show Blk w.heap.size 29 .u8 (List.replicate 16 0) w1 by rw [hw1]; exact heap_alloc_new w _)
  have HB1 := Lib.hid (show Below w.heap.size w w1 by rw [hw1]; exact (Below.refl _ _).alloc (Nat.le_refl _) _)
  obtain ⟨g, hgg⟩ : ∃ g, g = w.heap.size := ⟨_, rfl⟩
  rw [← hgg] at HR1 ⊢
  have HGG := Lib.hid (show w.heap.size ≤ g by omega)
  clear hw1 hgg
  go_wp2_with fail
  refine (dev_permitted L.length w1 (by omega)).mono ?_
  rintro e w2 ⟨rfl, rfl⟩
  rw [HG.out]
  go_wp2_with fail
  refine (dev_levels L h ao cap w2 LE.out (HE.out.below HB1.out) HN.out h8 (HK.out.below HB1.out)).mono ?_
  rintro e w3 ⟨⟨v, S, rfl, hov, hlv⟩, hb3⟩
  obtain ⟨g0, c0, rfl, hg0⟩ := hov.formB (by rw [hlv.len]; omega)
  rw [hlv.len] at hov ⊢
  obtain ⟨aj, cj, hsj, hej⟩ := hlv.get ((HE.out.below HB1.out).below hb3) LE.out rfl HN.out (Nat.le_refl _) (Nat.le_refl _)
  have hc := hov.get hlv.len.symm hsj
  rw [HO.out] at hc
  obtain ⟨b, o, rfl, hbb⟩ := hej.some (by rw [lvl_len, HO.out]; decide)
  have hx := hej.get (i := 0) (by rw [lvl_len, HO.out]; decide)
  rw [HAT.out] at hx
  have HX := Lib.hid hx
  obtain ⟨hx1, hx2⟩ := atN_ok LE.out h 0 (by rw [Nat.zero_mul, HN.out]; exact Nat.two_pow_pos h)
  obtain ⟨x, hxe⟩ : ∃ x, atN L h 0 = x := ⟨_, rfl⟩
  rw [hxe] at HX hx1
  have HXE := Shut.mk hxe
  have HX1 := Lib.hid hx1
  have HR3 := Lib.hid (HR1.out.below hb3)
  have HB3 := Lib.hid (HB1.out.trans (hb3.mono HB1.out.size))
  have HI := Lib.hid (show (Tryz.prog.info? 29).map (·.size) = some x.length by rw [HX1.out]; exact Tryz.infoE)
  have HL2 := Lib.hid (show (List.replicate 16 0).length = x.length by rw [HX1.out]; rfl)
  clear hov hlv hb3 hg0 hsj hej hx hbb hx1 hx2 hxe HR1 HB1
  have hsub : ((h + 1 : Nat) : Int) - 1 = (h : Int) := by omega
  go_wp2_with (first
    | (refine wpList_load_elem rfl 29 _ rfl b (o + 0 * 16) x _ rfl HX.out Tryz.underlying29 rfl HI.out ?_)
    | (refine wpList_store_nums rfl 29 _ _ rfl rfl g .u8 _ x 29 rfl rfl HR3.out HI.out HL2.out ?_))
  intro w7 hc' hb'
  have HC7 := Lib.hid (show Blk g 29 .u8 x w7 from hc'.out)
  have HB7 := Lib.hid (show Below w.heap.size w w7 from But.toBelow HB3.out hb'.out HGG.out HB3.out.size)
  clear hc' hb'
  go_wp2_with fail
  exact bodyPost_ret (results_nums_tmp rfl _ _ g .u8 _ 29 _ _ rfl rfl HC7.out Tryz.underlying29 rfl HI.out) rfl ⟨by rw [HXE.out]; rfl, HB7.out⟩
set_option maxHeartbeats 1000000 in
set_option maxRecDepth 100000 in
theorem dev_path (L : List (List Nat)) (h i : Nat) (ao : Option Addr) (cap : Nat) (w : World) (hL : Elems L) (hE : EAt ao L w) (hg : goodN L.length = true) (hn : L.length = 2 ^ h) (h8 : h ≤ 8) (hi : i < L.length) (hkat : KAt w) :
    Calls Tryz.prog 46 #[.int .i64 i, .slice ao L.length cap] w fun e w' => (∃ v, e = .returned (.tuple #[v, .int .i64 0]) ∧ OwnE w.heap.size 29 v (pathN L i h) w') ∧ Below w.heap.size w w' := by
  obtain ⟨i0, hi0, hz0, hz1, hz2⟩ := info_parts Tryz.infoE16
  have HIF := Lib.hid hi0
  have HZ0 := Lib.hid hz0
  have HZ1 := Lib.hid hz1
  have HZ2 := Lib.hid hz2
  have HG := Shut.mk hg
  have HN := Shut.mk hn
  have HE := Lib.hid hE
  have LE := Lib.hid hL
  have HK := Lib.hid hkat
  have h256 := goodN_le hg
  have HPO := Lib.hid (pathN_ok hL hn hi (Nat.le_refl h))
  have HSI := Lib.hid (fun k (hk : k < h) => show sibN (i / 2 ^ k) < L.length / 2 ^ k by rw [hn]; exact sib_lt hk (by rw [← hn]; exact hi))
  have HQ := Lib.hid (fun k => show i / 2 ^ k < 256 from Nat.lt_of_le_of_lt (Nat.div_le_self _ _) (by omega))
  clear hg hn hE hL hkat hi0 hz0 hz1 hz2
  go_enter Tryz.func46, Tryz.ntmps46
  go_wp2_with fail
  refine (dev_permitted L.length w (by omega)).mono ?_
  rintro e w2 ⟨rfl, rfl⟩
  rw [HG.out]
  have hlt : ¬ (L.length : Int) ≤ (i : Int) := by omega
  go_wp2_with fail
  refine (dev_levels L h ao cap w2 LE.out HE.out HN.out h8 HK.out).mono ?_
  rintro e w3 ⟨⟨v, S, rfl, hov, hlv⟩, hb3⟩
  obtain ⟨g0, c0, rfl, hg0⟩ := hov.formB (by rw [hlv.len]; omega)
  rw [hlv.len] at hov ⊢
  have HOV := Lib.hid hov
  have HLV := Lib.hid hlv
  have HG0 := Lib.hid hg0
  have HB3 := Lib.hid hb3
  have HE3 := Lib.hid (HE.out.below hb3)
  clear hov hlv hb3 hg0
  have hsub : ((h + 1 : Nat) : Int) - 1 = (h : Int) := by omega
  go_wp2_with (at_make; refine wpList_make_full _ rfl _ _ 34 rfl w3.heap.size 29 i0 _ 16 Tryz.underlying34 HIF.out HZ0.out HZ1.out .i64 .i64 _ _ h rfl rfl rfl rfl (by rw [HZ2.out]; omega) (by unfold maxLen; omega) (Nat.le_refl _) ?_)
  intro w4 ho4 hg4
  have hb4 : Below w3.heap.size w3 w4 := (Below.refl w3.heap.size w3).grown hg4 (Nat.le_refl _) (by intro g hg; cases hg)
  have HO4 := Lib.hid (show OwnE w3.heap.size 29 (.slice (some ⟨w3.heap.size, 0, none⟩) h h) (partR L i h 0) w4 by rw [partR_zero]; exact OwnE.made ho4)
  have HB4 := Lib.hid hb4
  obtain ⟨g, hg⟩ : ∃ g, g = w3.heap.size := ⟨_, rfl⟩
  rw [← hg] at HO4 ⊢
  have HGE := Lib.hid hg
  clear ho4 hg4 hb4 hg
  go_wp2_with fail
  go_loopw [32] (fun n wq => ∃ k : Nat, k ≤ h ∧ n = .int .i64 k ∧ OwnE g 29 (.slice (some ⟨g, 0, none⟩) h h) (partR L i h k) wq ∧ Below w3.heap.size w3 wq) (fun n _ => h - (intOf n).toNat)
  case atStart => exact ⟨0, by omega, rfl, HO4.out, HB4.out⟩
  case round =>
    clear HO4 HB4
    obtain ⟨k, hk, rfl, hok, hbk⟩ := hrel
    have HOK := Lib.hid hok
    have HBK := Lib.hid hbk
    by_cases hlk : k < h
    · have hlk2 : (k : Int) < (h : Int) := by omega
      obtain ⟨aj, cj, hsj, hej⟩ := HLV.out.get HE3.out LE.out rfl HN.out (Nat.le_refl _) (Nat.le_of_lt hlk)
      have hs := HSI.out k hlk
      have hsx := bits_xor_one (HQ.out k)
      rw [show ((i / 2 ^ k : Nat) : Int) = (i : Int) / 2 ^ k by simp] at hsx
      have hat := lvl_get L hs
      have HPS := Shut.mk (partR_set L i (m := h) hlk)
      obtain ⟨hx1, hx2⟩ := atN_ok LE.out k (sibN (i / 2 ^ k)) (by rw [HN.out]; exact Nat.lt_of_lt_of_le (Nat.mul_lt_mul_of_pos_right hs (Nat.two_pow_pos k)) (by rw [HN.out]; exact Nat.div_mul_le_self _ _))
      obtain ⟨b, o, rfl, hbb⟩ := hej.some (by rw [lvl_len]; omega)
      have hx := hej.get (i := sibN (i / 2 ^ k)) (by rw [lvl_len]; exact hs)
      rw [hat] at hx
      have HX := Lib.hid (rangeAt_below hx hbk hbb)
      have hc := (HOV.out.below hbk).get HLV.out.len.symm hsj
      have HPE := Lib.hid (show Elems (partR L i h k) from (pathN_ok LE.out HN.out hi (Nat.le_of_lt hlk)).append (Elems.zeros _))
      have HPL := Lib.hid (partR_len L i (Nat.le_of_lt hlk))
      obtain ⟨s, hse⟩ : ∃ s, sibN (i / 2 ^ k) = s := ⟨_, rfl⟩
      obtain ⟨x, hxe⟩ : ∃ x, atN L k s = x := ⟨_, rfl⟩
      obtain ⟨m, hm⟩ : ∃ m, L.length / 2 ^ k = m := ⟨_, rfl⟩
      rw [hse] at hs hsx HPS HX hx1 hx2
      rw [hxe] at HPS HX hx1 hx2
      rw [hm] at hs hc
      have HX1 := Lib.hid hx1
      have HX2 := Lib.hid hx2
      clear hsj hej hat hx hbb hse hxe hm hx1 hx2 hok hbk
      have hs2 : (s : Int) < (m : Int) := by omega
      have HI := Lib.hid (show (Tryz.prog.info? 29).map (·.size) = some x.length by rw [HX1.out]; exact Tryz.infoE)
      have HGK := Lib.hid (show w3.heap.size ≤ g by rw [HGE.out]; exact Nat.le_refl _)
      go_wp2_with (first
        | (refine wpList_load_elem rfl 29 _ rfl b (o + s * 16) x _ rfl HX.out Tryz.underlying29 rfl HI.out ?_)
        | (refine wpList_store_elem rfl 29 _ _ rfl rfl g g h h k (k * 16) 29 (partR L i h k) x HPL.out.symm (Nat.mul_comm _ _) rfl rfl HOK.out HPE.out hlk HX1.out HX2.out Tryz.infoE ?_))
      intro w5 ho5 hb5
      have HO5 := Lib.hid (show OwnE g 29 (.slice (some ⟨g, 0, none⟩) h h) (partR L i h (k + 1)) w5 by rw [← HPS.out]; exact ho5.out)
      have HB5 := Lib.hid (show Below w3.heap.size w3 w5 from But.toBelow HBK.out hb5.out HGK.out HBK.out.size)
      clear ho5 hb5 HOK HBK HPS HPE HPL hc hsx
      go_wp2_with fail
      exact ⟨⟨k + 1, by omega, by go_num, HO5.out, HB5.out⟩, by simp [intOf]; omega⟩
    · obtain rfl : k = h := by omega
      rw [partR_full] at HOK
      have hnw : ¬ (k : Int) < (k : Int) := by omega
      have HOR := Lib.hid (HOK.out.mono (show w2.heap.size ≤ g by rw [HGE.out]; exact HB3.out.size))
      have HBR := Lib.hid (HB3.out.trans (hbk.mono HB3.out.size))
      clear hok hbk HOK HBK
      go_wp2_with fail
      go_ret2
      exact ⟨⟨_, rfl, HOR.out⟩, HBR.out⟩
end Go.Proofs.YtpfhlhcnmeodbaaGreatDoor
namespace Go.Proofs
open Go.Shelf Go.RowKit
def Tryz.laysM316_ren : Go.Shelf.Ren := ⟨fun | 316 => 65 | n => n, fun | 9 => 9 | 3 => 3 | 4 => 4 | 37 => 97 | 0 => 0 | 127 => 137 | 5 => 5 | n => n, fun | n => n⟩
theorem Tryz.laysM316 : Go.Proofs.LaysM.n316 Tryz.prog Tryz.laysM316_ren := {
  mixed := by kernel_rfl
  f316 := Tryz.func65.trans (congrArg some (by kernel_rfl))
  t0 := Tryz.underlying0
  a0 := Tryz.isAgg0
  z0 := Tryz.sizeOf0
  v0 := Tryz.zeroValue0
  t3 := Tryz.underlying3
  a3 := Tryz.isAgg3
  z3 := Tryz.sizeOf3
  v3 := Tryz.zeroValue3
  t4 := Tryz.underlying4
  a4 := Tryz.isAgg4
  z4 := Tryz.sizeOf4
  v4 := Tryz.zeroValue4
  t9 := Tryz.underlying9
  a9 := Tryz.isAgg9
  z9 := Tryz.sizeOf9
  v9 := Tryz.zeroValue9
  t37 := Tryz.underlying97
  a37 := Tryz.isAgg97
  z37 := Tryz.sizeOf97
  v37 := Tryz.zeroValue97
  t127 := Tryz.underlying137
  a127 := Tryz.isAgg137
  z127 := Tryz.sizeOf137
  v127 := Tryz.zeroValue137
  t5 := Tryz.underlying5
  a5 := Tryz.isAgg5
  z5 := Tryz.sizeOf5
  v5 := Tryz.zeroValue5
  i0 := by kernel_rfl
  i3 := by kernel_rfl
  i4 := by kernel_rfl
  i5 := by kernel_rfl
  i9 := by kernel_rfl
  i37 := by kernel_rfl
  i127 := by kernel_rfl }
theorem Tryz.stringslite_Clone (s : ByteArray) (w : World) (hlim : s.size ≤ 281474976710656) :
    Calls Tryz.prog 65 #[.string s] w fun e w' => e = .returned (.string s) ∧ Below w.heap.size w w' := Any.stringslite_Clone Tryz.laysM316 s w hlim
end Go.Proofs
namespace Go.Proofs.YtpfhlhcnmeodbaaGreatDoor
open Go.RowKit Go.BigFrame
theorem goodN_two {h : Nat} (h8 : h ≤ 8) : goodN (2 ^ h) = true := by
  have key : ∀ n : Fin 9, goodN (2 ^ n.val) = true := by decide
  exact key ⟨h, by omega⟩
theorem shl_two {h : Nat} (h8 : h ≤ 8) : wrap64 ((2 : Int) ^ h) = ((2 ^ h : Nat) : Int) := by
  have key : ∀ n : Fin 9, wrap64 ((2 : Int) ^ n.val) = ((2 ^ n.val : Nat) : Int) := by decide +kernel
  exact key ⟨h, by omega⟩
theorem two_le {h : Nat} (h8 : h ≤ 8) : 2 ^ h ≤ 256 := Nat.le_trans (Nat.pow_le_pow_right (by decide) h8) (by decide)
def partF (seed : List UInt8) (n i : Nat) : List (List Nat) := leavesN seed i ++ List.replicate (n - i) (List.replicate 16 0)
theorem partF_zero (seed : List UInt8) (n : Nat) : partF seed n 0 = List.replicate n (List.replicate 16 0) := by simp [partF, leavesN]
theorem partF_full (seed : List UInt8) (n : Nat) : partF seed n n = leavesN seed n := by simp [partF]
theorem partF_len (seed : List UInt8) {n i : Nat} (h : i ≤ n) : (partF seed n i).length = n := by
  rw [partF, List.length_append, leavesN_len, List.length_replicate]; omega
theorem partF_ok (seed : List UInt8) (n i : Nat) : Elems (partF seed n i) := (leavesN_ok seed i).append (Elems.zeros _)
theorem partF_set (seed : List UInt8) {n i : Nat} (h : i < n) : (partF seed n i).set i (leafN seed (i : Int)) = partF seed n (i + 1) := by
  rw [partF, partF, leavesN_next, List.set_append_right _ _ (by rw [leavesN_len]; exact Nat.le_refl _), leavesN_len, Nat.sub_self, show n - i = (n - (i + 1)) + 1 by omega, List.replicate_succ, List.set_cons_zero, List.append_assoc]
  rfl
def keysV (seed : List UInt8) (ao : Option Addr) (n cap : Nat) (root : List Nat) (h : Int) : Array Value := (Value.string ⟨seed.toArray⟩ :: Value.slice ao n cap :: (nums .u8 root ++ [Value.int .i64 h])).toArray
structure KeysIs (v : Value) (seed : List UInt8) (h : Nat) (w : World) : Prop where
  lie : ∃ g ao cap, v = .pointer (some ⟨g, 0, none⟩) ∧ Cells g 91 (keysV seed ao (2 ^ h) cap (rootK seed h) h) w ∧ EAt ao (leavesN seed (2 ^ h)) w
  low : 1 ≤ h
  high : h ≤ 8
  short : seed.length ≤ 64
theorem KeysIs.ptr {v : Value} {seed : List UInt8} {h : Nat} {w : World} (k : KeysIs v seed h w) : ∃ a, v = .pointer (some a) := by
  obtain ⟨g, _, _, hv, _⟩ := k.lie
  exact ⟨_, hv⟩
theorem KeysIs.below {v : Value} {seed : List UInt8} {h : Nat} {w w' : World} (k : KeysIs v seed h w) (hb : Below w.heap.size w w') : KeysIs v seed h w' := by
  obtain ⟨g, ao, cap, hv, hc, he⟩ := k.lie
  exact ⟨⟨g, ao, cap, hv, hc.below hb, he.below hb⟩, k.low, k.high, k.short⟩
theorem keys_seed {g : Nat} {t : TypeId} {seed : List UInt8} {ao : Option Addr} {n cap : Nat} {root : List Nat} {h : Int} {w : World} (hc : Cells g t (keysV seed ao n cap root h) w) : w.cell? ⟨g, 0, none⟩ = some (.string ⟨seed.toArray⟩) := by
  rw [Lib.cell_of_heap hc]; rfl
theorem keys_leaves {g : Nat} {t : TypeId} {seed : List UInt8} {ao : Option Addr} {n cap : Nat} {root : List Nat} {h : Int} {w : World} (hc : Cells g t (keysV seed ao n cap root h) w) : w.cell? ⟨g, 1, none⟩ = some (.slice ao n cap) := by
  rw [Lib.cell_of_heap hc]; rfl
theorem keys_node {g : Nat} {t : TypeId} {seed : List UInt8} {ao : Option Addr} {n cap : Nat} {root : List Nat} {h : Int} {w : World} (hc : Cells g t (keysV seed ao n cap root h) w) : w.rangeAt g 2 (nodeV root h).toList := by
  intro j v hj
  rw [Lib.cell_of_heap hc, keysV, List.getElem?_toArray, Nat.add_comm 2 j, List.getElem?_cons_succ, List.getElem?_cons_succ]
  exact hj
theorem keys_root {g : Nat} {t : TypeId} {seed : List UInt8} {ao : Option Addr} {n cap : Nat} {root : List Nat} {h : Int} {w : World} (hc : Cells g t (keysV seed ao n cap root h) w) : w.rangeAt g 2 (nums .u8 root) := by
  intro j v hj
  refine keys_node hc j v ?_
  rw [nodeV, List.getElem?_append_left (List.getElem?_eq_some_iff.1 hj).1]
  exact hj
theorem clone6 (s : ByteArray) (w : World) (hlim : s.size ≤ 281474976710656) :
    Calls Tryz.prog 39 #[.string s] w fun e w' => e = .returned (.string s) ∧ Below w.heap.size w w' := by
  go_enter Tryz.func39, Tryz.ntmps39
  go_wp2_with fail
  refine (Tryz.stringslite_Clone s _ hlim).mono ?_
  rintro e w1 ⟨rfl, hb⟩
  have HB := Lib.hid hb
  clear hb
  go_wp2_with fail
  go_ret
  exact ⟨rfl, HB.out⟩
set_option maxHeartbeats 1000000 in
theorem dev_valid (h : Int) (w : World) (b : Bool) (hb : decide (1 ≤ h ∧ h ≤ 8) = b) :
    Calls Tryz.prog 36 #[.int .i64 h] w fun e w' => e = .returned (.bool b) ∧ w' = w := by
  have HB := Shut.mk hb
  clear hb
  go_enter Tryz.func36, Tryz.ntmps36
  by_cases h1 : h < 1
  · go_wp2_with fail
    go_ret
    exact ⟨by rw [← HB.out, decide_eq_false (show ¬ (1 ≤ h ∧ h ≤ 8) by omega)]; rfl, rfl⟩
  · by_cases h8 : h ≤ 8
    · go_wp2_with fail
      go_ret
      exact ⟨by rw [← HB.out, decide_eq_true (show 1 ≤ h ∧ h ≤ 8 by omega)]; rfl, rfl⟩
    · go_wp2_with fail
      go_ret
      exact ⟨by rw [← HB.out, decide_eq_false (show ¬ (1 ≤ h ∧ h ≤ 8) by omega)]; rfl, rfl⟩
end Go.Proofs.YtpfhlhcnmeodbaaGreatDoor
namespace Go.Proofs.YtpfhlhcnmeodbaaGreatDoor
open Go.RowKit Go.BigFrame
def allH (L : List EntN) : List (List Nat) := zeroI :: leadN zeroI 1 L
theorem allH_len (L : List EntN) : (allH L).length = L.length + 1 := by rw [allH, List.length_cons, leadN_len]
theorem allH_ok (L : List EntN) : Ids (allH L) := fun x hx => by
  rcases List.mem_cons.1 hx with rfl | hx
  · exact zeroI_ok
  · exact leadN_ok L _ _ x hx
theorem allH_get (L : List EntN) {k : Nat} (hk : k ≤ L.length) : (allH L)[k]? = some (hashL L k) := by
  cases k with
  | zero => rfl
  | succ k => rw [allH, List.getElem?_cons_succ, leadN_get _ _ (by omega), hashL]
theorem allH_getD (L : List EntN) {k : Nat} (hk : k ≤ L.length) : (allH L).getD k [] = hashL L k := by rw [List.getD_eq_getElem?_getD, allH_get L hk]; rfl
theorem allH_app (L M : List EntN) : allH (L ++ M) = allH L ++ leadN (hashL L L.length) (1 + L.length) M := by
  rw [allH, leadN_app, allH, hashL, List.take_length]
  rfl
def logO (b : Nat) (vL vH : Value) : Nat → Prop := fun x => x = b ∨ vL.ownBlock = some x ∨ vH.ownBlock = some x
structure LogAt (N b : Nat) (kv vL vH : Value) (nd : Int) (seed : List UInt8) (h : Nat) (L : List EntN) (w : World) : Prop where
  cells : Cells b 78 #[.int .i64 nd, kv, vL, vH] w
  ents : OwnE15 0 vL L w
  ids : OwnI 0 43 vH (allH L) w
  keys : ∃ w0 : World, w0.heap.size ≤ N ∧ KeysIs kv seed h w0 ∧ Below w0.heap.size w0 w
  late : ∀ x, logO b vL vH x → N ≤ x
  few : L.length ≤ 2 ^ h
  node : 0 ≤ nd ∧ nd ≤ 4
def LogIs (N : Nat) (O : Nat → Prop) (v : Value) (nd : Int) (seed : List UInt8) (h : Nat) (L : List EntN) (w : World) : Prop :=
  ∃ b kv vL vH, v = .pointer (some ⟨b, 0, none⟩) ∧ O = logO b vL vH ∧ LogAt N b kv vL vH nd seed h L w
theorem OwnE15.only {B : Nat} {P : Nat → Prop} {v : Value} {L : List EntN} {w w' : World} (h : OwnE15 B v L w) (k : Only P w w') (hP : ∀ b, v.ownBlock = some b → ¬ P b) : OwnE15 B v L w' := by
  refine ⟨⟨h.1.1, ?_⟩, h.2⟩
  rcases h.1.2 with h2 | ⟨g, cap, cur, h1, h2, h3, h4, h5⟩
  · exact .inl h2
  · exact .inr ⟨g, cap, cur, h1, h2, (k.block g (lt_of_block h3) (hP g (by rw [h1]; rfl))).trans h3, h4, h5⟩
theorem OwnI.only16 {B : Nat} {P : Nat → Prop} {e : TypeId} {v : Value} {L : List (List Nat)} {w w' : World} (h : OwnI B e v L w) (k : Only P w w') (hP : ∀ b, v.ownBlock = some b → ¬ P b) : OwnI B e v L w' := by
  refine ⟨h.1, ?_⟩
  rcases h.2 with h2 | ⟨g, cap, cur, h1, h2, h3, h4, h5⟩
  · exact .inl h2
  · exact .inr ⟨g, cap, cur, h1, h2, (k.block g (lt_of_block h3) (hP g (by rw [h1]; rfl))).trans h3, h4, h5⟩
theorem LogAt.only {N b : Nat} {P : Nat → Prop} {kv vL vH : Value} {nd : Int} {seed : List UInt8} {h : Nat} {L : List EntN} {w w' : World} (l : LogAt N b kv vL vH nd seed h L w) (k : Only P w w') (hP : ∀ x, logO b vL vH x → ¬ P x) (hN : ∀ x, P x → N ≤ x) : LogAt N b kv vL vH nd seed h L w' := by
  obtain ⟨w0, h0, hk, hb⟩ := l.keys
  exact ⟨l.cells.only k (hP b (.inl rfl)), l.ents.only k (fun x hx => hP x (.inr (.inl hx))), l.ids.only16 k (fun x hx => hP x (.inr (.inr hx))), ⟨w0, h0, hk, Only.toBelow hb k (fun x hx => Nat.le_trans h0 (hN x hx)) hb.size⟩, l.late, l.few, l.node⟩
theorem LogIs.only {N : Nat} {O P : Nat → Prop} {v : Value} {nd : Int} {seed : List UInt8} {h : Nat} {L : List EntN} {w w' : World} (l : LogIs N O v nd seed h L w) (k : Only P w w') (hP : ∀ x, O x → ¬ P x) (hN : ∀ x, P x → N ≤ x) : LogIs N O v nd seed h L w' := by
  obtain ⟨b, kv, vL, vH, rfl, rfl, l⟩ := l
  exact ⟨b, kv, vL, vH, rfl, rfl, l.only k hP hN⟩
theorem LogIs.below {N : Nat} {O : Nat → Prop} {v : Value} {nd : Int} {seed : List UInt8} {h : Nat} {L : List EntN} {w w' : World} (l : LogIs N O v nd seed h L w) (k : Below w.heap.size w w') : LogIs N O v nd seed h L w' := l.only (Only.of (O := fun _ => False) k) (fun _ _ => id) (fun _ h => h.elim)
theorem LogIs.ptr {N : Nat} {O : Nat → Prop} {v : Value} {nd : Int} {seed : List UInt8} {h : Nat} {L : List EntN} {w : World} (l : LogIs N O v nd seed h L w) : ∃ a, v = .pointer (some a) := by
  obtain ⟨b, kv, vL, vH, rfl, _⟩ := l
  exact ⟨_, rfl⟩
theorem LogIs.late {N : Nat} {O : Nat → Prop} {v : Value} {nd : Int} {seed : List UInt8} {h : Nat} {L : List EntN} {w : World} (l : LogIs N O v nd seed h L w) (x : Nat) (hx : O x) : N ≤ x := by
  obtain ⟨b, kv, vL, vH, rfl, rfl, l⟩ := l
  exact l.late x hx
theorem LogIs.lt {N : Nat} {O : Nat → Prop} {v : Value} {nd : Int} {seed : List UInt8} {h : Nat} {L : List EntN} {w : World} (l : LogIs N O v nd seed h L w) (x : Nat) (hx : O x) : x < w.heap.size := by
  obtain ⟨b, kv, vL, vH, rfl, rfl, l⟩ := l
  rcases hx with rfl | hx | hx
  · exact l.cells.lt
  · exact (World.ownsRow.lt l.ents.1 x hx).2
  · exact (World.ownsRow.lt l.ids x hx).2
end Go.Proofs.YtpfhlhcnmeodbaaGreatDoor
namespace Go.Proofs.YtpfhlhcnmeodbaaGreatDoor
open Go.RowKit Go.BigFrame
theorem quiet_indexAt {P : Program} {o : Oper} {a : Act} {C : World → Prop} {K : Act → Prop} (ty : TypeId) (x y : Operand) (ho : o.op = .indexAddr ty x y) (vx vy : Value) (q : Addr) (hx : a.eval x = vx) (hy : a.eval y = vy) (hr : ∀ w, (Instr.indexAt ty vx vy).run P w = .ok (.pointer (some q)) w) (hk : K (a.put o.dst (.pointer (some q)))) : o.quiet P a C K := by
  refine ⟨_, fun w _ => ?_, hk⟩
  unfold Oper.quietAt execOp
  simp only [ho, hx, hy, Sem.run_bind, hr w, Result.andThen_ok, Sem.run_pure]
  exact ⟨rfl, rfl⟩
end Go.Proofs.YtpfhlhcnmeodbaaGreatDoor
namespace Go.Proofs.YtpfhlhcnmeodbaaGreatDoor
open Go.RowKit Go.BigFrame
def refLogO (g : Nat) (la : Option Addr) (v : Value) : Nat → Prop := fun x => x = g ∨ (∃ a, la = some a ∧ a.block = x) ∨ v.ownBlock = some x
def RLog (R : Nat → Prop) (g : Nat) (nd : Int) (seed : List UInt8) (h : Nat) (L : List EntN) (w : World) : Prop :=
  ∃ la lc v, R = refLogO g la v ∧ Cells g 37 #[.int .i64 nd, .string ⟨seed.toArray⟩, .slice la ((2 ^ h : Nat)) lc, v] w ∧ EAt la (leavesN seed (2 ^ h)) w ∧ OwnE15 0 v L w
theorem EAt.only16 {P : Nat → Prop} {ao : Option Addr} {L : List (List Nat)} {w w' : World} (h : EAt ao L w) (k : Only P w w') (hP : ∀ a, ao = Option.some a → ¬ P a.block) : EAt ao L w' := by
  rcases h with h | ⟨b, o, h1, h2, h3⟩
  · exact .inl h
  · exact .inr ⟨b, o, h1, Nat.lt_of_lt_of_le h2 k.size, fun i hi j v hv => (World.cell?_of_block (w := w) (a := ⟨b, o + 16 * i + j, none⟩) (k.block b h2 (hP _ h1))).trans (h3 i hi j v hv)⟩
theorem RLog.only {R P : Nat → Prop} {g : Nat} {nd : Int} {seed : List UInt8} {h : Nat} {L : List EntN} {w w' : World} (l : RLog R g nd seed h L w) (k : Only P w w') (hP : ∀ x, R x → ¬ P x) : RLog R g nd seed h L w' := by
  obtain ⟨la, lc, v, rfl, hc, he, ho⟩ := l
  exact ⟨la, lc, v, rfl, hc.only k (hP g (.inl rfl)), he.only16 k (fun a ha => hP _ (.inr (.inl ⟨a, ha, rfl⟩))), ho.only k (fun b hb => hP b (.inr (.inr hb)))⟩
theorem RLog.below {R : Nat → Prop} {g : Nat} {nd : Int} {seed : List UInt8} {h : Nat} {L : List EntN} {w w' : World} (l : RLog R g nd seed h L w) (k : Below w.heap.size w w') : RLog R g nd seed h L w' := l.only (Only.of (O := fun _ => False) k) (fun _ _ => id)
theorem RLog.lt {R : Nat → Prop} {g : Nat} {nd : Int} {seed : List UInt8} {h : Nat} {L : List EntN} {w : World} (l : RLog R g nd seed h L w) {x : Nat} (hx : R x) : x < w.heap.size := by
  obtain ⟨la, lc, v, rfl, hc, he, ho⟩ := l
  rcases hx with rfl | ⟨a, rfl, rfl⟩ | hx
  · exact hc.lt
  · obtain ⟨b, o, e, hb⟩ := he.some (by rw [leavesN_len]; exact Nat.two_pow_pos h)
    cases e
    exact hb
  · exact (World.ownsRow.lt ho.1 x hx).2
theorem index_ent (b o n c j : Nat) (hj : j < n) (w : World) : (Instr.indexAt 35 (.slice (some ⟨b, o, none⟩) n c) (.int .i64 (j : Int))).run Tryz.prog w = .ok (.pointer (some ⟨b, o + j * 73, none⟩)) w := by
  have h1 : (j : Int) < (n : Int) := by omega
  go_simp
theorem add_one16 (k : Nat) (hk : k ≤ 1000000) (w : World) : (binOp .add 3 (.int .i64 (k : Int)) (.int .i64 1)).run Tryz.prog w = .ok (.int .i64 ((k : Int) + 1)) w := by
  have h4 : IntKind.i64.wrap ((k : Int) + 1) = (k : Int) + 1 := by
    simp [IntKind.wrap, IntKind.bits, IntKind.signed]
    omega
  go_simp
theorem Tryz.built_id0 : Tryz.prog.built 43 [] = some (nums .u8 zeroI).toArray := by kernel_rfl
theorem built_id0 : Tryz.prog.built 43 [] = some (nums .u8 zeroI).toArray := Tryz.built_id0
theorem hashL_zero (L : List EntN) : hashL L 0 = zeroI := by simp [hashL, endN]
theorem hashL_next {L : List EntN} {k : Nat} {y : EntN} (hy : L[k]? = some y) : hashL L (k + 1) = linkN (hashL L k) ((k : Int) + 1) y := by
  have hk : k < L.length := (List.getElem?_eq_some_iff.1 hy).1
  rw [hashL, List.take_add_one, hy, hashL]
  show endN zeroI 1 (L.take k ++ [y]) = _
  rw [endN_snoc, List.length_take, Nat.min_eq_left (Nat.le_of_lt hk), Int.add_comm]
set_option maxHeartbeats 4000000 in
set_option maxRecDepth 100000 in
theorem ref_hash16 {R : Nat → Prop} {g : Nat} {nd : Int} {seed : List UInt8} {h : Nat} {L : List EntN} (q : Nat) (w : World) (l : RLog R g nd seed h L w) (hq : q ≤ L.length) (hL : ∀ x ∈ L, x.Len ∧ x.seq < 9223372036854775808) (hn : L.length ≤ 1000000) :
    Calls Tryz.prog 23 #[.pointer (some ⟨g, 0, none⟩), .int .i64 (q : Int)] w fun r w' => r = .returned (.agg (nums .u8 (hashL L q)).toArray) ∧ Below w.heap.size w w' := by
  obtain ⟨la, lc, v, rfl, hc, _, ho⟩ := l
  obtain ⟨ao, ca, rfl⟩ := ho.form
  have HAT := Lib.hid ho.at
  have HC := Lib.hid hc
  have HLL := Lib.hid hL
  obtain ⟨n, hnn⟩ : ∃ n, L.length = n := ⟨_, rfl⟩
  have HN := Shut.mk hnn
  rw [hnn] at hq hn HC
  have HZI := Lib.hid (show (Tryz.prog.info? 43).bind (·.zero) = some (.agg (nums .u8 zeroI).toArray) by kernel_rfl)
  have HSI := Lib.hid (show (Tryz.prog.info? 43).map (·.size) = some zeroI.length by exact Tryz.sizeI)
  clear hc ho hL hnn
  go_enter Tryz.func23, Tryz.ntmps23
  go_upto_region 1 with (first
    | (refine wpList_alloc_of rfl 43 rfl (nums .u8 zeroI) HZI.out ?_))
  simp only [Act.put, List.setIfInBounds_toArray, List.set_cons_zero, List.set_cons_succ]
  have hb1 : Below w.heap.size w (w.alloc (.cells (nums .u8 zeroI).toArray 43)) := (Below.refl _ _).alloc (Nat.le_refl _) _
  obtain ⟨w1, hw1⟩ : ∃ x, x = w.alloc (.cells (nums .u8 zeroI).toArray 43) := ⟨_, rfl⟩
  rw [← hw1] at hb1 ⊢
  have HR1 := Lib.hid (show Blk w.heap.size 43 .u8 zeroI w1 by rw [hw1]; exact heap_alloc_new w _)
  have HB1 := Lib.hid hb1
  have HS1 := Lib.hid (show w1.heap.size = w.heap.size + 1 by rw [hw1, World.size_alloc])
  clear hw1 hb1
  refine wp_region_lit ?_
  refine wpList_build_val rfl 43 #[] rfl [] _ (by simp) built_id0 ?_
  refine wpList_alloc_of rfl 43 rfl (nums .u8 zeroI) HZI.out ?_
  refine wpList_store_nums rfl 43 (.tmp 5) (.tmp 7) rfl rfl w1.heap.size .u8 zeroI zeroI 43 rfl rfl (heap_alloc_new w1 _) HSI.out rfl ?_
  intro w2 hc hb
  have hb2 : Below w1.heap.size w1 w2 := But.toBelow ((Below.refl _ w1).alloc (Nat.le_refl _) _) hb.out (Nat.le_refl _) (by rw [World.size_alloc]; exact Nat.le_succ _)
  have HC2 := Lib.hid (show Blk w1.heap.size 43 .u8 zeroI w2 from hc.out)
  have HR2 := Lib.hid (HR1.out.below hb2)
  have HB2 := Lib.hid (HB1.out.trans (hb2.mono HB1.out.size))
  obtain ⟨g4, hg4⟩ : ∃ z, z = w.heap.size := ⟨_, rfl⟩
  obtain ⟨g5, hg5⟩ : ∃ z, z = w1.heap.size := ⟨_, rfl⟩
  have H45 := Lib.hid (show w.heap.size ≤ g5 ∧ g4 ≠ g5 ∧ g4 = w.heap.size by rw [hg5, HS1.out, hg4]; omega)
  rw [← hg5] at HC2 ⊢
  rw [← hg4] at HR2 ⊢
  clear hc hb hb2 hg4 hg5 HR1 HB1 HS1
  simp only [Act.put, List.setIfInBounds_toArray, List.set_cons_zero, List.set_cons_succ]
  go_wp2_with fail
  go_loopw [6] (fun j wr => ∃ k : Nat, k ≤ q ∧ j = .int .i64 k ∧ Blk g5 43 .u8 (hashL L k) wr ∧ Blk g4 43 .u8 zeroI wr ∧ Below w.heap.size w wr) (fun j _ => q - (intOf j).toNat)
  case atStart => exact ⟨0, Nat.zero_le _, rfl, by rw [hashL_zero]; exact HC2.out, HR2.out, HB2.out⟩
  case round =>
    clear HC2 HR2 HB2
    obtain ⟨k, hk, rfl, hc, hr, hb⟩ := hrel
    have HCW := Lib.hid hc
    have HRW := Lib.hid hr
    have HBW := Lib.hid hb
    clear hc hr hb
    by_cases hkq : k < q
    · obtain ⟨y, hy⟩ : ∃ y, L[k]? = some y := ⟨_, List.getElem?_eq_getElem (by rw [HN.out]; omega)⟩
      have HY := Lib.hid (HLL.out y (List.mem_of_getElem? hy))
      obtain ⟨b, ob, rfl, hbl, hry⟩ := (HAT.out.below HBW.out).getM hy
      have HRY := Lib.hid (fun (w' : World) (b : Below wr.heap.size wr w') => rangeAt_belowI hry b hbl)
      have HSL := Lib.hid (sizeEL HY.out.1.ok)
      have HIX := Lib.hid (index_ent b ob n ca k (by omega))
      have HNX := Shut.mk (hashL_next hy)
      obtain ⟨E, hE⟩ : ∃ E, hashL L k = E := ⟨_, rfl⟩
      obtain ⟨U, hU⟩ : ∃ U, hashL L (k + 1) = U := ⟨_, rfl⟩
      have HEO := Lib.hid (show IdOk E by rw [← hE]; exact hashL_ok _ _)
      have HUO := Lib.hid (show IdOk U by rw [← hU]; exact hashL_ok _ _)
      have HLK := Lib.hid (fun w' => ref_link E ((k : Int) + 1) y HEO.out (by omega) HY.out.1 HY.out.2 w')
      rw [hE] at HCW HNX
      rw [hU] at HNX
      rw [← HNX.out] at HLK
      have HSE := Lib.hid (show (Tryz.prog.info? 43).map (·.size) = some E.length by rw [HEO.out.1]; exact Tryz.sizeI)
      have HSU := Lib.hid (show (Tryz.prog.info? 43).map (·.size) = some U.length by rw [HUO.out.1]; exact Tryz.sizeI)
      have HUE := Shut.mk hU
      have HCB := Lib.hid (fun (w' : World) (q : Below wr.heap.size wr w') => HCW.out.below q)
      have HC3 := Lib.hid (fun (w' : World) (q : Below wr.heap.size wr w') => show w'.cell? ⟨g, 3, none⟩ = some (.slice (some ⟨b, ob, none⟩) n ca) from (Cells.below (Cells.below HC.out HBW.out) q).at 3)
      have HAD := Lib.hid (add_one16 k (by omega))
      clear hy hbl hry hE hU
      go_upto_region 5 with (fail)
      refine wp_region_class_tail (fun w' => Below wr.heap.size wr w') 11 (by kernel_rfl) (by kernel_rfl) (Below.refl _ _).drew ?_
      simp only [List.take_succ_cons, List.take_zero, List.drop_succ_cons, List.drop_zero]
      repeat (first
        | (go_big_quiet_want; refine quiet_load_nums 43 _ rfl g5 .u8 E 43 _ rfl HCB.out Tryz.underlying43 rfl HSE.out ?_; go_big_quiet_on; simp only [Act.put, List.setIfInBounds_toArray, List.set_cons_zero, List.set_cons_succ])
        | (go_big_quiet_want; refine quiet_load_cell 35 _ rfl ⟨g, 3, none⟩ _ rfl HC3.out Tryz.isAgg35 ?_; go_big_quiet_on; simp only [Act.put, List.setIfInBounds_toArray, List.set_cons_zero, List.set_cons_succ])
        | (go_big_quiet_want; refine quiet_indexAt 35 _ _ rfl _ _ _ rfl rfl HIX.out ?_; go_big_quiet_on; simp only [Act.put, List.setIfInBounds_toArray, List.set_cons_zero, List.set_cons_succ])
        | (go_big_quiet_want; refine quiet_load_row 54 _ rfl b (ob + k * 73) (entL y) _ rfl HRY.out Tryz.underlying54 rfl HSL.out ?_; go_big_quiet_on; simp only [Act.put, List.setIfInBounds_toArray, List.set_cons_zero, List.set_cons_succ])
        | (go_big_quiet_want; refine quiet_bin .add 3 _ _ _ rfl (.int .i64 (k : Int)) (.int .i64 1) _ rfl rfl (fun _ => rfl) HAD.out ?_; go_big_quiet_on; simp only [Act.put, List.setIfInBounds_toArray, List.set_cons_zero, List.set_cons_succ])
        | go_big_quiet_step ((intro hs'; first
            | (go_at_call 43; exact (HLK.out _).mono fun e w' h => ⟨h.1, hs'.trans (h.2.mono hs'.size)⟩)
            | rfl)))
      refine wpQuiet_nil ?_
      intro w3 hs3
      have HC3' := Lib.hid (HCW.out.below hs3)
      have HR3 := Lib.hid (HRW.out.below hs3)
      have HB3 := Lib.hid (HBW.out.trans (hs3.mono HBW.out.size))
      clear hs3 HCW HRW HBW HCB HC3 HRY HLK
      go_wp2_with (refine wpList_store_nums rfl 43 _ _ rfl rfl g5 .u8 E U 43 rfl rfl HC3'.out HSU.out (by rw [HEO.out.1, HUO.out.1]) ?_)
      intro w4 hc4 hb4
      have HC4 := Lib.hid (show Blk g5 43 .u8 U w4 from hc4.out)
      have HR4 := Lib.hid (Cells.but HR3.out hb4.out H45.out.2.1)
      have HB4 := Lib.hid (show Below w.heap.size w w4 from But.toBelow HB3.out hb4.out H45.out.1 HB3.out.size)
      clear hc4 hb4 HC3' HR3 HB3
      go_wp2_with fail
      exact ⟨⟨k + 1, by omega, by go_num, by rw [HUE.out]; exact HC4.out, HR4.out, HB4.out⟩, by simp [intOf]; omega⟩
    · obtain rfl : k = q := by omega
      obtain ⟨E, hE⟩ : ∃ E, hashL L k = E := ⟨_, rfl⟩
      have HEO := Lib.hid (show IdOk E by rw [← hE]; exact hashL_ok _ _)
      rw [hE] at HCW
      have HEQ := Shut.mk hE
      have HSE := Lib.hid (show (Tryz.prog.info? 43).map (·.size) = some E.length by rw [HEO.out.1]; exact Tryz.sizeI)
      have HLZ := Lib.hid (show zeroI.length = E.length by rw [HEO.out.1]; rfl)
      clear hE
      go_wp2_with (first
        | (refine wpList_load_nums rfl 43 _ rfl g5 .u8 E 43 _ rfl HCW.out Tryz.underlying43 rfl HSE.out ?_)
        | (refine wpList_store_nums rfl 43 _ _ rfl rfl g4 .u8 zeroI E 43 rfl rfl HRW.out HSE.out HLZ.out ?_))
      intro w5 hc5 hb5
      have HC5 := Lib.hid (show Blk g4 43 .u8 E w5 from hc5.out)
      have HB5 := Lib.hid (show Below w.heap.size w w5 from But.toBelow HBW.out hb5.out (Nat.le_of_eq H45.out.2.2.symm) HBW.out.size)
      clear hc5 hb5
      go_wp2_with fail
      exact bodyPost_ret (results_nums rfl _ _ g4 .u8 _ 43 _ rfl HC5.out Tryz.underlying43 rfl HSE.out) rfl ⟨by rw [HEQ.out], HB5.out⟩
theorem sub_one16 (k : Nat) (h1 : 1 ≤ k) (hk : k ≤ 1000000) (w : World) : (binOp .sub 3 (.int .i64 (k : Int)) (.int .i64 1)).run Tryz.prog w = .ok (.int .i64 ((k - 1 : Nat) : Int)) w := by
  obtain ⟨m, rfl⟩ : ∃ m, k = m + 1 := ⟨k - 1, by omega⟩
  rw [Nat.add_sub_cancel]
  have h4 : IntKind.i64.wrap (m : Int) = (m : Int) := by
    simp [IntKind.wrap, IntKind.bits, IntKind.signed]
    omega
  go_simp
set_option maxHeartbeats 4000000 in
set_option maxRecDepth 100000 in
theorem ref_auth16 {R : Nat → Prop} {g : Nat} {nd : Int} {seed : List UInt8} {h : Nat} {L : List EntN} (q : Nat) (w : World) (l : RLog R g nd seed h L w) (h1 : 1 ≤ q) (hq : q ≤ L.length) (hqh : q ≤ 2 ^ h) (hL : ∀ x ∈ L, x.Len ∧ x.seq < 9223372036854775808) (hn : L.length ≤ 1000000) (hnd : nd ≤ 9223372036854775807) (hs : seed.length ≤ 4000) (h8 : h ≤ 8) :
    Calls Tryz.prog 25 #[.pointer (some ⟨g, 0, none⟩), .int .i64 (q : Int)] w fun r w' => r = .returned (.agg (autV (authL nd seed h L q))) ∧ Below w.heap.size w w' := by
  have HRH := Lib.hid (fun w' (b : Below w.heap.size w w') => ref_hash16 q w' (l.below b) hq hL hn)
  obtain ⟨la, lc, v, rfl, hc, he, _⟩ := l
  have HC := Lib.hid hc
  have HE := Lib.hid he
  have HEQ := Shut.mk (show authL nd seed h L q = ⟨nd, q, hashL L q, signK seed h (q - 1) (wordB nd q (hashL L q))⟩ from rfl)
  obtain ⟨E, hE⟩ : ∃ E, hashL L q = E := ⟨_, rfl⟩
  have HEO := Lib.hid (show IdOk E by rw [← hE]; exact hashL_ok _ _)
  rw [hE] at HRH HEQ
  have HWR := Lib.hid (fun w' => ref_word nd q E hnd (by omega) HEO.out w')
  have HWL := Lib.hid (show (wordB nd q E).length ≤ 1000000 from Nat.le_trans (wordB_len hnd (by omega) HEO.out) (by decide))
  obtain ⟨T, hT⟩ : ∃ T, wordB nd q E = T := ⟨_, rfl⟩
  rw [hT] at HWR HWL HEQ
  have HSG := Lib.hid (fun w' (b : Below w.heap.size w w') => ref_sign6 seed h (q - 1) T la lc w' hs h8 (by omega) HWL.out (he.below b))
  obtain ⟨SG, hSG⟩ : ∃ s0, signK seed h (q - 1) T = s0 := ⟨_, rfl⟩
  rw [hSG] at HSG HEQ
  have HSU := Lib.hid (sub_one16 q h1 (by omega))
  have HSE := Lib.hid (show (Tryz.prog.info? 43).map (·.size) = some E.length by rw [HEO.out.1]; exact Tryz.sizeI)
  have HZI := Lib.hid (show (Tryz.prog.info? 43).bind (·.zero) = some (.agg (nums .u8 zeroI).toArray) by kernel_rfl)
  have HZA := Lib.hid (show (Tryz.prog.info? 45).bind (·.zero) = some (.agg (autL noA).toArray) by kernel_rfl)
  have HZL := Lib.hid (show zeroI.length = E.length by rw [HEO.out.1]; rfl)
  have HBA := Lib.hid (built_aut ⟨nd, q, E, SG⟩ HEO.out)
  have HSA := Lib.hid (sizeAV (a := ⟨nd, q, E, SG⟩) HEO.out)
  have HVL := Lib.hid (show (autV noA).size = (autV ⟨nd, q, E, SG⟩).size by rw [autV_size (a := ⟨nd, q, E, SG⟩) HEO.out]; rfl)
  have HVA := Lib.hid (autV_all ⟨nd, q, E, SG⟩)
  clear hc he hE hT hSG hL
  go_enter Tryz.func25, Tryz.ntmps25
  go_upto_region 1 with (refine wpList_alloc_of rfl 45 rfl (autL noA) HZA.out ?_)
  simp only [Act.put, List.setIfInBounds_toArray, List.set_cons_zero, List.set_cons_succ]
  have hb1 : Below w.heap.size w (w.alloc (.cells (autL noA).toArray 45)) := (Below.refl _ _).alloc (Nat.le_refl _) _
  obtain ⟨w1, hw1⟩ : ∃ x, x = w.alloc (.cells (autL noA).toArray 45) := ⟨_, rfl⟩
  rw [← hw1] at hb1 ⊢
  have HR1 := Lib.hid (show Cells w.heap.size 45 (autV noA) w1 by rw [hw1]; exact heap_alloc_new w _)
  have HB1 := Lib.hid hb1
  obtain ⟨g4, hg4⟩ : ∃ z, z = w.heap.size := ⟨_, rfl⟩
  have HG4 := Shut.mk hg4
  rw [← hg4] at HR1 ⊢
  clear hw1 hb1 hg4
  go_wp2_with fail
  refine (HRH.out w1 HB1.out).mono ?_
  rintro e w2 ⟨rfl, hb2⟩
  have HR2 := Lib.hid (HR1.out.below hb2)
  have HB2 := Lib.hid (HB1.out.trans (hb2.mono HB1.out.size))
  clear hb2 HR1 HB1 HRH
  go_wp2_with (first
    | (refine wpList_alloc_of rfl 43 rfl (nums .u8 zeroI) HZI.out ?_)
    | (refine wpList_store_nums rfl 43 _ _ rfl rfl w2.heap.size .u8 zeroI E 43 rfl rfl (heap_alloc_new w2 _) HSE.out HZL.out ?_))
  intro w3 hc3 hb3
  have hb33 : Below w2.heap.size w2 w3 := But.toBelow ((Below.refl _ w2).alloc (Nat.le_refl _) _) hb3.out (Nat.le_refl _) (by rw [World.size_alloc]; exact Nat.le_succ _)
  have HC3 := Lib.hid (show Blk w2.heap.size 43 .u8 E w3 from hc3.out)
  have HR3 := Lib.hid (HR2.out.below hb33)
  have HB3 := Lib.hid (HB2.out.trans (hb33.mono HB2.out.size))
  obtain ⟨g5, hg5⟩ : ∃ z, z = w2.heap.size := ⟨_, rfl⟩
  rw [← hg5] at HC3 ⊢
  clear hc3 hb3 hb33 hg5 HR2 HB2
  have HCB := Lib.hid (fun (w' : World) (q : Below w3.heap.size w3 w') => HC3.out.below q)
  have HCG := Lib.hid (fun (w' : World) (q : Below w3.heap.size w3 w') => Cells.below (Cells.below HC.out HB3.out) q)
  have HG0 := Lib.hid (fun (w' : World) (q : Below w3.heap.size w3 w') => show w'.cell? ⟨g, 0, none⟩ = some (.int .i64 nd) from (HCG.out w' q).at 0)
  have HG1 := Lib.hid (fun (w' : World) (q : Below w3.heap.size w3 w') => show w'.cell? ⟨g, 1, none⟩ = some (.string ⟨seed.toArray⟩) from (HCG.out w' q).at 1)
  have HG2 := Lib.hid (fun (w' : World) (q : Below w3.heap.size w3 w') => show w'.cell? ⟨g, 2, none⟩ = some (.slice la ((2 ^ h : Nat)) lc) from (HCG.out w' q).at 2)
  have HSG3 := Lib.hid (fun (w' : World) (q : Below w3.heap.size w3 w') => HSG.out w' (HB3.out.trans (q.mono HB3.out.size)))
  obtain ⟨P2, hP2⟩ : ∃ p, (2 ^ h : Nat) = p := ⟨_, rfl⟩
  rw [hP2] at HG2 HSG3
  clear hP2
  go_wp2_with fail
  go_upto_region 2 with (fail)
  refine wp_region_class_tail (fun w' => Below w3.heap.size w3 w') 25 (by kernel_rfl) (by kernel_rfl) (Below.refl _ _).drew ?_
  simp only [List.take_succ_cons, List.take_zero, List.drop_succ_cons, List.drop_zero]
  repeat (first
    | (go_big_quiet_want; refine quiet_load_nums 43 _ rfl g5 .u8 E 43 _ rfl HCB.out Tryz.underlying43 rfl HSE.out ?_; go_big_quiet_on; simp only [Act.put, List.setIfInBounds_toArray, List.set_cons_zero, List.set_cons_succ])
    | (go_big_quiet_want; refine quiet_load_cell 3 _ rfl ⟨g, 0, none⟩ _ rfl HG0.out Tryz.isAgg3 ?_; go_big_quiet_on; simp only [Act.put, List.setIfInBounds_toArray, List.set_cons_zero, List.set_cons_succ])
    | (go_big_quiet_want; refine quiet_load_cell 9 _ rfl ⟨g, 1, none⟩ _ rfl HG1.out Tryz.isAgg9 ?_; go_big_quiet_on; simp only [Act.put, List.setIfInBounds_toArray, List.set_cons_zero, List.set_cons_succ])
    | (go_big_quiet_want; refine quiet_load_cell 34 _ rfl ⟨g, 2, none⟩ _ rfl HG2.out Tryz.isAgg34 ?_; go_big_quiet_on; simp only [Act.put, List.setIfInBounds_toArray, List.set_cons_zero, List.set_cons_succ])
    | (go_big_quiet_want; refine quiet_bin .sub 3 _ _ _ rfl (.int .i64 (q : Int)) (.int .i64 1) _ rfl rfl (fun _ => rfl) HSU.out ?_; go_big_quiet_on; simp only [Act.put, List.setIfInBounds_toArray, List.set_cons_zero, List.set_cons_succ])
    | (go_big_quiet_want; refine quiet_build_val 45 _ rfl [(0, .int .i64 nd), (1, .int .i64 (q : Int)), (2, .agg (nums .u8 E).toArray), (3, .string ⟨SG.toArray⟩)] _ (by rw [List.map_toArray]; rfl) HBA.out ?_; go_big_quiet_on; simp only [Act.put, List.setIfInBounds_toArray, List.set_cons_zero, List.set_cons_succ])
    | go_big_quiet_step ((intro hs'; first
        | (go_at_call 45; exact (HWR.out _).mono fun e w' h => ⟨h.1, hs'.trans (h.2.mono hs'.size)⟩)
        | (go_at_call 44; exact (HSG3.out _ hs').mono fun e w' h => ⟨h.1, hs'.trans (h.2.mono hs'.size)⟩)
        | rfl)))
  refine wpQuiet_nil ?_
  intro w4 hs4
  have HR4 := Lib.hid (HR3.out.below hs4)
  have HB4 := Lib.hid (HB3.out.trans (hs4.mono HB3.out.size))
  clear hs4 HR3 HB3 HCB HCG HG0 HG1 HG2 HSG3 HC3
  go_wp2_with (refine wpList_store_cells rfl 45 _ _ rfl rfl g4 (autV noA) (autV ⟨nd, q, E, SG⟩) 45 rfl rfl HR4.out HSA.out HVL.out HVA.out ?_)
  intro w5 hc5 hb5
  have HC5 := Lib.hid hc5.out
  have HB5 := Lib.hid (show Below w.heap.size w w5 from But.toBelow HB4.out hb5.out (Nat.le_of_eq HG4.out.symm) HB4.out.size)
  clear hc5 hb5
  go_wp2_with fail
  exact bodyPost_ret (results_cell_row rfl _ _ g4 45 _ (0, 0) _ rfl HC5.out Tryz.underlying45 rfl HSA.out) rfl ⟨by rw [HEQ.out], HB5.out⟩
end Go.Proofs.YtpfhlhcnmeodbaaGreatDoor
namespace Go.Proofs.YtpfhlhcnmeodbaaGreatDoor
open Go.RowKit Go.BigFrame
theorem fold_layK (off : Nat) : ∀ (vs : List Value) (cs : Array Value) (k : Nat), List.foldl (fun (cs : Array Value) (x : Value × Nat) => cs.setIfInBounds (off + x.2) x.1) cs (vs.zipIdx k) = (layL cs.toList (off + k) vs).toArray
  | [], cs, k => by simp [layL]
  | v :: r, cs, k => by rw [List.zipIdx_cons, List.foldl_cons, fold_layK off r, layL]; simp [Nat.add_assoc]
theorem layL_next (a : Value) : ∀ (vs xs : List Value) (o : Nat), layL (a :: xs) (o + 1) vs = a :: layL xs o vs
  | [], _, _ => rfl
  | v :: r, xs, o => by rw [layL, layL, List.set_cons_succ, layL_next a r]
theorem keys_fill (parts : List (Nat × Value)) : Tryz.prog.built 91 parts = Instr.fill (fun i => (#[(0, 1), (1, 1), (2, 17)] : Array (Nat × Nat))[i]?) (keysV [] none 0 0 (List.replicate 16 0) 0) parts := by kernel_rfl
theorem built_keys (s : List UInt8) (ao : Option Addr) (n cap : Nat) (r : List Nat) (h : Int) (hr : r.length = 16) :
    Tryz.prog.built 91 [(0, .string ⟨s.toArray⟩), (1, .slice ao n cap), (2, .agg (nodeV r h))] = some (keysV s ao n cap r h) := by
  have hN : (nodeV r h).size = 17 := by rw [nodeV, List.size_toArray, List.length_append, nums_len, hr]; rfl
  have hs0 : (keysV [] none 0 0 (List.replicate 16 0) 0).size = 19 := by rfl
  have hs1 : (keysV s none 0 0 (List.replicate 16 0) 0).size = 19 := by rfl
  have hs2 : (keysV s ao n cap (List.replicate 16 0) 0).size = 19 := by rfl
  rw [keys_fill, fill_next _ _ 0 _ _ 0 1 rfl rfl (by rw [hs0]; decide)]
  rw [show List.foldl (fun (cs : Array Value) (x : Value × Nat) => cs.setIfInBounds (0 + x.2) x.1) (keysV [] none 0 0 (List.replicate 16 0) 0) (Value.string ⟨s.toArray⟩).cells.toList.zipIdx = keysV s none 0 0 (List.replicate 16 0) 0 from rfl]
  rw [fill_next _ _ 1 _ _ 1 1 rfl rfl (by rw [hs1]; decide)]
  rw [show List.foldl (fun (cs : Array Value) (x : Value × Nat) => cs.setIfInBounds (1 + x.2) x.1) (keysV s none 0 0 (List.replicate 16 0) 0) (Value.slice ao n cap).cells.toList.zipIdx = keysV s ao n cap (List.replicate 16 0) 0 from rfl]
  rw [fill_next _ _ 2 _ _ 2 17 rfl (by show (nodeV r h).size = 17; exact hN) (by rw [hs2]; decide)]
  rw [show (Value.agg (nodeV r h)).cells.toList = nums .u8 r ++ [Value.int .i64 h] from rfl, fold_layK 2, show (keysV s ao n cap (List.replicate 16 0) 0).toList = Value.string ⟨s.toArray⟩ :: Value.slice ao n cap :: (nums .u8 (List.replicate 16 0) ++ [Value.int .i64 0]) from rfl, layL_next, layL_next]
  have e := lay_head (vs := nums .u8 r ++ [Value.int .i64 h]) (xs := nums .u8 (List.replicate 16 0) ++ [Value.int .i64 0]) (ys := []) (by simp [nums_len, hr])
  rw [List.append_nil, List.append_nil] at e
  rw [e]
  rfl
theorem quiet_build_keys {o : Oper} {a : Act} {C : World → Prop} {K : Act → Prop} (x y z : Operand) (ho : o.op = .build 91 #[(0, x), (1, y), (2, z)]) (s : List UInt8) (ao : Option Addr) (n cap : Nat) (r : List Nat) (h : Int)
    (hx : a.eval x = .string ⟨s.toArray⟩) (hy : a.eval y = .slice ao n cap) (hz : a.eval z = .agg (nodeV r h)) (hr : r.length = 16) (hk : K (a.put o.dst (.agg (keysV s ao n cap r h)))) : o.quiet Tryz.prog a C K := by
  refine ⟨_, fun w hw => ?_, hk⟩
  have e : ((#[(0, x), (1, y), (2, z)] : Array (Nat × Operand)).map fun (i, x) => (i, a.eval x)) = #[(0, .string ⟨s.toArray⟩), (1, .slice ao n cap), (2, .agg (nodeV r h))] := by simp [hx, hy, hz]
  have hb := run_build (P := Tryz.prog) w 91 #[(0, .string ⟨s.toArray⟩), (1, .slice ao n cap), (2, .agg (nodeV r h))] _ (built_keys s ao n cap r h hr)
  unfold Oper.quietAt execOp
  simp only [ho, e, Sem.run_bind, hb, Result.andThen_ok]
  exact ⟨rfl, rfl⟩
set_option maxHeartbeats 1000000 in
set_option maxRecDepth 100000 in
theorem dev_new_not (seed : List UInt8) (h : Int) (w : World) (_hs : seed.length ≤ 4000) (hb : 64 < seed.length ∨ h < 1 ∨ 8 < h) :
    Calls Tryz.prog 19 #[.string ⟨seed.toArray⟩, .int .i64 h] w fun e w' => e = .returned (.tuple #[.pointer none, .int .i64 1]) ∧ Below w.heap.size w w' := by
  by_cases hl : 64 < seed.length
  · have hl2 : (64 : Int) < (seed.length : Int) := by omega
    clear hb
    go_enter Tryz.func19, Tryz.ntmps19
    go_wp2_with fail
    go_ret2
    exact ⟨rfl, Below.refl _ _⟩
  · have hl2 : ¬ (64 : Int) < (seed.length : Int) := by omega
    have hd : decide (1 ≤ h ∧ h ≤ 8) = false := decide_eq_false (by omega)
    have HD := Shut.mk hd
    clear hb hd
    go_enter Tryz.func19, Tryz.ntmps19
    go_wp2_with fail
    refine (dev_valid h w false HD.out).mono ?_
    rintro e w1 ⟨rfl, rfl⟩
    go_wp2_with fail
    go_ret2
    exact ⟨rfl, Below.refl _ _⟩
set_option maxHeartbeats 4000000 in
set_option maxRecDepth 100000 in
theorem dev_new (seed : List UInt8) (h : Nat) (w : World) (hs : seed.length ≤ 64) (h1 : 1 ≤ h) (h8 : h ≤ 8) (hk : KAt w) :
    Calls Tryz.prog 19 #[.string ⟨seed.toArray⟩, .int .i64 h] w fun e w' => (∃ v, e = .returned (.tuple #[v, .int .i64 0]) ∧ KeysIs v seed h w') ∧ Below w.heap.size w w' := by
  obtain ⟨i0, hi, hz0, hz1, hz2⟩ := info_parts Tryz.infoE16
  have HIF := Lib.hid hi
  have HZ0 := Lib.hid hz0
  have HZ1 := Lib.hid hz1
  have HZ2 := Lib.hid hz2
  have HK := Lib.hid hk
  have hsh := shl_two h8
  have HG := Shut.mk (goodN_two h8)
  have hN8 := two_le h8
  have HLL := Shut.mk (leavesN_len seed (2 ^ h))
  have HLO := Lib.hid (leavesN_ok seed (2 ^ h))
  have HRK := Shut.mk (show atN (leavesN seed (2 ^ h)) h 0 = rootK seed h from rfl)
  have HRO := Lib.hid (rootK_ok seed h)
  have HD := Shut.mk (show decide (1 ≤ (h : Int) ∧ (h : Int) ≤ 8) = true from decide_eq_true ⟨by omega, by omega⟩)
  have HIS := Lib.hid (fun (g : Nat) (ao : Option Addr) (cap : Nat) (w' : World) (hc : Cells g 91 (keysV seed ao (2 ^ h) cap (rootK seed h) h) w') (he : EAt ao (leavesN seed (2 ^ h)) w') => show KeysIs (.pointer (some ⟨g, 0, none⟩)) seed h w' from ⟨⟨g, ao, cap, rfl, hc, he⟩, h1, h8, hs⟩)
  obtain ⟨R, hR⟩ : ∃ R, rootK seed h = R := ⟨_, rfl⟩
  rw [hR] at HRK HRO HIS
  obtain ⟨N, hN⟩ : ∃ N, 2 ^ h = N := ⟨_, rfl⟩
  rw [hN] at hsh HG hN8 HLL HLO HRK HIS
  have HNE := Shut.mk hN
  have hsl : ¬ (64 : Int) < (seed.length : Int) := by omega
  have HS := Lib.hid hs
  have H8 := Lib.hid h8
  clear hi hz0 hz1 hz2 hk hR hN hs
  go_enter Tryz.func19, Tryz.ntmps19
  go_wp2_with fail
  refine (dev_valid h w true HD.out).mono ?_
  rintro e w1 ⟨rfl, rfl⟩
  go_wp2_with (at_make; refine wpList_make_full _ rfl _ _ 34 rfl w1.heap.size 29 i0 _ 16 Tryz.underlying34 HIF.out HZ0.out HZ1.out .i64 .i64 _ _ N rfl rfl hsh hsh (by rw [HZ2.out]; omega) (by unfold maxLen; omega) (Nat.le_refl _) ?_)
  intro w2 ho2 hg2
  have hb2 : Below w1.heap.size w1 w2 := (Below.refl w1.heap.size w1).grown hg2 (Nat.le_refl _) (by intro g hg; cases hg)
  have HO2 := Lib.hid (show OwnE w1.heap.size 29 (.slice (some ⟨w1.heap.size, 0, none⟩) N N) (partF seed N 0) w2 by rw [partF_zero]; exact OwnE.made ho2)
  have HB2 := Lib.hid hb2
  obtain ⟨g, hg⟩ : ∃ g, g = w1.heap.size := ⟨_, rfl⟩
  rw [← hg] at HO2 ⊢
  have HGW := Lib.hid (show w1.heap.size ≤ g by omega)
  clear ho2 hg2 hb2 hg hsh
  go_wp2_with fail
  go_loopw [24] (fun n wq => ∃ i : Nat, i ≤ N ∧ n = .int .i64 i ∧ OwnE g 29 (.slice (some ⟨g, 0, none⟩) N N) (partF seed N i) wq ∧ Below w1.heap.size w1 wq) (fun n _ => N - (intOf n).toNat)
  case atStart => exact ⟨0, by omega, rfl, HO2.out, HB2.out⟩
  case round =>
    clear HO2 HB2
    obtain ⟨i, hiN, rfl, ho, hb⟩ := hrel
    have HO := Lib.hid ho
    have HB := Lib.hid hb
    have HKr := Lib.hid (HK.out.below hb)
    clear ho hb
    by_cases hli : i < N
    · have hli2 : (i : Int) < (N : Int) := by omega
      have HPS := Shut.mk (partF_set seed hli)
      have HPE := Lib.hid (partF_ok seed N i)
      have HPL := Shut.mk (partF_len seed (Nat.le_of_lt hli))
      have HX1 := Lib.hid (leafN_len seed (i : Int))
      have HX2 := Lib.hid (leafN_lt seed (i : Int))
      have HLF := Lib.hid (fun w hk => dev_leaf seed (i : Int) w (Nat.le_trans HS.out (by decide)) (by omega) (by omega) hk)
      obtain ⟨x, hx⟩ : ∃ x, leafN seed (i : Int) = x := ⟨_, rfl⟩
      obtain ⟨P0, hP0⟩ : ∃ P0, partF seed N i = P0 := ⟨_, rfl⟩
      obtain ⟨P1, hP1⟩ : ∃ P1, partF seed N (i + 1) = P1 := ⟨_, rfl⟩
      have HP1 := Shut.mk hP1
      rw [hx] at HPS HX1 HX2 HLF
      rw [hP0] at HPS HPE HPL HO
      rw [hP1] at HPS
      clear hx hP0 hP1
      go_wp2_with fail
      refine (HLF.out wr HKr.out).mono ?_
      rintro e w3 ⟨rfl, hb3⟩
      have HO3 := Lib.hid (HO.out.below hb3)
      have HB3 := Lib.hid (HB.out.trans (hb3.mono HB.out.size))
      clear hb3 HO HB HKr HLF
      go_wp2_with (refine wpList_store_elem rfl 29 _ _ rfl rfl g g N N i (i * 16) 29 P0 x HPL.out.symm (Nat.mul_comm _ _) rfl rfl HO3.out HPE.out hli HX1.out HX2.out Tryz.infoE ?_)
      intro w4 ho4 hb4
      have HO4 := Lib.hid (show OwnE g 29 (.slice (some ⟨g, 0, none⟩) N N) P1 w4 by rw [← HPS.out]; exact ho4.out)
      have HB4 := Lib.hid (show Below w1.heap.size w1 w4 from But.toBelow HB3.out hb4.out HGW.out HB3.out.size)
      clear ho4 hb4 HO3 HB3 HPS HPE HPL
      go_wp2_with fail
      exact ⟨⟨i + 1, by omega, by go_num, by rw [HP1.out]; exact HO4.out, HB4.out⟩, by simp [intOf]; omega⟩
    · obtain rfl : i = N := by omega
      have hnw : ¬ (i : Int) < (i : Int) := by omega
      rw [partF_full] at HO
      have HEA := Lib.hid (HO.out.at HLO.out)
      have HRT := Lib.hid (fun w hE hk => dev_root (leavesN seed i) h (some ⟨g, 0, none⟩) i w HLO.out hE (by rw [HLL.out]; exact HG.out) (by rw [HLL.out, HNE.out]) H8.out hk)
      rw [HLL.out, HRK.out] at HRT
      have hRE := HRO.out
      have HIR := Lib.hid (show (Tryz.prog.info? 29).map (·.size) = some R.length by rw [hRE.1]; exact Tryz.infoE)
      have HLR := Lib.hid (show (List.replicate 16 0).length = R.length by rw [hRE.1]; rfl)
      clear hRE HO
      go_wp2_with fail
      refine (HRT.out wr HEA.out HKr.out).mono ?_
      rintro e w3 ⟨rfl, hb3⟩
      have HE3 := Lib.hid (HEA.out.below hb3)
      have HB3 := Lib.hid (HB.out.trans (hb3.mono HB.out.size))
      clear hb3 HEA HB HKr HRT
      go_wp2_with (refine wpList_store_nums rfl 29 _ _ rfl rfl w3.heap.size .u8 (List.replicate 16 0) R 29 rfl rfl (heap_alloc_new w3 _) HIR.out HLR.out ?_)
      intro w4 hc4 hb4
      have ha3 : Below w3.heap.size w3 (w3.alloc (.cells (nums .u8 (List.replicate 16 0)).toArray 29)) := (Below.refl _ _).alloc (Nat.le_refl _) _
      have hb43 : Below w3.heap.size w3 w4 := But.toBelow ha3 hb4.out (Nat.le_refl _) ha3.size
      have HR4 := Lib.hid (show Blk w3.heap.size 29 .u8 R w4 from hc4.out)
      have HE4 := Lib.hid (HE3.out.below hb43)
      have HB4 := Lib.hid (HB3.out.trans (hb43.mono HB3.out.size))
      clear hc4 hb4 ha3 hb43 HE3 HB3 HLR
      obtain ⟨gr, hgr⟩ : ∃ g, g = w3.heap.size := ⟨_, rfl⟩
      rw [← hgr] at HR4 ⊢
      clear hgr
      go_upto_region 12 with (fail)
      refine wp_region_class_tail (fun w' => Below w4.heap.size w4 w') 7 (by kernel_rfl) (by kernel_rfl) (Below.refl _ _).drew ?_
      simp only [List.take_succ_cons, List.take_zero, List.drop_succ_cons, List.drop_zero]
      repeat (first
        | (go_big_quiet_want; refine quiet_load_nums 29 _ rfl gr .u8 R 29 _ rfl (fun w' h => HR4.out.below h) Tryz.underlying29 rfl HIR.out ?_; go_big_quiet_on; simp only [Act.put, List.setIfInBounds_toArray, List.set_cons_zero, List.set_cons_succ])
        | (go_big_quiet_want; refine quiet_build_node (.tmp 45) (.tmp 46) rfl R h rfl rfl HRO.out.1 ?_; go_big_quiet_on; simp only [Act.put, List.setIfInBounds_toArray, List.set_cons_zero, List.set_cons_succ])
        | (go_big_quiet_want; refine quiet_build_keys (.tmp 43) (.tmp 44) (.tmp 47) rfl seed (some ⟨g, 0, none⟩) i i R h rfl rfl rfl HRO.out.1 ?_; go_big_quiet_on; simp only [Act.put, List.setIfInBounds_toArray, List.set_cons_zero, List.set_cons_succ])
        | go_big_quiet_step ((intro hs'; first
            | rfl
            | (go_at_call 39; exact (clone6 _ _ (by have := HS.out; simp only [ByteArray.size, List.size_toArray]; omega)).mono fun e w' h => ⟨h.1, hs'.trans (h.2.mono hs'.size)⟩))))
      refine wpQuiet_nil ?_
      intro w5 hs5
      have HE5 := Lib.hid (HE4.out.below hs5)
      have HB5 := Lib.hid (HB4.out.trans (hs5.mono HB4.out.size))
      clear hs5 HE4 HB4 HR4
      go_wp2_with fail
      go_ret2
      have hba : Below w5.heap.size w5 (w5.alloc (.cells (keysV seed (some ⟨g, 0, none⟩) i i R h) 91)) := (Below.refl _ _).alloc (Nat.le_refl _) _
      exact ⟨⟨_, rfl, HIS.out w5.heap.size (some ⟨g, 0, none⟩) i _ (heap_alloc_new w5 _) (HE5.out.below hba)⟩, HB5.out.trans (hba.mono HB5.out.size)⟩
end Go.Proofs.YtpfhlhcnmeodbaaGreatDoor
namespace Go.Proofs.YtpfhlhcnmeodbaaGreatDoor
open Go.RowKit Go.BigFrame
set_option maxHeartbeats 4000000 in
set_option maxRecDepth 100000 in
theorem dev_digest6 (r : List Nat) (i : Int) (t : List UInt8) (w : World) (hr : r.length = 16) (lr : ∀ y ∈ r, y < 256) (i0 : -9223372036854775808 ≤ i) (hi : i ≤ 9223372036854775807) (ht : t.length ≤ 1000000) (hk : KAt w) :
    Calls Tryz.prog 48 #[.agg (nums .u8 r).toArray, .int .i64 i, .string ⟨t.toArray⟩] w fun e w' => e = .returned (.agg (nums .u8 (digK r i t)).toArray) ∧ Below w.heap.size w w' := by
  have HS := Lib.hid (digK_small hr hi ht)
  have HK := Lib.hid hk
  clear hk
  have HR := Lib.hid hr
  have LR := Lib.hid lr
  clear hr lr
  go_enter Tryz.func48, Tryz.ntmps48
  go_upto_region 1 with (fail)
  change Code.wp _ _ _ _ ((w.alloc (.cells (nums .u8 r).toArray 29)).alloc (.cells (nums .u8 (List.replicate 16 0)).toArray 29))
  obtain ⟨w1, hw1⟩ : ∃ x', x' = (w.alloc (.cells (nums .u8 r).toArray 29)).alloc (.cells (nums .u8 (List.replicate 16 0)).toArray 29) := ⟨_, rfl⟩
  rw [← hw1]
  have h3 : Blk w.heap.size 29 .u8 r w1 ∧ Blk (w.heap.size + 1) 29 .u8 (List.replicate 16 0) w1 ∧ Below w.heap.size w w1 := by rw [hw1]; exact two_new w _ _ _ _
  obtain ⟨hr1, hz1, hb1⟩ := h3
  obtain ⟨gz, hgz⟩ : ∃ g, g = w.heap.size + 1 := ⟨_, rfl⟩
  obtain ⟨gr, hgr⟩ : ∃ g, g = w.heap.size := ⟨_, rfl⟩
  have HGZ := Lib.hid (show w.heap.size ≤ gz by omega)
  rw [← hgz] at hz1 ⊢
  rw [← hgr] at hr1 ⊢
  have HR1 := Lib.hid hr1
  have HZ1 := Lib.hid hz1
  have HB1 := Lib.hid hb1
  clear hr1 hz1 hb1 hw1 hgz hgr
  have HU := Shut.mk (show (shaN (listB [[116, 101, 120, 116], txt r, numB i.toNat, t])).take 16 = digK r i t from rfl)
  have HK1 := Lib.hid (HK.out.below HB1.out)
  refine wp_region_class_tail (fun w' => SS w1 w') 5 (by kernel_rfl) (by kernel_rfl) (SS.start HK1.out) ?_
  simp only [List.take_succ_cons, List.take_zero, List.drop_succ_cons, List.drop_zero]
  repeat (first
    | (go_big_quiet_want; refine quiet_conv_nums 97 9 5 _ rfl gr 16 r 29 (by rw [HR.out]; rfl) LR.out (fun w' h => HR1.out.below h.1) Tryz.underlying97 Tryz.underlying5 Tryz.underlying9 ?_; go_big_quiet_on; simp only [Act.put, List.setIfInBounds_toArray, List.set_cons_zero, List.set_cons_succ])
    | go_big_quiet_step ((intro hs'; first
        | rfl
        | (go_at_call 50; exact (num_int i _ i0 hi).mono fun e w' h => ⟨h.1, hs'.next h.2⟩))))
  refine wpQuiet_nil ?_
  intro w2 hs2
  have HZ2 := Lib.hid (HZ1.out.below hs2.1)
  have HB2 := Lib.hid (HB1.out.trans (hs2.1.mono HB1.out.size))
  have HK2 := Lib.hid hs2.2
  clear hs2 HR1 HZ1 HB1 HK1
  go_wp2_with fail
  refine (dev_sum [116, 101, 120, 116] (some ⟨w2.heap.size, 0, none⟩) 3 [txt r, numB i.toNat, t] _ (at_three w2 _ _ _) (fun h => by cases h) (by simp) HS.out (HK2.out.below ((Below.refl _ _).alloc (Nat.le_refl _) _))).mono ?_
  rintro e w5 ⟨rfl, hb5⟩
  have hb : Below w2.heap.size w2 w5 := ((Below.refl _ w2).alloc (Nat.le_refl _) _).trans (hb5.mono (by simp))
  have HZ5 := Lib.hid (HZ2.out.below hb)
  have HB5 := Lib.hid (HB2.out.trans (hb.mono HB2.out.size))
  clear hb hb5 HZ2 HB2
  go_wp2_with fail
  refine (dev_cut _ w5 (shaN_len _)).mono ?_
  rintro e w6 ⟨rfl, hb6⟩
  have HZ6 := Lib.hid (HZ5.out.below hb6)
  have HB6 := Lib.hid (HB5.out.trans (hb6.mono HB5.out.size))
  clear hb6 HZ5 HB5
  rw [HU.out]
  have HUL0 := digK_len r i t
  clear HU
  obtain ⟨U, hU⟩ : ∃ U, digK r i t = U := ⟨_, rfl⟩
  rw [hU] at HUL0 ⊢
  have HUL := Lib.hid HUL0
  have HUE := Shut.mk hU
  clear hU HUL0
  have HI := Lib.hid (show (Tryz.prog.info? 29).map (·.size) = some U.length by rw [HUL.out]; exact Tryz.infoE)
  have HL2 := Lib.hid (show (List.replicate 16 0).length = U.length by rw [HUL.out]; rfl)
  go_wp2_with (refine wpList_store_nums rfl 29 _ _ rfl rfl gz .u8 _ U 29 rfl rfl HZ6.out HI.out HL2.out ?_)
  intro w7 hc' hb'
  have HC7 := Lib.hid (show Blk gz 29 .u8 U w7 from hc'.out)
  have HB7 := Lib.hid (show Below w.heap.size w w7 from But.toBelow HB6.out hb'.out HGZ.out HB6.out.size)
  clear hc' hb'
  go_wp2_with fail
  exact bodyPost_ret (results_nums rfl _ _ gz .u8 _ 29 _ rfl HC7.out Tryz.underlying29 rfl HI.out) rfl ⟨by rw [HUE.out], HB7.out⟩
theorem dev_sizeK (h : Int) (w : World) (h0 : 0 ≤ h) (h1 : h ≤ 1099511627776) :
    Calls Tryz.prog 51 #[.int .i64 h] w fun e w' => e = .returned (.int .i64 (560 + 16 * h)) ∧ Below w.heap.size w w' := by
  go_enter Tryz.func51, Tryz.ntmps51
  go_wp2_with fail
  go_ret
  exact ⟨rfl, Below.refl _ _⟩
end Go.Proofs.YtpfhlhcnmeodbaaGreatDoor
namespace Go.Proofs.YtpfhlhcnmeodbaaGreatDoor
open Go.RowKit Go.BigFrame
theorem conv_ownT {B g c : Nat} {l : List Nat} {w : World} (hlt : ∀ x ∈ l, x < 256) (h : OwnT B 5 .u8 (.slice (some ⟨g, 0, none⟩) l.length c) l w) :
    (convert 97 9 (.slice (some ⟨g, 0, none⟩) l.length c)).run Tryz.prog w = .ok (.string ⟨(txt l).toArray⟩) w := by
  have hlen : l.length = (txt l).length := (txt_len _).symm
  rw [hlen]
  refine run_convert_bytes_back _ _ _ 5 ⟨g, 0, none⟩ _ (txt l) Tryz.underlying97 Tryz.underlying5 Tryz.underlying9 ?_
  intro j hj
  rw [txt_len] at hj
  rw [Addr.add_lit, Nat.zero_add, h.cells rfl j hj]
  have h1 := hlt _ (List.getElem_mem hj)
  simp only [txt, List.getElem_map]
  rw [show (UInt8.ofNat l[j]).toNat = l[j] by simp; omega]
end Go.Proofs.YtpfhlhcnmeodbaaGreatDoor
namespace Go.Proofs.YtpfhlhcnmeodbaaGreatDoor
open Go.RowKit Go.BigFrame
theorem dev_count (v : Value) (seed : List UInt8) (h : Nat) (w : World) (k : KeysIs v seed h w) :
    Calls Tryz.prog 34 #[v] w fun e w' => e = .returned (.int .i64 ((2 ^ h : Nat) : Int)) ∧ Below w.heap.size w w' := by
  obtain ⟨g, ao, cap, rfl, hc, he⟩ := k.lie
  have c1 := keys_leaves hc
  clear he hc k
  generalize 2 ^ h = N at *
  go_enter Tryz.func34, Tryz.ntmps34
  go_wp2_with fail
  go_ret
  exact ⟨rfl, Below.refl _ _⟩
end Go.Proofs.YtpfhlhcnmeodbaaGreatDoor
namespace Go.Proofs.YtpfhlhcnmeodbaaGreatDoor
open Go.ChangeShapes Go.WideShapes Go.ChangeAt Go.RowKit
theorem gK : Tryz.prog.globalNamed "tribunal/sha.roundConstants" = some 0 := by kernel_rfl
theorem gKType : (Tryz.prog.globals[0]?).map (·.type) = some 161 := by kernel_rfl
theorem cellsK : Tryz.prog.cellsOf 161 = 64 := by kernel_rfl
theorem cellsU32 : Tryz.prog.cellsOf 143 = 1 := by kernel_rfl
def kInts : List Int := shaK.map fun (n : Nat) => (n : Int)
theorem k_laid {W : World} (h : laidMetH Tryz.prog [("tribunal/sha.roundConstants", Rows.laid_tribunal_sha_roundConstants)] W) : KAt W := by
  have ht : Lib.TabIs Tryz.prog W "tribunal/sha.roundConstants" .u32 kInts := Lib.tabIs_of_head (rest := []) gK gKType Tryz.underlying161 Tryz.underlying143 cellsU32 cellsK h
  intro j hj
  have hc := ht.cell gK j (by unfold kInts; rw [List.length_map, shaK_len]; exact hj)
  rw [hc]
  have e : kInts.getD j 0 = ((shaK.getD j 0 : Nat) : Int) := by
    unfold kInts
    rw [List.getD_eq_getElem?_getD, List.getElem?_map, List.getD_eq_getElem?_getD, List.getElem?_eq_getElem (by rw [shaK_len]; exact hj)]
    rfl
  rw [e]
noncomputable def laidWorld (os : Os) : World :=
  { World.holding Tryz.prog os ⟨#[], #[], []⟩ with heap := (World.holding Tryz.prog os ⟨#[], #[], []⟩).heap.modify 0 fun
      | .cells _ t frozen => .cells (nums .u32 shaK).toArray t frozen
      | o => o }
end Go.Proofs.YtpfhlhcnmeodbaaGreatDoor
namespace Go.Proofs.YtpfhlhcnmeodbaaGreatDoor
open Go.RowKit Go.BigFrame
theorem LogAt.key {N b : Nat} {kv vL vH : Value} {nd : Int} {seed : List UInt8} {h : Nat} {L : List EntN} {w : World} (l : LogAt N b kv vL vH nd seed h L w) : KeysIs kv seed h w := by
  obtain ⟨w0, _, hk, hb⟩ := l.keys
  exact hk.below hb
theorem LogAt.fields {N b : Nat} {kv vL vH : Value} {nd : Int} {seed : List UInt8} {h : Nat} {L : List EntN} {w : World} (l : LogAt N b kv vL vH nd seed h L w) :
    w.cell? ⟨b, 0, none⟩ = some (.int .i64 nd) ∧ w.cell? ⟨b, 1, none⟩ = some kv ∧ w.cell? ⟨b, 2, none⟩ = some vL ∧ w.cell? ⟨b, 3, none⟩ = some vH := ⟨l.cells.at 0, l.cells.at 1, l.cells.at 2, l.cells.at 3⟩
theorem built_logD (nd : Int) (ka a : Addr) (n c : Nat) : Tryz.prog.built 78 [(0, .int .i64 nd), (1, .pointer (some ka)), (3, .slice (some a) n c)] = some #[.int .i64 nd, .pointer (some ka), .slice none 0 0, .slice (some a) n c] := by kernel_rfl
def appE (h : Nat) (L M : List EntN) : Nat := if ∀ x ∈ M, GoodE x then (if L.length + M.length ≤ 2 ^ h then 0 else 8) else 1
def appL (h : Nat) (L M : List EntN) : List EntN := if appE h L M = 0 then L ++ M else L
def NewLog (B : Nat) (nd : Int) (seed : List UInt8) (h : Nat) (e : Ending) (w' : World) : Prop := ∃ v O, e = .returned (.tuple #[v, .int .i64 0]) ∧ LogIs B O v nd seed h [] w' ∧ ∀ b, O b → B ≤ b
set_option maxHeartbeats 4000000 in
set_option maxRecDepth 100000 in
theorem dev_newLog (nd : Int) (kv : Value) (seed : List UInt8) (h : Nat) (w : World) (k : KeysIs kv seed h w) (h0 : 0 ≤ nd) (h4 : nd ≤ 4) :
    Calls Tryz.prog 17 #[.int .i64 nd, kv] w fun e w' => NewLog w.heap.size nd seed h e w' ∧ Below w.heap.size w w' := by
  obtain ⟨ka, rfl⟩ := k.ptr
  have HK := Lib.hid k
  obtain ⟨i0, hi0, hz0, hz1, hz2⟩ := info_parts Tryz.infoI32
  have HIF := Lib.hid hi0
  have HZ0 := Lib.hid hz0
  have HZ1 := Lib.hid hz1
  have HZ2 := Lib.hid hz2
  clear k hi0 hz0 hz1 hz2
  go_enter Tryz.func17, Tryz.ntmps17
  have g1 : decide (nd < 0) = false := decide_eq_false (by omega)
  have g2 : decide (5 ≤ nd) = false := decide_eq_false (by omega)
  go_wp2_with (at_make; refine wpList_make_full _ rfl _ _ 76 rfl w.heap.size 43 i0 _ 32 Tryz.underlying76 HIF.out HZ0.out HZ1.out .i64 .i64 _ _ 1 rfl rfl rfl rfl (by rw [HZ2.out]; decide) (by unfold maxLen; omega) (Nat.le_refl _) ?_)
  intro w2 ho2 hg2
  have hb2 := (Below.refl w.heap.size w).grown hg2 (Nat.le_refl _) (fun k hk => by cases hk)
  have HO2 := Lib.hid (show OwnI w.heap.size 43 (.slice (some ⟨w.heap.size, 0, none⟩) 1 1) (allH []) w2 from OwnI.made ho2)
  have HB2 := Lib.hid hb2
  have HBL := Lib.hid (built_logD nd ka ⟨w.heap.size, 0, none⟩ 1 1)
  clear ho2 hg2 hb2
  go_wp2_with (refine wpList_build_val rfl 78 _ rfl [(0, .int .i64 nd), (1, .pointer (some ka)), (3, .slice (some ⟨w.heap.size, 0, none⟩) 1 1)] _ (by rw [List.map_toArray]; rfl) HBL.out ?_)
  have hc3 : Cells w2.heap.size 78 #[.int .i64 nd, .pointer (some ka), .slice none 0 0, .slice (some ⟨w.heap.size, 0, none⟩) 1 1] (w2.alloc (.cells #[.int .i64 nd, .pointer (some ka), .slice none 0 0, .slice (some ⟨w.heap.size, 0, none⟩) 1 1] 78)) := heap_alloc_new w2 _
  have hb3 : Below w2.heap.size w2 (w2.alloc (.cells #[.int .i64 nd, .pointer (some ka), .slice none 0 0, .slice (some ⟨w.heap.size, 0, none⟩) 1 1] 78)) := (Below.refl _ _).alloc (Nat.le_refl _) _
  have hlt := (HO2.out.formB (by rw [allH_len]; exact Nat.succ_pos _))
  have HBW := HB2.out.trans (hb3.mono HB2.out.size)
  go_ret2
  refine ⟨⟨_, _, rfl, ⟨w2.heap.size, _, .slice none 0 0, .slice (some ⟨w.heap.size, 0, none⟩) 1 1, rfl, rfl, hc3, OwnE15.nil _ _, (HO2.out.below hb3).mono (Nat.zero_le _), ⟨w, Nat.le_refl _, HK.out, HBW⟩, ?_, Nat.zero_le _, h0, h4⟩, ?_⟩, HBW⟩
  all_goals
    rintro x (rfl | hx | hx)
    · exact HB2.out.size
    · cases hx
    · simp only [Value.ownBlock, Option.some.injEq] at hx
      omega
theorem dev_len {N : Nat} {O : Nat → Prop} {v : Value} {nd : Int} {seed : List UInt8} {h : Nat} {L : List EntN} (w : World) (l : LogIs N O v nd seed h L w) :
    Calls Tryz.prog 13 #[v] w fun e w' => e = .returned (.int .i64 (L.length : Int)) ∧ Below w.heap.size w w' := by
  obtain ⟨b, kv, vL, vH, rfl, rfl, l⟩ := l
  obtain ⟨ao, cap, rfl⟩ := l.ents.form
  obtain ⟨-, -, c2, -⟩ := l.fields
  clear l
  generalize L.length = n at *
  go_enter Tryz.func13, Tryz.ntmps13
  go_wp2_with fail
  go_ret
  exact ⟨rfl, Below.refl _ _⟩
theorem dev_left {N : Nat} {O : Nat → Prop} {v : Value} {nd : Int} {seed : List UInt8} {h : Nat} {L : List EntN} (w : World) (l : LogIs N O v nd seed h L w) (hl : L.length ≤ 2 ^ h) :
    Calls Tryz.prog 14 #[v] w fun e w' => e = .returned (.int .i64 (((2 ^ h - L.length : Nat)) : Int)) ∧ Below w.heap.size w w' := by
  obtain ⟨b, kv, vL, vH, rfl, rfl, l⟩ := l
  obtain ⟨ao, cap, rfl⟩ := l.ents.form
  obtain ⟨-, c1, c2, -⟩ := l.fields
  have hk := l.key
  obtain ⟨ka, hka⟩ := hk.ptr
  have h8 := two_le hk.high
  have HCN := Lib.hid (fun w' (q : Below w.heap.size w w') => dev_count kv seed h w' (hk.below q))
  have HB := Lib.hid l.cells.lt
  subst hka
  clear l hk
  generalize L.length = n at *
  generalize 2 ^ h = m at *
  have HC1 := Lib.hid (fun (w' : World) (q : Below w.heap.size w w') => (q.cell (p := ⟨b, 1, none⟩) HB.out).trans c1)
  have HC2 := Lib.hid (fun (w' : World) (q : Below w.heap.size w w') => (q.cell (p := ⟨b, 2, none⟩) HB.out).trans c2)
  clear c1 c2
  go_enter Tryz.func14, Tryz.ntmps14
  go_upto_region 3 with (fail)
  refine wp_region_class (fun w' => Below w.heap.size w w') (by kernel_rfl) (by kernel_rfl) (Below.refl _ _).drew ?_
  repeat (first
    | (go_big_quiet_want; refine quiet_load_cell 66 _ rfl ⟨b, 1, none⟩ _ rfl HC1.out Tryz.isAgg66 ?_; go_big_quiet_on; simp only [Act.put, List.setIfInBounds_toArray, List.set_cons_zero, List.set_cons_succ])
    | (go_big_quiet_want; refine quiet_load_cell 35 _ rfl ⟨b, 2, none⟩ _ rfl HC2.out Tryz.isAgg35 ?_; go_big_quiet_on; simp only [Act.put, List.setIfInBounds_toArray, List.set_cons_zero, List.set_cons_succ])
    | go_big_quiet_step ((intro hs'; first
        | (go_at_call 34; exact (HCN.out _ hs').mono fun e w' h => ⟨h.1, hs'.trans (h.2.mono hs'.size)⟩)
        | rfl)))
  refine wpQuiet_nil ?_
  intro w2 hs2
  have HB2 := Lib.hid hs2
  clear hs2
  go_wp2_with fail
  go_ret
  exact ⟨by go_num, HB2.out⟩
theorem dev_new_nil (w : World) : Calls Tryz.prog 17 #[.int .i64 0, .pointer none] w fun r w' => r = .returned (.tuple #[.pointer none, .int .i64 2]) ∧ Below w.heap.size w w' := by
  go_enter Tryz.func17, Tryz.ntmps17
  go_wp2_with fail
  go_ret2
  exact ⟨rfl, Below.refl _ _⟩
theorem dev_len_nil (w : World) : Calls Tryz.prog 13 #[.pointer none] w fun r w' => r = .returned (.int .i64 0) ∧ Below w.heap.size w w' := by
  go_enter Tryz.func13, Tryz.ntmps13
  go_wp2_with fail
  go_ret
  exact ⟨rfl, Below.refl _ _⟩
theorem dev_left_nil (w : World) : Calls Tryz.prog 14 #[.pointer none] w fun r w' => r = .returned (.int .i64 0) ∧ Below w.heap.size w w' := by
  go_enter Tryz.func14, Tryz.ntmps14
  go_wp2_with fail
  go_ret
  exact ⟨rfl, Below.refl _ _⟩
theorem dev_has {N : Nat} {O : Nat → Prop} {v : Value} {nd : Int} {seed : List UInt8} {h : Nat} {L : List EntN} (q : Int) (w : World) (l : LogIs N O v nd seed h L w) :
    Calls Tryz.prog 26 #[v, .int .i64 q] w fun e w' => e = .returned (.bool (decide (1 ≤ q ∧ q ≤ L.length))) ∧ Below w.heap.size w w' := by
  have HL := Lib.hid (dev_len w l)
  clear l
  generalize L.length = n at *
  go_enter Tryz.func26, Tryz.ntmps26
  by_cases h1 : 1 ≤ q
  · have g1 : decide (1 ≤ q) = true := decide_eq_true h1
    go_wp2_with fail
    refine HL.out.mono ?_
    rintro e w1 ⟨rfl, hb⟩
    have HB := Lib.hid hb
    clear hb HL
    go_wp2_with fail
    go_ret
    exact ⟨by simp [h1], HB.out⟩
  · have g1 : decide (1 ≤ q) = false := decide_eq_false h1
    go_wp2_with fail
    go_ret
    exact ⟨rfl, Below.refl _ _⟩
theorem dev_has_nil (q : Int) (w : World) (h1 : 1 ≤ q) : Calls Tryz.prog 26 #[.pointer none, .int .i64 q] w fun e w' => e = .returned (.bool false) ∧ Below w.heap.size w w' := by
  have HL := Lib.hid (dev_len_nil w)
  have g1 : decide (1 ≤ q) = true := decide_eq_true h1
  have g2 : decide (q ≤ 0) = false := decide_eq_false (by omega)
  go_enter Tryz.func26, Tryz.ntmps26
  go_wp2_with fail
  refine HL.out.mono ?_
  rintro e w1 ⟨rfl, hb⟩
  have HB := Lib.hid hb
  clear hb HL
  go_wp2_with fail
  go_ret
  exact ⟨rfl, HB.out⟩
end Go.Proofs.YtpfhlhcnmeodbaaGreatDoor
