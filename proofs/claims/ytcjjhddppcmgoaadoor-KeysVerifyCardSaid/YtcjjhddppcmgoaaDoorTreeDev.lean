/-
  The developers' levels, Root and Path.
-/
import Derived.Test.YtcjjhddppcmgoaaDoorUp
namespace Go.Proofs.YtcjjhddppcmgoaaDoor
open Go.RowKit Go.BigFrame

theorem Tryd.infoRow : (Tryd.prog.info? 36).map (fun i => (i.zero, i.size, i.bytes)) = some (some (.slice none 0 0), 1, 24) := by kernel_rfl
def lenOf : Value → Nat
  | .slice _ n _ => n
  | _ => 0
/-- A row of values of one cell, of the call's own. -/
def OwnV (B : Nat) (e : TypeId) (v : Value) (S : List Value) (w : World) : Prop := w.ownsRow B e 1 v S.length S
theorem OwnV.form {B : Nat} {e : TypeId} {v : Value} {S : List Value} {w : World} (h : OwnV B e v S w) : ∃ ao cap, v = .slice ao S.length cap := by
  rcases h.2 with ⟨h1, h2⟩ | ⟨g, cap, _, h1, _⟩
  · exact ⟨_, _, by rw [h1, h2]⟩
  · exact ⟨_, _, h1⟩
theorem OwnV.formB {B : Nat} {e : TypeId} {v : Value} {S : List Value} {w : World} (h : OwnV B e v S w) (h0 : 0 < S.length) : ∃ g cap, v = .slice (some ⟨g, 0, none⟩) S.length cap ∧ g < w.heap.size := by
  rcases h.2 with ⟨_, h2⟩ | ⟨g, cap, cur, h1, _, h3, _⟩
  · omega
  · exact ⟨g, cap, h1, lt_of_block h3⟩
theorem OwnV.below {B : Nat} {e : TypeId} {v : Value} {S : List Value} {w w' : World} (h : OwnV B e v S w) (b : Below w.heap.size w w') : OwnV B e v S w' := by
  refine ⟨h.1, ?_⟩
  rcases h.2 with h2 | ⟨g, cap, cur, h1, h2, h3, h4⟩
  · exact .inl h2
  · exact .inr ⟨g, cap, cur, h1, h2, (b.block g (lt_of_block h3)).trans h3, h4⟩
theorem OwnV.mono {B B' : Nat} {e : TypeId} {v : Value} {S : List Value} {w : World} (h : OwnV B e v S w) (hB : B' ≤ B) : OwnV B' e v S w := by
  refine ⟨h.1, ?_⟩
  rcases h.2 with h2 | ⟨g, cap, cur, h1, h2, h3⟩
  · exact .inl h2
  · exact .inr ⟨g, cap, cur, h1, Nat.le_trans hB h2, h3⟩
theorem OwnV.get {B g n c : Nat} {e : TypeId} {S : List Value} {w : World} (hn : n = S.length) (h : OwnV B e (.slice (some ⟨g, 0, none⟩) n c) S w) {j : Nat} {u : Value} (hj : S[j]? = some u) : w.cell? ⟨g, j, none⟩ = some u := by
  subst hn
  have hl := (List.getElem?_eq_some_iff.1 hj).1
  rw [World.ownsRow.cellAt h j (by omega), hj]
/-- A row of elements lies in no block of another type. -/
theorem OwnE.kept {B B2 : Nat} {e e2 : TypeId} {v u : Value} {L : List (List Nat)} {S : List Value} {w w' : World} (h : OwnE B e v L w) (ho : OwnV B2 e2 u S w) (hne : e ≠ e2) (hg : w.grownBy w' u.ownBlock) : OwnE B e v L w' := by
  refine ⟨h.1, ?_⟩
  rcases h.2 with h2 | ⟨g, cap, cur, h1, h2, h3, h4⟩
  · exact .inl h2
  · refine .inr ⟨g, cap, cur, h1, h2, (hg.block g (lt_of_block h3) fun hc => ?_).trans h3, h4⟩
    rcases ho.2 with ⟨hu, _⟩ | ⟨g2, cap2, cur2, hu, _, hg2, _⟩
    · rw [hu] at hc; cases hc
    · rw [hu] at hc
      obtain rfl : g = g2 := by simpa [Value.ownBlock] using hc
      rw [h3] at hg2
      simp only [Option.some.injEq, Obj.cells.injEq] at hg2
      exact hne hg2.2.1
/-- One value pushed onto a row of the call's own. -/
theorem wpList_append_val {P : Program} {w : World} {ops : Array Oper} {rest : List Oper} {o : Oper} {a : Act} {Q : Exit → Act → World → Prop} (hgd : o.guard = none) (s x : Operand) (t e : TypeId)
    (ho : o.op = .call { callee := .builtin .append, args := #[s, x], argTypes := #[t, t] })
    (B : Nat) (z : Value) (bytes : Nat) (hzs : z.cells.size = 1) (hby : bytes ≤ 1024) (ht : P.underlying t = some (.slice e)) (hinfo : (P.info? e).map (fun i => (i.zero, i.size, i.bytes)) = some (some z, 1, bytes))
    (v : Value) (S : List Value) (u : Value) (hu : u.oneCell' = true) (ad : Addr) (c : Nat) (hs : a.eval s = v) (hown : OwnV B e v S w) (hx : a.eval x = .slice (some ad) 1 c) (hnews : w.cell? (ad.add 0) = some u)
    (h63 : S.length ≤ 1000000) (hB : B ≤ w.heap.size)
    (h : ∀ v' w', Hid (OwnV B e v' (S ++ [u]) w') → Hid (w.grownBy w' v.ownBlock) → Hid (Below B w w') → wpList P ops Q rest (a.put o.dst v') w') : wpList P ops Q (o :: rest) a w := by
  obtain ⟨i, hi, hz0, hz1, hz2⟩ := info_parts hinfo
  refine wpList_append_own_at w hgd s x _ ho B e i z 1 bytes ht hi hz0 hz1 hz2 hzs (by decide) v S.length S hs hown ad 1 c [u] hx rfl ?_ ?_ (by unfold maxLen; omega) ?_ hB ?_
  · intro j q hj
    have hj0 : j = 0 := by
      have := (List.getElem?_eq_some_iff.1 hj).1
      simpa using this
    subst hj0
    obtain rfl : u = q := by simpa using hj
    exact hnews
  · intro q hq
    obtain rfl := List.mem_singleton.1 hq
    exact hu
  · refine Nat.le_trans (Nat.mul_le_mul (show S.length + 1 ≤ 1000001 by omega) hby) (by decide)
  · intro v' w' h2 hg _ _
    refine h v' w' ?_ hg ((Below.refl B w).grown hg hB (fun k hk => (World.ownsRow.lt hown k hk).1))
    show w'.ownsRow B e 1 v' (S ++ [u]).length (S ++ [u])
    rw [List.length_append]
    exact h2

/-- The levels of a tree, up to level k, in rows. -/
structure LevAt (B : Nat) (L : List (List Nat)) (n k : Nat) (ao : Option Addr) (cap : Nat) (S : List Value) (w : World) : Prop where
  len : S.length = k + 1
  leaf : S[0]? = some (.slice ao n cap)
  row : ∀ j, 1 ≤ j → j ≤ k → ∃ v, S[j]? = some v ∧ OwnE B 31 v (lvl L n j) w
theorem LevAt.below {B : Nat} {L : List (List Nat)} {n k : Nat} {ao : Option Addr} {cap : Nat} {S : List Value} {w w' : World} (h : LevAt B L n k ao cap S w) (b : Below w.heap.size w w') : LevAt B L n k ao cap S w' :=
  ⟨h.len, h.leaf, fun j h1 h2 => by
    obtain ⟨v, hv, ho⟩ := h.row j h1 h2
    exact ⟨v, hv, ho.below b⟩⟩
theorem LevAt.kept {B B2 : Nat} {L : List (List Nat)} {n k : Nat} {ao : Option Addr} {cap : Nat} {S T : List Value} {u : Value} {w w' : World} (h : LevAt B L n k ao cap S w) (ho : OwnV B2 36 u T w) (hg : w.grownBy w' u.ownBlock) : LevAt B L n k ao cap S w' :=
  ⟨h.len, h.leaf, fun j h1 h2 => by
    obtain ⟨v, hv, hr⟩ := h.row j h1 h2
    exact ⟨v, hv, hr.kept ho (by decide) hg⟩⟩
theorem LevAt.push {B : Nat} {L : List (List Nat)} {n k : Nat} {ao : Option Addr} {cap : Nat} {S : List Value} {w : World} {v : Value} (h : LevAt B L n k ao cap S w) (hv : OwnE B 31 v (lvl L n (k + 1)) w) : LevAt B L n (k + 1) ao cap (S ++ [v]) w :=
  ⟨by simp [h.len], by rw [List.getElem?_append_left (by rw [h.len]; omega)]; exact h.leaf, fun j h1 h2 => by
    by_cases hj : j ≤ k
    · obtain ⟨u, hu, hr⟩ := h.row j h1 hj
      exact ⟨u, by rw [List.getElem?_append_left (by rw [h.len]; omega)]; exact hu, hr⟩
    · obtain rfl : j = k + 1 := by omega
      exact ⟨v, by rw [List.getElem?_append_right (by rw [h.len]; exact Nat.le_refl _), h.len, Nat.sub_self]; rfl, hv⟩⟩
theorem LevAt.get {B : Nat} {L : List (List Nat)} {n k : Nat} {ao : Option Addr} {cap : Nat} {S : List Value} {w : World} (h : LevAt B L n k ao cap S w) (hE : EAt ao L w) (hL : Elems L) (hn : n = L.length) {m : Nat} (hm : n = 2 ^ m) (hk : k ≤ m) {j : Nat} (hj : j ≤ k) :
    ∃ aj cj, S[j]? = some (.slice aj (n / 2 ^ j) cj) ∧ EAt aj (lvl L n j) w := by
  cases j with
  | zero => exact ⟨ao, cap, by rw [h.leaf]; simp, by rw [hn, lvl_zero]; exact hE⟩
  | succ j =>
    obtain ⟨v, hv, ho⟩ := h.row (j + 1) (by omega) hj
    obtain ⟨aj, cj, rfl⟩ := ho.form
    exact ⟨aj, cj, by rw [hv, lvl_len], ho.at (lvl_ok hL hn ⟨m, hm, by omega⟩)⟩

set_option maxHeartbeats 4000000 in
set_option maxRecDepth 100000 in
theorem dev_levels (L : List (List Nat)) (h : Nat) (ao : Option Addr) (cap : Nat) (w : World) (hL : Elems L) (hE : EAt ao L w) (hn : L.length = 2 ^ h) (h8 : h ≤ 8) (hkat : KAt w) :
    Calls Tryd.prog 47 #[.slice ao L.length cap] w fun e w' => (∃ v S, e = .returned v ∧ OwnV w.heap.size 36 v S w' ∧ LevAt w.heap.size L L.length h ao cap S w') ∧ Below w.heap.size w w' := by
  obtain ⟨i0, hi, hz0, hz1, hz2⟩ := info_parts Tryd.infoE16
  have HIF := Lib.hid hi
  have HZ0 := Lib.hid hz0
  have HZ1 := Lib.hid hz1
  have HZ2 := Lib.hid hz2
  have HE := Lib.hid hE
  have LE := Lib.hid hL
  have HK := Lib.hid hkat
  have HN := Shut.mk hn
  have h256 : L.length ≤ 256 := by rw [hn]; exact Nat.le_trans (Nat.pow_le_pow_right (by decide) h8) (by decide)
  clear hE hL hn hkat hi hz0 hz1 hz2
  go_enter Tryd.func47, Tryd.ntmps47
  go_upto_region 2 with (fail)
  obtain ⟨w1, hw1⟩ : ∃ x', x' = w.alloc (.cells #[.slice ao L.length cap] 36) := ⟨_, rfl⟩
  rw [← hw1]
  have HB1 := Lib.hid (show Below w.heap.size w w1 by rw [hw1]; exact (Below.refl _ _).alloc (Nat.le_refl _) _)
  have HO1 := Lib.hid (show OwnV w.heap.size 36 (.slice (some ⟨w.heap.size, 0, none⟩) 1 1) [.slice ao L.length cap] w1 by
    rw [hw1]
    exact World.ownsRow_lit (base := w.heap.size) (e := 36) (size := 1) w #[.slice ao L.length cap] 1 (Nat.le_refl _) (by unfold maxLen; omega) rfl)
  clear hw1
  go_wp2_with fail
  go_loopw [3, 4] (fun va vb wq => ∃ k S ab cb, k ≤ h ∧ vb = .slice ab (L.length / 2 ^ k) cb ∧ S[k]? = some (.slice ab (L.length / 2 ^ k) cb) ∧ EAt ab (lvl L L.length k) wq ∧ OwnV w.heap.size 36 va S wq ∧ LevAt w.heap.size L L.length k ao cap S wq ∧ Below w.heap.size w wq) (fun _ vb _ => lenOf vb)
  case atStart => exact ⟨0, [.slice ao L.length cap], ao, cap, by omega, by simp, by simp, by rw [lvl_zero]; exact HE.out.below HB1.out, HO1.out, ⟨rfl, rfl, fun j h1 h2 => by omega⟩, HB1.out⟩
  case round =>
    clear HB1 HO1
    obtain ⟨wk, hwk⟩ : ∃ x, x = wr := ⟨_, rfl⟩
    subst hwk
    obtain ⟨k, S, ab, cb, hk, rfl, hsk, heb, hov, hlev, hb⟩ := hrel
    have HB := Lib.hid hb
    have HEB := Lib.hid heb
    have HLV := Lib.hid hlev
    obtain ⟨g0, c0, rfl, hg0⟩ := hov.formB (by rw [hlev.len]; omega)
    rw [hlev.len] at hov ⊢
    have HOV := Lib.hid hov
    have hdiv : L.length / 2 ^ k = 2 ^ (h - k) := by rw [HN.out, Nat.pow_div hk (by decide)]
    by_cases hlk : k < h
    · have hdiv2 : L.length / 2 ^ (k + 1) = 2 ^ (h - (k + 1)) := by rw [HN.out, Nat.pow_div (by omega) (by decide)]
      have hpos : 1 ≤ 2 ^ (h - (k + 1)) := Nat.one_le_two_pow
      have htwo : L.length / 2 ^ k = 2 * (L.length / 2 ^ (k + 1)) := by rw [hdiv, hdiv2, ← Nat.pow_succ']; congr 1; omega
      have HRL := Shut.mk (lvl_len L L.length k)
      have HRE := Lib.hid (lvl_ok LE.out rfl (k := k) ⟨h, HN.out, hk⟩)
      have HNX := Shut.mk (lvl_next L L.length k)
      have HLL := Shut.mk (lvl_len L L.length (k + 1))
      have hm1 : 1 ≤ L.length / 2 ^ (k + 1) := by rw [hdiv2]; exact hpos
      have hm2 : L.length / 2 ^ (k + 1) ≤ 256 := Nat.le_trans (Nat.div_le_self _ _) h256
      obtain ⟨m, hm⟩ : ∃ m, L.length / 2 ^ (k + 1) = m := ⟨_, rfl⟩
      obtain ⟨r, hr⟩ : ∃ r, L.length / 2 ^ k = r := ⟨_, rfl⟩
      obtain ⟨R, hR⟩ : ∃ R, lvl L L.length k = R := ⟨_, rfl⟩
      rw [hm] at hm1 hm2 htwo HNX HLL
      rw [hr] at htwo HRL hsk ⊢
      rw [hR] at HEB HRL HRE HNX
      have HM := Shut.mk hm
      clear hb heb hlev hov hdiv hdiv2 hpos hsk hm hR hr
      have hq : (r : Int) / 2 = (m : Int) := by omega
      have hr1 : (1 : Int) < (r : Int) := by omega
      have HRM := Lib.hid htwo
      clear htwo
      go_wp2_with (at_make; refine wpList_make_full _ rfl _ _ 36 rfl wk.heap.size 31 i0 _ 16 Tryd.underlying36 HIF.out HZ0.out HZ1.out .i64 .i64 _ _ m rfl rfl rfl rfl (by rw [HZ2.out]; omega) (by unfold maxLen; omega) (Nat.le_refl _) ?_)
      intro w2 ho2 hg2
      have hb2 : Below wk.heap.size wk w2 := (Below.refl wk.heap.size wk).grown hg2 (Nat.le_refl _) (by intro g hg; cases hg)
      have HO2 := Lib.hid (show OwnE wk.heap.size 31 (.slice (some ⟨wk.heap.size, 0, none⟩) m m) (partP R k m 0) w2 by rw [partP_zero]; exact OwnE.made ho2)
      have HB2 := Lib.hid hb2
      obtain ⟨g, hg⟩ : ∃ g, g = wk.heap.size := ⟨_, rfl⟩
      rw [← hg] at HO2 ⊢
      have HG := Lib.hid hg
      clear ho2 hg2 hb2 hg
      go_wp2_with fail
      go_loopw [19] (fun n wq => ∃ i : Nat, i ≤ m ∧ n = .int .i64 i ∧ OwnE g 31 (.slice (some ⟨g, 0, none⟩) m m) (partP R k m i) wq ∧ Below wk.heap.size wk wq) (fun n _ => m - (intOf n).toNat)
      case atStart => exact ⟨0, by omega, rfl, HO2.out, HB2.out⟩
      case round =>
        clear HO2 HB2
        obtain ⟨i, him, rfl, hoi, hbi⟩ := hrel
        have HOI := Lib.hid hoi
        have HBI := Lib.hid hbi
        clear hoi
        by_cases hli : i < m
        · have ha := HRM.out
          obtain ⟨b, o, rfl, hbb⟩ := HEB.out.some (by rw [HRL.out]; omega)
          have hl1 : 2 * i < R.length := by rw [HRL.out]; omega
          have hl2 : 2 * i + 1 < R.length := by rw [HRL.out]; omega
          have HX := Lib.hid (rangeAt_below (HEB.out.get hl1) hbi hbb)
          have HY := Lib.hid (rangeAt_below (HEB.out.get hl2) hbi hbb)
          have HBB := Lib.hid (show b < wr.heap.size from Nat.lt_of_lt_of_le hbb hbi.size)
          obtain ⟨hx1, hx2⟩ := HRE.out.getD hl1
          obtain ⟨hy1, hy2⟩ := HRE.out.getD hl2
          have HPS := Shut.mk (partP_set R k hli)
          have HPE := Lib.hid (partP_ok R k m i)
          have HPL := Lib.hid (partP_len R k (Nat.le_of_lt hli))
          obtain ⟨x, hx⟩ : ∃ x, R.getD (2 * i) [] = x := ⟨_, rfl⟩
          obtain ⟨y, hy⟩ : ∃ y, R.getD (2 * i + 1) [] = y := ⟨_, rfl⟩
          obtain ⟨U, hU⟩ : ∃ U, upN x y ((k + 1 : Nat) : Int) (i : Int) = U := ⟨_, rfl⟩
          have hu1 := upN_len x y ((k + 1 : Nat) : Int) (i : Int)
          have hu2 := upN_lt x y ((k + 1 : Nat) : Int) (i : Int)
          rw [hx, hy, hU] at HPS
          rw [hU] at hu1 hu2
          rw [hx] at hx1 hx2 HX
          rw [hy] at hy1 hy2 HY
          have HX1 := Lib.hid hx1
          have HX2 := Lib.hid hx2
          have HY1 := Lib.hid hy1
          have HY2 := Lib.hid hy2
          have HU1 := Lib.hid hu1
          have HU2 := Lib.hid hu2
          have HUE := Shut.mk hU
          have HKI := Lib.hid ((HK.out.below HB.out).below hbi)
          clear hx hy hU hx1 hx2 hy1 hy2 hu1 hu2 hbi hbb hl1 hl2
          have HIX := Lib.hid (show (Tryd.prog.info? 31).map (·.size) = some x.length by rw [HX1.out]; exact Tryd.infoE)
          have HIY := Lib.hid (show (Tryd.prog.info? 31).map (·.size) = some y.length by rw [HY1.out]; exact Tryd.infoE)
          have hb1 : 2 * (i : Int) < (r : Int) := by omega
          have hb2 : 2 * (i : Int) + 1 < (r : Int) := by omega
          have hb3 : (i : Int) < (m : Int) := by omega
          clear ha
          go_upto_region 8 with (fail)
          refine wp_region_class_tail (fun w' => SS wr w') 18 (by kernel_rfl) (by kernel_rfl) (SS.start HKI.out) ?_
          simp only [List.take_succ_cons, List.take_zero, List.drop_succ_cons, List.drop_zero]
          repeat (first
            | (go_big_quiet_want; refine quiet_load_elem 31 _ rfl b (o + 2 * i * 16) x _ rfl (fun w' h => rangeAt_below HX.out h.1 HBB.out) Tryd.underlying31 rfl HIX.out ?_; go_big_quiet_on; simp only [Act.put, List.setIfInBounds_toArray, List.set_cons_zero, List.set_cons_succ])
            | (go_big_quiet_want; refine quiet_load_elem 31 _ rfl b (o + (2 * i + 1) * 16) y _ rfl (fun w' h => rangeAt_below HY.out h.1 HBB.out) Tryd.underlying31 rfl HIY.out ?_; go_big_quiet_on; simp only [Act.put, List.setIfInBounds_toArray, List.set_cons_zero, List.set_cons_succ])
            | go_big_quiet_step ((intro hs'; first
                | rfl
                | (go_at_call 61; exact (dev_up x y ((k + 1 : Nat) : Int) (i : Int) _ HX1.out HX2.out HY1.out HY2.out (by omega) (by omega) (by omega) (by omega) hs'.2).mono fun e w' h => ⟨h.1.trans (by rw [HUE.out]), hs'.next h.2⟩))))
          refine wpQuiet_nil ?_
          intro w3 hs3
          have HO3 := Lib.hid (HOI.out.below hs3.1)
          have HB3 := Lib.hid (HBI.out.trans (hs3.1.mono HBI.out.size))
          have HGK := Lib.hid (show wk.heap.size ≤ g by rw [HG.out]; exact Nat.le_refl _)
          clear hs3 HOI HX HY HKI
          go_wp2_with (refine wpList_store_elem rfl 31 _ _ rfl rfl g g m m i (i * 16) 31 (partP R k m i) U HPL.out.symm (Nat.mul_comm _ _) rfl rfl HO3.out HPE.out hli HU1.out HU2.out Tryd.infoE ?_)
          intro w4 ho4 hb4
          have HO4 := Lib.hid (show OwnE g 31 (.slice (some ⟨g, 0, none⟩) m m) (partP R k m (i + 1)) w4 by rw [← HPS.out]; exact ho4.out)
          have HB4 := Lib.hid (show Below wk.heap.size wk w4 from But.toBelow HB3.out hb4.out HGK.out HB3.out.size)
          clear ho4 hb4 HO3 HB3 HPS HPE HPL
          go_wp2_with fail
          exact ⟨⟨i + 1, by omega, by go_num, HO4.out, HB4.out⟩, by simp [intOf]; omega⟩
        · obtain rfl : i = m := by omega
          rw [partP_full, HNX.out] at HOI
          have HGK := Lib.hid (show wk.heap.size ≤ g by rw [HG.out]; exact Nat.le_refl _)
          have hnw : ¬ (i : Int) < (i : Int) := by omega
          have HNV := Lib.hid (HOI.out.mono (show w.heap.size ≤ g from Nat.le_trans HB.out.size HGK.out))
          have HOV2 := Lib.hid (HOV.out.below hbi)
          have HLV2 := Lib.hid (HLV.out.below hbi)
          have HB2 := Lib.hid (HB.out.trans (hbi.mono HB.out.size))
          clear HOI HOV HLV HEB hbi
          have hba : Below wr.heap.size wr (wr.alloc (.cells #[.slice (some ⟨g, 0, none⟩) i i] 36)) := (Below.refl _ _).alloc (Nat.le_refl _) _
          have HOVa := Lib.hid (HOV2.out.below hba)
          have HLVa := Lib.hid (HLV2.out.below hba)
          have HNVa := Lib.hid (HNV.out.below hba)
          have HBa := Lib.hid (HB2.out.trans (hba.mono HB2.out.size))
          have HCa := Lib.hid (show (wr.alloc (.cells #[.slice (some ⟨g, 0, none⟩) i i] 36)).cell? ((⟨wr.heap.size, 0, none⟩ : Addr).add 0) = some (.slice (some ⟨g, 0, none⟩) i i) by rw [Addr.add_lit, Lib.cell_of_heap (heap_alloc_new wr _)]; rfl)
          have HSL := Lib.hid (show S.length ≤ 1000000 by rw [HLV2.out.len]; omega)
          clear hba HOV2 HLV2 HNV HB2
          go_wp2_with (at_builtin; refine wpList_append_val rfl (.tmp 41) (.tmp 43) 75 36 rfl w.heap.size (.slice none 0 0) 24 rfl (by decide) Tryd.underlying75 Tryd.infoRow _ S (.slice (some ⟨g, 0, none⟩) i i) rfl ⟨wr.heap.size, 0, none⟩ 1 rfl HOVa.out rfl HCa.out HSL.out HBa.out.size ?_)
          intro v5 w5 ho5 hg5 hb5
          have HO5 := Lib.hid ho5.out
          have HLV5 := Lib.hid ((HLVa.out.kept HOVa.out hg5.out).push (HNVa.out.kept HOVa.out (by decide) hg5.out))
          have HE5 := Lib.hid ((HNVa.out.kept HOVa.out (by decide) hg5.out).at (lvl_ok LE.out rfl (k := k + 1) ⟨h, HN.out, hlk⟩))
          have HB5 := Lib.hid (HBa.out.trans hb5.out)
          have HSK := Lib.hid (show (S ++ [Value.slice (some ⟨g, 0, none⟩) i i])[k + 1]? = some (.slice (some ⟨g, 0, none⟩) i i) by rw [List.getElem?_append_right (by rw [HLVa.out.len]; exact Nat.le_refl _), HLVa.out.len, Nat.sub_self]; rfl)
          clear ho5 hg5 hb5 HOVa HLVa HNVa HBa HCa HSL
          go_wp2_with fail
          refine ⟨⟨k + 1, S ++ [Value.slice (some ⟨g, 0, none⟩) i i], some ⟨g, 0, none⟩, i, hlk, by rw [HM.out], by rw [HM.out]; exact HSK.out, HE5.out, HO5.out, HLV5.out, HB5.out⟩, ?_⟩
          have := HRM.out
          simp [lenOf]
          omega
    · obtain rfl : k = h := by omega
      have hone : L.length / 2 ^ k = 1 := by rw [hdiv, Nat.sub_self]
      rw [hone]
      clear hb heb hlev hov hdiv hone hsk
      go_wp2_with fail
      go_ret
      exact ⟨⟨_, _, rfl, HOV.out, HLV.out⟩, HB.out⟩

theorem bits_xor_one {q : Nat} (h : q < 256) : bits .xor .i64 (q : Int) 1 = ((sibN q : Nat) : Int) := by
  have key : ∀ n : Fin 300, IntKind.i64.wrap (n.val : Int) = (n.val : Int) := by decide +kernel
  show IntKind.i64.wrap ((BitVec.ofInt 64 (q : Int) ^^^ BitVec.ofInt 64 1).toNat : Int) = _
  rw [xor_one_i64 h]
  exact key ⟨sibN q, by unfold sibN; split <;> omega⟩

set_option maxHeartbeats 1000000 in
set_option maxRecDepth 100000 in
theorem dev_root_not (n : Nat) (ao : Option Addr) (cap : Nat) (w : World) (hg : goodN n = false) (hn : n ≤ 9000000000000) :
    Calls Tryd.prog 24 #[.slice ao n cap] w fun e w' => e = .returned (.tuple #[.agg (nums .u8 (List.replicate 16 0)).toArray, .int .i64 1]) ∧ Below w.heap.size w w' := by
  have HG := Shut.mk hg
  clear hg
  go_enter Tryd.func24, Tryd.ntmps24
  go_upto_region 1 with (fail)
  change Code.wp _ _ _ _ (w.alloc (.cells (nums .u8 (List.replicate 16 0)).toArray 31))
  obtain ⟨w1, hw1⟩ : ∃ x', x' = w.alloc (.cells (nums .u8 (List.replicate 16 0)).toArray 31) := ⟨_, rfl⟩
  rw [← hw1]
  have HR1 := Lib.hid (show Blk w.heap.size 31 .u8 (List.replicate 16 0) w1 by rw [hw1]; exact heap_alloc_new w _)
  have HB1 := Lib.hid (show Below w.heap.size w w1 by rw [hw1]; exact (Below.refl _ _).alloc (Nat.le_refl _) _)
  obtain ⟨g, hgg⟩ : ∃ g, g = w.heap.size := ⟨_, rfl⟩
  rw [← hgg] at HR1 ⊢
  have HGG := Lib.hid (show w.heap.size ≤ g by omega)
  clear hw1 hgg
  go_wp2_with fail
  refine (dev_permitted n w1 hn).mono ?_
  rintro e w2 ⟨rfl, rfl⟩
  rw [HG.out]
  go_wp2_with (refine wpList_store_nums rfl 31 _ _ rfl rfl g .u8 _ (List.replicate 16 0) 31 rfl rfl HR1.out Tryd.infoE rfl ?_)
  intro w7 hc' hb'
  have HC7 := Lib.hid (show Blk g 31 .u8 (List.replicate 16 0) w7 from hc'.out)
  have HB7 := Lib.hid (show Below w.heap.size w w7 from But.toBelow HB1.out hb'.out HGG.out HB1.out.size)
  clear hc' hb'
  go_wp2_with fail
  exact bodyPost_ret (results_nums_tmp rfl _ _ g .u8 _ 31 _ _ rfl rfl HC7.out Tryd.underlying31 rfl Tryd.infoE) rfl ⟨rfl, HB7.out⟩

set_option maxHeartbeats 1000000 in
set_option maxRecDepth 100000 in
theorem dev_root (L : List (List Nat)) (h : Nat) (ao : Option Addr) (cap : Nat) (w : World) (hL : Elems L) (hE : EAt ao L w) (hg : goodN L.length = true) (hn : L.length = 2 ^ h) (h8 : h ≤ 8) (hkat : KAt w) :
    Calls Tryd.prog 24 #[.slice ao L.length cap] w fun e w' => e = .returned (.tuple #[.agg (nums .u8 (atN L h 0)).toArray, .int .i64 0]) ∧ Below w.heap.size w w' := by
  have HG := Shut.mk hg
  have HN := Shut.mk hn
  have HE := Lib.hid hE
  have LE := Lib.hid hL
  have HK := Lib.hid hkat
  have h256 := goodN_le hg
  have HAT := Shut.mk (show (lvl L L.length h).getD 0 [] = atN L h 0 from lvl_get L (by rw [hn, Nat.div_self (Nat.two_pow_pos h)]; decide))
  have hone : L.length / 2 ^ h = 1 := by rw [hn, Nat.div_self (Nat.two_pow_pos h)]
  have HO := Shut.mk hone
  clear hg hn hE hL hkat hone
  go_enter Tryd.func24, Tryd.ntmps24
  go_upto_region 1 with (fail)
  change Code.wp _ _ _ _ (w.alloc (.cells (nums .u8 (List.replicate 16 0)).toArray 31))
  obtain ⟨w1, hw1⟩ : ∃ x', x' = w.alloc (.cells (nums .u8 (List.replicate 16 0)).toArray 31) := ⟨_, rfl⟩
  rw [← hw1]
  have HR1 := Lib.hid (show Blk w.heap.size 31 .u8 (List.replicate 16 0) w1 by rw [hw1]; exact heap_alloc_new w _)
  have HB1 := Lib.hid (show Below w.heap.size w w1 by rw [hw1]; exact (Below.refl _ _).alloc (Nat.le_refl _) _)
  obtain ⟨g, hgg⟩ : ∃ g, g = w.heap.size := ⟨_, rfl⟩
  rw [← hgg] at HR1 ⊢
  have HGG := Lib.hid (show w.heap.size ≤ g by omega)
  clear hw1 hgg
  go_wp2_with fail
  refine (dev_permitted L.length w1 (by omega)).mono ?_
  rintro e w2 ⟨rfl, rfl⟩
  rw [HG.out]
  go_wp2_with fail
  refine (dev_levels L h ao cap w2 LE.out (HE.out.below HB1.out) HN.out h8 (HK.out.below HB1.out)).mono ?_
  rintro e w3 ⟨⟨v, S, rfl, hov, hlv⟩, hb3⟩
  obtain ⟨g0, c0, rfl, hg0⟩ := hov.formB (by rw [hlv.len]; omega)
  rw [hlv.len] at hov ⊢
  obtain ⟨aj, cj, hsj, hej⟩ := hlv.get ((HE.out.below HB1.out).below hb3) LE.out rfl HN.out (Nat.le_refl _) (Nat.le_refl _)
  have hc := hov.get hlv.len.symm hsj
  rw [HO.out] at hc
  obtain ⟨b, o, rfl, hbb⟩ := hej.some (by rw [lvl_len, HO.out]; decide)
  have hx := hej.get (i := 0) (by rw [lvl_len, HO.out]; decide)
  rw [HAT.out] at hx
  have HX := Lib.hid hx
  obtain ⟨hx1, hx2⟩ := atN_ok LE.out h 0 (by rw [Nat.zero_mul, HN.out]; exact Nat.two_pow_pos h)
  obtain ⟨x, hxe⟩ : ∃ x, atN L h 0 = x := ⟨_, rfl⟩
  rw [hxe] at HX hx1
  have HXE := Shut.mk hxe
  have HX1 := Lib.hid hx1
  have HR3 := Lib.hid (HR1.out.below hb3)
  have HB3 := Lib.hid (HB1.out.trans (hb3.mono HB1.out.size))
  have HI := Lib.hid (show (Tryd.prog.info? 31).map (·.size) = some x.length by rw [HX1.out]; exact Tryd.infoE)
  have HL2 := Lib.hid (show (List.replicate 16 0).length = x.length by rw [HX1.out]; rfl)
  clear hov hlv hb3 hg0 hsj hej hx hbb hx1 hx2 hxe HR1 HB1
  have hsub : ((h + 1 : Nat) : Int) - 1 = (h : Int) := by omega
  go_wp2_with (first
    | (refine wpList_load_elem rfl 31 _ rfl b (o + 0 * 16) x _ rfl HX.out Tryd.underlying31 rfl HI.out ?_)
    | (refine wpList_store_nums rfl 31 _ _ rfl rfl g .u8 _ x 31 rfl rfl HR3.out HI.out HL2.out ?_))
  intro w7 hc' hb'
  have HC7 := Lib.hid (show Blk g 31 .u8 x w7 from hc'.out)
  have HB7 := Lib.hid (show Below w.heap.size w w7 from But.toBelow HB3.out hb'.out HGG.out HB3.out.size)
  clear hc' hb'
  go_wp2_with fail
  exact bodyPost_ret (results_nums_tmp rfl _ _ g .u8 _ 31 _ _ rfl rfl HC7.out Tryd.underlying31 rfl HI.out) rfl ⟨by rw [HXE.out]; rfl, HB7.out⟩

set_option maxHeartbeats 1000000 in
set_option maxRecDepth 100000 in
theorem dev_path_not (n : Nat) (i : Int) (ao : Option Addr) (cap : Nat) (w : World) (hn : n ≤ 9000000000000) (hbad : goodN n = false ∨ i < 0 ∨ (n : Int) ≤ i) :
    Calls Tryd.prog 26 #[.int .i64 i, .slice ao n cap] w fun e w' => e = .returned (.tuple #[.slice none 0 0, .int .i64 1]) ∧ Below w.heap.size w w' := by
  go_enter Tryd.func26, Tryd.ntmps26
  go_wp2_with fail
  refine (dev_permitted n w hn).mono ?_
  rintro e w2 ⟨rfl, rfl⟩
  cases hg : goodN n with
  | false =>
    clear hg hbad
    go_wp2_with fail
    go_ret2
    exact ⟨rfl, Below.refl _ _⟩
  | true =>
    rw [hg] at hbad
    clear hg
    by_cases h0 : i < 0
    · clear hbad
      go_wp2_with fail
      go_ret2
      exact ⟨rfl, Below.refl _ _⟩
    · have h1 : (n : Int) ≤ i := by
        rcases hbad with h | h | h
        · cases h
        · exact absurd h h0
        · exact h
      clear hbad
      go_wp2_with fail
      go_ret2
      exact ⟨rfl, Below.refl _ _⟩

set_option maxHeartbeats 1000000 in
set_option maxRecDepth 100000 in
theorem dev_path (L : List (List Nat)) (h i : Nat) (ao : Option Addr) (cap : Nat) (w : World) (hL : Elems L) (hE : EAt ao L w) (hg : goodN L.length = true) (hn : L.length = 2 ^ h) (h8 : h ≤ 8) (hi : i < L.length) (hkat : KAt w) :
    Calls Tryd.prog 26 #[.int .i64 i, .slice ao L.length cap] w fun e w' => (∃ v, e = .returned (.tuple #[v, .int .i64 0]) ∧ OwnE w.heap.size 31 v (pathN L i h) w') ∧ Below w.heap.size w w' := by
  obtain ⟨i0, hi0, hz0, hz1, hz2⟩ := info_parts Tryd.infoE16
  have HIF := Lib.hid hi0
  have HZ0 := Lib.hid hz0
  have HZ1 := Lib.hid hz1
  have HZ2 := Lib.hid hz2
  have HG := Shut.mk hg
  have HN := Shut.mk hn
  have HE := Lib.hid hE
  have LE := Lib.hid hL
  have HK := Lib.hid hkat
  have h256 := goodN_le hg
  have HPO := Lib.hid (pathN_ok hL hn hi (Nat.le_refl h))
  have HSI := Lib.hid (fun k (hk : k < h) => show sibN (i / 2 ^ k) < L.length / 2 ^ k by rw [hn]; exact sib_lt hk (by rw [← hn]; exact hi))
  have HQ := Lib.hid (fun k => show i / 2 ^ k < 256 from Nat.lt_of_le_of_lt (Nat.div_le_self _ _) (by omega))
  clear hg hn hE hL hkat hi0 hz0 hz1 hz2
  go_enter Tryd.func26, Tryd.ntmps26
  go_wp2_with fail
  refine (dev_permitted L.length w (by omega)).mono ?_
  rintro e w2 ⟨rfl, rfl⟩
  rw [HG.out]
  have hlt : ¬ (L.length : Int) ≤ (i : Int) := by omega
  go_wp2_with fail
  refine (dev_levels L h ao cap w2 LE.out HE.out HN.out h8 HK.out).mono ?_
  rintro e w3 ⟨⟨v, S, rfl, hov, hlv⟩, hb3⟩
  obtain ⟨g0, c0, rfl, hg0⟩ := hov.formB (by rw [hlv.len]; omega)
  rw [hlv.len] at hov ⊢
  have HOV := Lib.hid hov
  have HLV := Lib.hid hlv
  have HG0 := Lib.hid hg0
  have HB3 := Lib.hid hb3
  have HE3 := Lib.hid (HE.out.below hb3)
  clear hov hlv hb3 hg0
  have hsub : ((h + 1 : Nat) : Int) - 1 = (h : Int) := by omega
  go_wp2_with (at_make; refine wpList_make_full _ rfl _ _ 36 rfl w3.heap.size 31 i0 _ 16 Tryd.underlying36 HIF.out HZ0.out HZ1.out .i64 .i64 _ _ h rfl rfl rfl rfl (by rw [HZ2.out]; omega) (by unfold maxLen; omega) (Nat.le_refl _) ?_)
  intro w4 ho4 hg4
  have hb4 : Below w3.heap.size w3 w4 := (Below.refl w3.heap.size w3).grown hg4 (Nat.le_refl _) (by intro g hg; cases hg)
  have HO4 := Lib.hid (show OwnE w3.heap.size 31 (.slice (some ⟨w3.heap.size, 0, none⟩) h h) (partR L i h 0) w4 by rw [partR_zero]; exact OwnE.made ho4)
  have HB4 := Lib.hid hb4
  obtain ⟨g, hg⟩ : ∃ g, g = w3.heap.size := ⟨_, rfl⟩
  rw [← hg] at HO4 ⊢
  have HGE := Lib.hid hg
  clear ho4 hg4 hb4 hg
  go_wp2_with fail
  go_loopw [32] (fun n wq => ∃ k : Nat, k ≤ h ∧ n = .int .i64 k ∧ OwnE g 31 (.slice (some ⟨g, 0, none⟩) h h) (partR L i h k) wq ∧ Below w3.heap.size w3 wq) (fun n _ => h - (intOf n).toNat)
  case atStart => exact ⟨0, by omega, rfl, HO4.out, HB4.out⟩
  case round =>
    clear HO4 HB4
    obtain ⟨k, hk, rfl, hok, hbk⟩ := hrel
    have HOK := Lib.hid hok
    have HBK := Lib.hid hbk
    by_cases hlk : k < h
    · have hlk2 : (k : Int) < (h : Int) := by omega
      obtain ⟨aj, cj, hsj, hej⟩ := HLV.out.get HE3.out LE.out rfl HN.out (Nat.le_refl _) (Nat.le_of_lt hlk)
      have hs := HSI.out k hlk
      have hsx := bits_xor_one (HQ.out k)
      rw [show ((i / 2 ^ k : Nat) : Int) = (i : Int) / 2 ^ k by simp] at hsx
      have hat := lvl_get L hs
      have HPS := Shut.mk (partR_set L i (m := h) hlk)
      obtain ⟨hx1, hx2⟩ := atN_ok LE.out k (sibN (i / 2 ^ k)) (by rw [HN.out]; exact Nat.lt_of_lt_of_le (Nat.mul_lt_mul_of_pos_right hs (Nat.two_pow_pos k)) (by rw [HN.out]; exact Nat.div_mul_le_self _ _))
      obtain ⟨b, o, rfl, hbb⟩ := hej.some (by rw [lvl_len]; omega)
      have hx := hej.get (i := sibN (i / 2 ^ k)) (by rw [lvl_len]; exact hs)
      rw [hat] at hx
      have HX := Lib.hid (rangeAt_below hx hbk hbb)
      have hc := (HOV.out.below hbk).get HLV.out.len.symm hsj
      have HPE := Lib.hid (show Elems (partR L i h k) from (pathN_ok LE.out HN.out hi (Nat.le_of_lt hlk)).append (Elems.zeros _))
      have HPL := Lib.hid (partR_len L i (Nat.le_of_lt hlk))
      obtain ⟨s, hse⟩ : ∃ s, sibN (i / 2 ^ k) = s := ⟨_, rfl⟩
      obtain ⟨x, hxe⟩ : ∃ x, atN L k s = x := ⟨_, rfl⟩
      obtain ⟨m, hm⟩ : ∃ m, L.length / 2 ^ k = m := ⟨_, rfl⟩
      rw [hse] at hs hsx HPS HX hx1 hx2
      rw [hxe] at HPS HX hx1 hx2
      rw [hm] at hs hc
      have HX1 := Lib.hid hx1
      have HX2 := Lib.hid hx2
      clear hsj hej hat hx hbb hse hxe hm hx1 hx2 hok hbk
      have hs2 : (s : Int) < (m : Int) := by omega
      have HI := Lib.hid (show (Tryd.prog.info? 31).map (·.size) = some x.length by rw [HX1.out]; exact Tryd.infoE)
      have HGK := Lib.hid (show w3.heap.size ≤ g by rw [HGE.out]; exact Nat.le_refl _)
      go_wp2_with (first
        | (refine wpList_load_elem rfl 31 _ rfl b (o + s * 16) x _ rfl HX.out Tryd.underlying31 rfl HI.out ?_)
        | (refine wpList_store_elem rfl 31 _ _ rfl rfl g g h h k (k * 16) 31 (partR L i h k) x HPL.out.symm (Nat.mul_comm _ _) rfl rfl HOK.out HPE.out hlk HX1.out HX2.out Tryd.infoE ?_))
      intro w5 ho5 hb5
      have HO5 := Lib.hid (show OwnE g 31 (.slice (some ⟨g, 0, none⟩) h h) (partR L i h (k + 1)) w5 by rw [← HPS.out]; exact ho5.out)
      have HB5 := Lib.hid (show Below w3.heap.size w3 w5 from But.toBelow HBK.out hb5.out HGK.out HBK.out.size)
      clear ho5 hb5 HOK HBK HPS HPE HPL hc hsx
      go_wp2_with fail
      exact ⟨⟨k + 1, by omega, by go_num, HO5.out, HB5.out⟩, by simp [intOf]; omega⟩
    · obtain rfl : k = h := by omega
      rw [partR_full] at HOK
      have hnw : ¬ (k : Int) < (k : Int) := by omega
      have HOR := Lib.hid (HOK.out.mono (show w2.heap.size ≤ g by rw [HGE.out]; exact HB3.out.size))
      have HBR := Lib.hid (HB3.out.trans (hbk.mono HB3.out.size))
      clear hok hbk HOK HBK
      go_wp2_with fail
      go_ret2
      exact ⟨⟨_, rfl, HOR.out⟩, HBR.out⟩
end Go.Proofs.YtcjjhddppcmgoaaDoor
