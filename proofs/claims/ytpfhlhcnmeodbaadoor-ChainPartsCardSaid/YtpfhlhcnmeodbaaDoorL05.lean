/-
  Joined: Up, permitted, half.; The developers' levels, Root and Path.; The developers' reach, ends, Leaf, Sign, Meet.; strings.Clone's contract at this program's numbers.; What lies where of the developers' keys.; The developers' log in memory.; The developers' New.; The developers' Node, Count, Sign.; The table of the round constants, laid; what a law's arguments are.; The developers' log: New, Len, Left.; A row of names that was answered.; The developers' GoodDraft.
-/
import Derived.Deep.DeepHandedRow
import Derived.Lib.LaidTab
import Derived.Shelf.LaysM
import Derived.Shelf.Strconv.Clone
import Derived.Test.YtpfhlhcnmeodbaaDoorProg
import Derived.Test.YtpfhlhcnmeodbaaDoorCards
import Derived.Test.YtpfhlhcnmeodbaaDoorTie
import Derived.Test.YtpfhlhcnmeodbaaDoorL01
import Derived.Test.YtpfhlhcnmeodbaaDoorL02
import Derived.Test.YtpfhlhcnmeodbaaDoorL03
import Derived.Test.YtpfhlhcnmeodbaaDoorL04
namespace Go.Proofs.YtpfhlhcnmeodbaaDoor
open Go.RowKit Go.BigFrame
set_option maxHeartbeats 4000000 in
set_option maxRecDepth 100000 in
theorem dev_up (l r : List Nat) (lev idx : Int) (w : World) (hl : l.length = 16) (ll : ∀ y ∈ l, y < 256) (hr : r.length = 16) (lr : ∀ y ∈ r, y < 256)
    (v0 : -9223372036854775808 ≤ lev) (v1 : lev ≤ 9223372036854775807) (x0 : -9223372036854775808 ≤ idx) (x1 : idx ≤ 9223372036854775807) (hk : KAt w) :
    Calls Tryd.prog 108 #[.agg (nums .u8 l).toArray, .agg (nums .u8 r).toArray, .int .i64 lev, .int .i64 idx] w fun e w' => e = .returned (.agg (nums .u8 (upN l r lev idx)).toArray) ∧ Below w.heap.size w w' := by
  have HS := Lib.hid (upN_small hl hr v1 x1)
  have hcl : ¬ 9223372036854775807 < (txt l).length + (txt r).length := by rw [txt_len, txt_len]; omega
  have HL := Lib.hid hl
  have LL := Lib.hid ll
  have HR := Lib.hid hr
  have LR := Lib.hid lr
  have HK := Lib.hid hk
  have hcat := cat2 (txt l) (txt r)
  clear hl ll hr lr hk
  go_enter Tryd.func108, Tryd.ntmps108
  go_upto_region 1 with (fail)
  change Code.wp _ _ _ _ (((w.alloc (.cells (nums .u8 l).toArray 61)).alloc (.cells (nums .u8 r).toArray 61)).alloc (.cells (nums .u8 (List.replicate 16 0)).toArray 61))
  obtain ⟨w1, hw1⟩ : ∃ x', x' = ((w.alloc (.cells (nums .u8 l).toArray 61)).alloc (.cells (nums .u8 r).toArray 61)).alloc (.cells (nums .u8 (List.replicate 16 0)).toArray 61) := ⟨_, rfl⟩
  rw [← hw1]
  have h3 : Blk w.heap.size 61 .u8 l w1 ∧ Blk (w.heap.size + 1) 61 .u8 r w1 ∧ Blk (w.heap.size + 2) 61 .u8 (List.replicate 16 0) w1 ∧ Below w.heap.size w w1 := by rw [hw1]; exact three_new w _ _ _ _ _ _
  obtain ⟨hl1, hr1, hz1, hb1⟩ := h3
  have HL1 := Lib.hid hl1
  have HR1 := Lib.hid hr1
  have HZ1 := Lib.hid hz1
  have HB1 := Lib.hid hb1
  have HK1 := Lib.hid (HK.out.below hb1)
  obtain ⟨gz, hgz⟩ : ∃ g, g = w.heap.size + 2 := ⟨_, rfl⟩
  obtain ⟨gr, hgr⟩ : ∃ g, g = w.heap.size + 1 := ⟨_, rfl⟩
  obtain ⟨gl, hgl⟩ : ∃ g, g = w.heap.size := ⟨_, rfl⟩
  have HGZ := Lib.hid (show w.heap.size ≤ gz by omega)
  rw [← hgz] at HZ1 ⊢
  rw [← hgr] at HR1 ⊢
  rw [← hgl] at HL1 ⊢
  clear hl1 hr1 hz1 hb1 hw1 HK hgz hgr hgl
  refine wp_region_class_tail (fun w' => SS w1 w') 5 (by kernel_rfl) (by kernel_rfl) (SS.start HK1.out) ?_
  simp only [List.take_succ_cons, List.take_zero, List.drop_succ_cons, List.drop_zero]
  repeat (first
    | (go_big_quiet_want; refine quiet_conv_nums 73 9 5 _ rfl gl 16 l 61 (by rw [HL.out]; rfl) LL.out (fun w' h => HL1.out.below h.1) Tryd.underlying73 Tryd.underlying5 Tryd.underlying9 ?_; go_big_quiet_on; simp only [Act.put, List.setIfInBounds_toArray, List.set_cons_zero, List.set_cons_succ])
    | (go_big_quiet_want; refine quiet_conv_nums 73 9 5 _ rfl gr 16 r 61 (by rw [HR.out]; rfl) LR.out (fun w' h => HR1.out.below h.1) Tryd.underlying73 Tryd.underlying5 Tryd.underlying9 ?_; go_big_quiet_on; simp only [Act.put, List.setIfInBounds_toArray, List.set_cons_zero, List.set_cons_succ])
    | go_big_quiet_step ((intro hs'; rfl)))
  refine wpQuiet_nil ?_
  intro w2 hs2
  have HZ2 := Lib.hid (HZ1.out.below hs2.1)
  have HB2 := Lib.hid (HB1.out.trans (hs2.1.mono HB1.out.size))
  have HK2 := Lib.hid hs2.2
  clear hs2 HL1 HR1 HZ1 HB1 HK1
  go_wp2_with fail
  refine (num_int lev _ v0 v1).mono ?_
  rintro e w3 ⟨rfl, hb3⟩
  have HZ3 := Lib.hid (HZ2.out.below hb3)
  have HB3 := Lib.hid (HB2.out.trans (hb3.mono HB2.out.size))
  have HK3 := Lib.hid (HK2.out.below hb3)
  clear hb3 HZ2 HB2 HK2
  go_wp2_with fail
  refine (num_int idx _ x0 x1).mono ?_
  rintro e w4 ⟨rfl, hb4⟩
  have HZ4 := Lib.hid (HZ3.out.below hb4)
  have HB4 := Lib.hid (HB3.out.trans (hb4.mono HB3.out.size))
  have HK4 := Lib.hid (HK3.out.below hb4)
  clear hb4 HZ3 HB3 HK3
  go_wp2_with fail
  refine (dev_sum [110] (some ⟨w4.heap.size, 0, none⟩) 3 [txt l ++ txt r, numB lev.toNat, numB idx.toNat] _ (at_three w4 _ _ _) (fun h => by cases h) (by simp) HS.out (HK4.out.below ((Below.refl _ _).alloc (Nat.le_refl _) _))).mono ?_
  rintro e w5 ⟨rfl, hb5⟩
  have hb : Below w4.heap.size w4 w5 := ((Below.refl _ w4).alloc (Nat.le_refl _) _).trans (hb5.mono (by simp))
  have HZ5 := Lib.hid (HZ4.out.below hb)
  have HB5 := Lib.hid (HB4.out.trans (hb.mono HB4.out.size))
  clear hb hb5 HZ4 HB4 HK4
  go_wp2_with fail
  refine (dev_cut _ w5 (shaN_len _)).mono ?_
  rintro e w6 ⟨rfl, hb6⟩
  have HZ6 := Lib.hid (HZ5.out.below hb6)
  have HB6 := Lib.hid (HB5.out.trans (hb6.mono HB5.out.size))
  clear hb6 HZ5 HB5
  rw [show (shaN (listB [[110], txt l ++ txt r, numB lev.toNat, numB idx.toNat])).take 16 = upN l r lev idx from rfl]
  have HUL0 := upN_len l r lev idx
  obtain ⟨U, hU⟩ : ∃ U, upN l r lev idx = U := ⟨_, rfl⟩
  rw [hU] at HUL0 ⊢
  have HUL := Lib.hid HUL0
  have HUE := Shut.mk hU
  clear hU HUL0
  have HI := Lib.hid (show (Tryd.prog.info? 61).map (·.size) = some U.length by rw [HUL.out]; exact Tryd.infoE)
  have HL2 := Lib.hid (show (List.replicate 16 0).length = U.length by rw [HUL.out]; rfl)
  go_wp2_with (refine wpList_store_nums rfl 61 _ _ rfl rfl gz .u8 _ U 61 rfl rfl HZ6.out HI.out HL2.out ?_)
  intro w7 hc' hb'
  have HC7 := Lib.hid (show Blk gz 61 .u8 U w7 from hc'.out)
  have HB7 := Lib.hid (show Below w.heap.size w w7 from But.toBelow HB6.out hb'.out HGZ.out HB6.out.size)
  clear hc' hb'
  go_wp2_with fail
  exact bodyPost_ret (results_nums rfl _ _ gz .u8 _ 61 _ rfl HC7.out Tryd.underlying61 rfl HI.out) rfl ⟨by rw [HUE.out], HB7.out⟩
def ones1 (x : Int) : Int := IntKind.u64.wrap (bits .and .u64 (x / 2) 6148914691236517205 + bits .and .u64 x 6148914691236517205)
def ones2 (x : Int) : Int := IntKind.u64.wrap (bits .and .u64 (x / 4) 3689348814741910323 + bits .and .u64 x 3689348814741910323)
def ones3 (x : Int) : Int := bits .and .u64 (IntKind.u64.wrap (x / 16 + x)) 1085102592571150095
def onesA (d : Int) (x : Int) : Int := IntKind.u64.wrap (x + x / d)
def onesN (n : Nat) : Int := bits .and .i64 (wrap64 (onesA 4294967296 (onesA 65536 (onesA 256 (ones3 (ones2 (ones1 n))))))) 127
set_option maxHeartbeats 1000000 in
set_option maxRecDepth 100000 in
theorem ones_64 (n : Nat) (w : World) :
    Calls Tryd.prog 129 #[.int .u64 n] w fun e w' => e = .returned (.int .i64 (onesN n)) ∧ w' = w := by
  go_enter Tryd.func129, Tryd.ntmps129
  go_upto_region 2 with (fail)
  obtain ⟨x1, h1⟩ : ∃ x, x = ones1 n := ⟨_, rfl⟩
  rw [show IntKind.u64.wrap (bits .and .u64 ((n : Int) / 2) 6148914691236517205 + bits .and .u64 (n : Int) 6148914691236517205) = x1 from h1.symm]
  have H1 := Shut.mk h1
  clear h1
  go_upto_region 3 with (fail)
  obtain ⟨x2, h2⟩ : ∃ x, x = ones2 x1 := ⟨_, rfl⟩
  rw [show IntKind.u64.wrap (bits .and .u64 (x1 / 4) 3689348814741910323 + bits .and .u64 x1 3689348814741910323) = x2 from h2.symm]
  have H2 := Shut.mk h2
  clear h2
  go_upto_region 4 with (fail)
  obtain ⟨x3, h3⟩ : ∃ x, x = ones3 x2 := ⟨_, rfl⟩
  rw [show bits .and .u64 (IntKind.u64.wrap (x2 / 16 + x2)) 1085102592571150095 = x3 from h3.symm]
  have H3 := Shut.mk h3
  clear h3
  go_upto_region 5 with (fail)
  obtain ⟨x4, h4⟩ : ∃ x, x = onesA 256 x3 := ⟨_, rfl⟩
  rw [show IntKind.u64.wrap (x3 + x3 / 256) = x4 from h4.symm]
  have H4 := Shut.mk h4
  clear h4
  go_upto_region 6 with (fail)
  obtain ⟨x5, h5⟩ : ∃ x, x = onesA 65536 x4 := ⟨_, rfl⟩
  rw [show IntKind.u64.wrap (x4 + x4 / 65536) = x5 from h5.symm]
  have H5 := Shut.mk h5
  clear h5
  go_upto_region 7 with (fail)
  obtain ⟨x6, h6⟩ : ∃ x, x = onesA 4294967296 x5 := ⟨_, rfl⟩
  rw [show IntKind.u64.wrap (x5 + x5 / 4294967296) = x6 from h6.symm]
  have H6 := Shut.mk h6
  clear h6
  go_wp2_with fail
  go_ret
  exact ⟨by rw [H6.out, H5.out, H4.out, H3.out, H2.out, H1.out]; rfl, rfl⟩
theorem ones_good {n : Nat} (hn : n ≤ 256) : (onesN n == 1) = goodN n := by
  have key : ∀ n : Fin 257, (onesN n.val == 1) = goodN n.val := by decide +kernel
  exact key ⟨n, by omega⟩
theorem dev_ones (n : Nat) (w : World) :
    Calls Tryd.prog 118 #[.int .u64 n] w fun e w' => e = .returned (.int .i64 (onesN n)) ∧ w' = w := by
  go_enter Tryd.func118, Tryd.ntmps118
  go_wp2_with fail
  refine (ones_64 n w).mono ?_
  rintro e w1 ⟨rfl, rfl⟩
  obtain ⟨q, hq⟩ : ∃ q, onesN n = q := ⟨_, rfl⟩
  rw [hq]
  have HQ := Shut.mk hq
  clear hq
  go_wp2_with fail
  go_ret
  exact ⟨by rw [HQ.out]; rfl, rfl⟩
theorem dev_permitted (n : Nat) (w : World) (hn : n ≤ 9000000000000) :
    Calls Tryd.prog 85 #[.int .i64 n] w fun e w' => e = .returned (.bool (goodN n)) ∧ w' = w := by
  go_enter Tryd.func85, Tryd.ntmps85
  by_cases h : n ≤ 256
  · have h2 : (n : Int) ≤ 256 := by omega
    have hg := Shut.mk (ones_good h)
    go_wp2_with fail
    refine (dev_ones n w).mono ?_
    rintro e w1 ⟨rfl, rfl⟩
    generalize onesN n = q at *
    go_wp2_with fail
    go_ret
    exact ⟨by rw [← hg.out]; rfl, rfl⟩
  · have h2 : ¬ (n : Int) ≤ 256 := by omega
    have hg : goodN n = false := by
      cases hc : goodN n with
      | false => rfl
      | true => exact absurd (goodN_le hc) h
    go_wp2_with fail
    go_ret
    exact ⟨rfl, rfl⟩
end Go.Proofs.YtpfhlhcnmeodbaaDoor
namespace Go.Proofs.YtpfhlhcnmeodbaaDoor
open Go.RowKit Go.BigFrame
theorem Tryd.infoRow : (Tryd.prog.info? 90).map (fun i => (i.zero, i.size, i.bytes)) = some (some (.slice none 0 0), 1, 24) := by kernel_rfl
def lenTr : Value → Nat
  | .slice _ n _ => n
  | _ => 0
def OwnV (B : Nat) (e : TypeId) (v : Value) (S : List Value) (w : World) : Prop := w.ownsRow B e 1 v S.length S
theorem OwnV.formB {B : Nat} {e : TypeId} {v : Value} {S : List Value} {w : World} (h : OwnV B e v S w) (h0 : 0 < S.length) : ∃ g cap, v = .slice (some ⟨g, 0, none⟩) S.length cap ∧ g < w.heap.size := by
  rcases h.2 with ⟨_, h2⟩ | ⟨g, cap, cur, h1, _, h3, _⟩
  · omega
  · exact ⟨g, cap, h1, lt_of_block h3⟩
theorem OwnV.below {B : Nat} {e : TypeId} {v : Value} {S : List Value} {w w' : World} (h : OwnV B e v S w) (b : Below w.heap.size w w') : OwnV B e v S w' := by
  refine ⟨h.1, ?_⟩
  rcases h.2 with h2 | ⟨g, cap, cur, h1, h2, h3, h4⟩
  · exact .inl h2
  · exact .inr ⟨g, cap, cur, h1, h2, (b.block g (lt_of_block h3)).trans h3, h4⟩
theorem OwnV.get {B g n c : Nat} {e : TypeId} {S : List Value} {w : World} (hn : n = S.length) (h : OwnV B e (.slice (some ⟨g, 0, none⟩) n c) S w) {j : Nat} {u : Value} (hj : S[j]? = some u) : w.cell? ⟨g, j, none⟩ = some u := by
  subst hn
  have hl := (List.getElem?_eq_some_iff.1 hj).1
  rw [World.ownsRow.cellAt h j (by omega), hj]
theorem OwnE.kept {B B2 : Nat} {e e2 : TypeId} {v u : Value} {L : List (List Nat)} {S : List Value} {w w' : World} (h : OwnE B e v L w) (ho : OwnV B2 e2 u S w) (hne : e ≠ e2) (hg : w.grownBy w' u.ownBlock) : OwnE B e v L w' := by
  refine ⟨h.1, ?_⟩
  rcases h.2 with h2 | ⟨g, cap, cur, h1, h2, h3, h4⟩
  · exact .inl h2
  · refine .inr ⟨g, cap, cur, h1, h2, (hg.block g (lt_of_block h3) fun hc => ?_).trans h3, h4⟩
    rcases ho.2 with ⟨hu, _⟩ | ⟨g2, cap2, cur2, hu, _, hg2, _⟩
    · rw [hu] at hc; cases hc
    · rw [hu] at hc
      obtain rfl : g = g2 := by simpa [Value.ownBlock] using hc
      rw [h3] at hg2
      simp only [Option.some.injEq, Obj.cells.injEq] at hg2
      exact hne hg2.2.1
theorem wpList_append_val {P : Program} {w : World} {ops : Array Oper} {rest : List Oper} {o : Oper} {a : Act} {Q : Exit → Act → World → Prop} (hgd : o.guard = none) (s x : Operand) (t e : TypeId)
    (ho : o.op = .call { callee := .builtin .append, args := #[s, x], argTypes := #[t, t] })
    (B : Nat) (z : Value) (bytes : Nat) (hzs : z.cells.size = 1) (hby : bytes ≤ 1024) (ht : P.underlying t = some (.slice e)) (hinfo : (P.info? e).map (fun i => (i.zero, i.size, i.bytes)) = some (some z, 1, bytes))
    (v : Value) (S : List Value) (u : Value) (hu : u.oneCell' = true) (ad : Addr) (c : Nat) (hs : a.eval s = v) (hown : OwnV B e v S w) (hx : a.eval x = .slice (some ad) 1 c) (hnews : w.cell? (ad.add 0) = some u)
    (h63 : S.length ≤ 1000000) (hB : B ≤ w.heap.size)
    (h : ∀ v' w', Hid (OwnV B e v' (S ++ [u]) w') → Hid (w.grownBy w' v.ownBlock) → Hid (Below B w w') → wpList P ops Q rest (a.put o.dst v') w') : wpList P ops Q (o :: rest) a w := by
  obtain ⟨i, hi, hz0, hz1, hz2⟩ := info_parts hinfo
  refine wpList_append_own_at w hgd s x _ ho B e i z 1 bytes ht hi hz0 hz1 hz2 hzs (by decide) v S.length S hs hown ad 1 c [u] hx rfl ?_ ?_ (by unfold maxLen; omega) ?_ hB ?_
  · intro j q hj
    have hj0 : j = 0 := by
      have := (List.getElem?_eq_some_iff.1 hj).1
      simpa using this
    subst hj0
    obtain rfl : u = q := by simpa using hj
    exact hnews
  · intro q hq
    obtain rfl := List.mem_singleton.1 hq
    exact hu
  · refine Nat.le_trans (Nat.mul_le_mul (show S.length + 1 ≤ 1000001 by omega) hby) (by decide)
  · intro v' w' h2 hg _ _
    refine h v' w' ?_ hg ((Below.refl B w).grown hg hB (fun k hk => (World.ownsRow.lt hown k hk).1))
    show w'.ownsRow B e 1 v' (S ++ [u]).length (S ++ [u])
    rw [List.length_append]
    exact h2
structure LevAt (B : Nat) (L : List (List Nat)) (n k : Nat) (ao : Option Addr) (cap : Nat) (S : List Value) (w : World) : Prop where
  len : S.length = k + 1
  leaf : S[0]? = some (.slice ao n cap)
  row : ∀ j, 1 ≤ j → j ≤ k → ∃ v, S[j]? = some v ∧ OwnE B 61 v (lvl L n j) w
theorem LevAt.below {B : Nat} {L : List (List Nat)} {n k : Nat} {ao : Option Addr} {cap : Nat} {S : List Value} {w w' : World} (h : LevAt B L n k ao cap S w) (b : Below w.heap.size w w') : LevAt B L n k ao cap S w' :=
  ⟨h.len, h.leaf, fun j h1 h2 => by
    obtain ⟨v, hv, ho⟩ := h.row j h1 h2
    exact ⟨v, hv, ho.below b⟩⟩
theorem LevAt.kept {B B2 : Nat} {L : List (List Nat)} {n k : Nat} {ao : Option Addr} {cap : Nat} {S T : List Value} {u : Value} {w w' : World} (h : LevAt B L n k ao cap S w) (ho : OwnV B2 90 u T w) (hg : w.grownBy w' u.ownBlock) : LevAt B L n k ao cap S w' :=
  ⟨h.len, h.leaf, fun j h1 h2 => by
    obtain ⟨v, hv, hr⟩ := h.row j h1 h2
    exact ⟨v, hv, hr.kept ho (by decide) hg⟩⟩
theorem LevAt.push {B : Nat} {L : List (List Nat)} {n k : Nat} {ao : Option Addr} {cap : Nat} {S : List Value} {w : World} {v : Value} (h : LevAt B L n k ao cap S w) (hv : OwnE B 61 v (lvl L n (k + 1)) w) : LevAt B L n (k + 1) ao cap (S ++ [v]) w :=
  ⟨by simp [h.len], by rw [List.getElem?_append_left (by rw [h.len]; omega)]; exact h.leaf, fun j h1 h2 => by
    by_cases hj : j ≤ k
    · obtain ⟨u, hu, hr⟩ := h.row j h1 hj
      exact ⟨u, by rw [List.getElem?_append_left (by rw [h.len]; omega)]; exact hu, hr⟩
    · obtain rfl : j = k + 1 := by omega
      exact ⟨v, by rw [List.getElem?_append_right (by rw [h.len]; exact Nat.le_refl _), h.len, Nat.sub_self]; rfl, hv⟩⟩
theorem LevAt.get {B : Nat} {L : List (List Nat)} {n k : Nat} {ao : Option Addr} {cap : Nat} {S : List Value} {w : World} (h : LevAt B L n k ao cap S w) (hE : EAt ao L w) (hL : Elems L) (hn : n = L.length) {m : Nat} (hm : n = 2 ^ m) (hk : k ≤ m) {j : Nat} (hj : j ≤ k) :
    ∃ aj cj, S[j]? = some (.slice aj (n / 2 ^ j) cj) ∧ EAt aj (lvl L n j) w := by
  cases j with
  | zero => exact ⟨ao, cap, by rw [h.leaf]; simp, by rw [hn, lvl_zero]; exact hE⟩
  | succ j =>
    obtain ⟨v, hv, ho⟩ := h.row (j + 1) (by omega) hj
    obtain ⟨aj, cj, rfl⟩ := ho.form
    exact ⟨aj, cj, by rw [hv, lvl_len], ho.at (lvl_ok hL hn ⟨m, hm, by omega⟩)⟩
set_option maxHeartbeats 4000000 in
set_option maxRecDepth 100000 in
theorem dev_levels (L : List (List Nat)) (h : Nat) (ao : Option Addr) (cap : Nat) (w : World) (hL : Elems L) (hE : EAt ao L w) (hn : L.length = 2 ^ h) (h8 : h ≤ 8) (hkat : KAt w) :
    Calls Tryd.prog 86 #[.slice ao L.length cap] w fun e w' => (∃ v S, e = .returned v ∧ OwnV w.heap.size 90 v S w' ∧ LevAt w.heap.size L L.length h ao cap S w') ∧ Below w.heap.size w w' := by
  obtain ⟨i0, hi, hz0, hz1, hz2⟩ := info_parts Tryd.infoE16
  have HIF := Lib.hid hi
  have HZ0 := Lib.hid hz0
  have HZ1 := Lib.hid hz1
  have HZ2 := Lib.hid hz2
  have HE := Lib.hid hE
  have LE := Lib.hid hL
  have HK := Lib.hid hkat
  have HN := Shut.mk hn
  have h256 : L.length ≤ 256 := by rw [hn]; exact Nat.le_trans (Nat.pow_le_pow_right (by decide) h8) (by decide)
  clear hE hL hn hkat hi hz0 hz1 hz2
  go_enter Tryd.func86, Tryd.ntmps86
  go_upto_region 2 with (fail)
  obtain ⟨w1, hw1⟩ : ∃ x', x' = w.alloc (.cells #[.slice ao L.length cap] 90) := ⟨_, rfl⟩
  rw [← hw1]
  have HB1 := Lib.hid (show Below w.heap.size w w1 by rw [hw1]; exact (Below.refl _ _).alloc (Nat.le_refl _) _)
  have HO1 := Lib.hid (show OwnV w.heap.size 90 (.slice (some ⟨w.heap.size, 0, none⟩) 1 1) [.slice ao L.length cap] w1 by
    rw [hw1]
    exact World.ownsRow_lit (base := w.heap.size) (e := 90) (size := 1) w #[.slice ao L.length cap] 1 (Nat.le_refl _) (by unfold maxLen; omega) rfl)
  clear hw1
  go_wp2_with fail
  go_loopw [3, 4] (fun va vb wq => ∃ k S ab cb, k ≤ h ∧ vb = .slice ab (L.length / 2 ^ k) cb ∧ S[k]? = some (.slice ab (L.length / 2 ^ k) cb) ∧ EAt ab (lvl L L.length k) wq ∧ OwnV w.heap.size 90 va S wq ∧ LevAt w.heap.size L L.length k ao cap S wq ∧ Below w.heap.size w wq) (fun _ vb _ => lenTr vb)
  case atStart => exact ⟨0, [.slice ao L.length cap], ao, cap, by omega, by simp, by simp, by rw [lvl_zero]; exact HE.out.below HB1.out, HO1.out, ⟨rfl, rfl, fun j h1 h2 => by omega⟩, HB1.out⟩
  case round =>
    clear HB1 HO1
    obtain ⟨wk, hwk⟩ : ∃ x, x = wr := ⟨_, rfl⟩
    subst hwk
    obtain ⟨k, S, ab, cb, hk, rfl, hsk, heb, hov, hlev, hb⟩ := hrel
    have HB := Lib.hid hb
    have HEB := Lib.hid heb
    have HLV := Lib.hid hlev
    obtain ⟨g0, c0, rfl, hg0⟩ := hov.formB (by rw [hlev.len]; omega)
    rw [hlev.len] at hov ⊢
    have HOV := Lib.hid hov
    have hdiv : L.length / 2 ^ k = 2 ^ (h - k) := by rw [HN.out, Nat.pow_div hk (by decide)]
    by_cases hlk : k < h
    · have hdiv2 : L.length / 2 ^ (k + 1) = 2 ^ (h - (k + 1)) := by rw [HN.out, Nat.pow_div (by omega) (by decide)]
      have hpos : 1 ≤ 2 ^ (h - (k + 1)) := Nat.one_le_two_pow
      have htwo : L.length / 2 ^ k = 2 * (L.length / 2 ^ (k + 1)) := by rw [hdiv, hdiv2, ← Nat.pow_succ']; congr 1; omega
      have HRL := Shut.mk (lvl_len L L.length k)
      have HRE := Lib.hid (lvl_ok LE.out rfl (k := k) ⟨h, HN.out, hk⟩)
      have HNX := Shut.mk (lvl_next L L.length k)
      have HLL := Shut.mk (lvl_len L L.length (k + 1))
      have hm1 : 1 ≤ L.length / 2 ^ (k + 1) := by rw [hdiv2]; exact hpos
      have hm2 : L.length / 2 ^ (k + 1) ≤ 256 := Nat.le_trans (Nat.div_le_self _ _) h256
      obtain ⟨m, hm⟩ : ∃ m, L.length / 2 ^ (k + 1) = m := ⟨_, rfl⟩
      obtain ⟨r, hr⟩ : ∃ r, L.length / 2 ^ k = r := ⟨_, rfl⟩
      obtain ⟨R, hR⟩ : ∃ R, lvl L L.length k = R := ⟨_, rfl⟩
      rw [hm] at hm1 hm2 htwo HNX HLL
      rw [hr] at htwo HRL hsk ⊢
      rw [hR] at HEB HRL HRE HNX
      have HM := Shut.mk hm
      clear hb heb hlev hov hdiv hdiv2 hpos hsk hm hR hr
      have hq : (r : Int) / 2 = (m : Int) := by omega
      have hr1 : (1 : Int) < (r : Int) := by omega
      have HRM := Lib.hid htwo
      clear htwo
      go_wp2_with (at_make; refine wpList_make_full _ rfl _ _ 90 rfl wk.heap.size 61 i0 _ 16 Tryd.underlying90 HIF.out HZ0.out HZ1.out .i64 .i64 _ _ m rfl rfl rfl rfl (by rw [HZ2.out]; omega) (by unfold maxLen; omega) (Nat.le_refl _) ?_)
      intro w2 ho2 hg2
      have hb2 : Below wk.heap.size wk w2 := (Below.refl wk.heap.size wk).grown hg2 (Nat.le_refl _) (by intro g hg; cases hg)
      have HO2 := Lib.hid (show OwnE wk.heap.size 61 (.slice (some ⟨wk.heap.size, 0, none⟩) m m) (partP R k m 0) w2 by rw [partP_zero]; exact OwnE.made ho2)
      have HB2 := Lib.hid hb2
      obtain ⟨g, hg⟩ : ∃ g, g = wk.heap.size := ⟨_, rfl⟩
      rw [← hg] at HO2 ⊢
      have HG := Lib.hid hg
      clear ho2 hg2 hb2 hg
      go_wp2_with fail
      go_loopw [19] (fun n wq => ∃ i : Nat, i ≤ m ∧ n = .int .i64 i ∧ OwnE g 61 (.slice (some ⟨g, 0, none⟩) m m) (partP R k m i) wq ∧ Below wk.heap.size wk wq) (fun n _ => m - (intOf n).toNat)
      case atStart => exact ⟨0, by omega, rfl, HO2.out, HB2.out⟩
      case round =>
        clear HO2 HB2
        obtain ⟨i, him, rfl, hoi, hbi⟩ := hrel
        have HOI := Lib.hid hoi
        have HBI := Lib.hid hbi
        clear hoi
        by_cases hli : i < m
        · have ha := HRM.out
          obtain ⟨b, o, rfl, hbb⟩ := HEB.out.some (by rw [HRL.out]; omega)
          have hl1 : 2 * i < R.length := by rw [HRL.out]; omega
          have hl2 : 2 * i + 1 < R.length := by rw [HRL.out]; omega
          have HX := Lib.hid (rangeAt_below (HEB.out.get hl1) hbi hbb)
          have HY := Lib.hid (rangeAt_below (HEB.out.get hl2) hbi hbb)
          have HBB := Lib.hid (show b < wr.heap.size from Nat.lt_of_lt_of_le hbb hbi.size)
          obtain ⟨hx1, hx2⟩ := HRE.out.getD hl1
          obtain ⟨hy1, hy2⟩ := HRE.out.getD hl2
          have HPS := Shut.mk (partP_set R k hli)
          have HPE := Lib.hid (partP_ok R k m i)
          have HPL := Lib.hid (partP_len R k (Nat.le_of_lt hli))
          obtain ⟨x, hx⟩ : ∃ x, R.getD (2 * i) [] = x := ⟨_, rfl⟩
          obtain ⟨y, hy⟩ : ∃ y, R.getD (2 * i + 1) [] = y := ⟨_, rfl⟩
          obtain ⟨U, hU⟩ : ∃ U, upN x y ((k + 1 : Nat) : Int) (i : Int) = U := ⟨_, rfl⟩
          have hu1 := upN_len x y ((k + 1 : Nat) : Int) (i : Int)
          have hu2 := upN_lt x y ((k + 1 : Nat) : Int) (i : Int)
          rw [hx, hy, hU] at HPS
          rw [hU] at hu1 hu2
          rw [hx] at hx1 hx2 HX
          rw [hy] at hy1 hy2 HY
          have HX1 := Lib.hid hx1
          have HX2 := Lib.hid hx2
          have HY1 := Lib.hid hy1
          have HY2 := Lib.hid hy2
          have HU1 := Lib.hid hu1
          have HU2 := Lib.hid hu2
          have HUE := Shut.mk hU
          have HKI := Lib.hid ((HK.out.below HB.out).below hbi)
          clear hx hy hU hx1 hx2 hy1 hy2 hu1 hu2 hbi hbb hl1 hl2
          have HIX := Lib.hid (show (Tryd.prog.info? 61).map (·.size) = some x.length by rw [HX1.out]; exact Tryd.infoE)
          have HIY := Lib.hid (show (Tryd.prog.info? 61).map (·.size) = some y.length by rw [HY1.out]; exact Tryd.infoE)
          have hb1 : 2 * (i : Int) < (r : Int) := by omega
          have hb2 : 2 * (i : Int) + 1 < (r : Int) := by omega
          have hb3 : (i : Int) < (m : Int) := by omega
          clear ha
          go_upto_region 8 with (fail)
          refine wp_region_class_tail (fun w' => SS wr w') 18 (by kernel_rfl) (by kernel_rfl) (SS.start HKI.out) ?_
          simp only [List.take_succ_cons, List.take_zero, List.drop_succ_cons, List.drop_zero]
          repeat (first
            | (go_big_quiet_want; refine quiet_load_elem 61 _ rfl b (o + 2 * i * 16) x _ rfl (fun w' h => rangeAt_below HX.out h.1 HBB.out) Tryd.underlying61 rfl HIX.out ?_; go_big_quiet_on; simp only [Act.put, List.setIfInBounds_toArray, List.set_cons_zero, List.set_cons_succ])
            | (go_big_quiet_want; refine quiet_load_elem 61 _ rfl b (o + (2 * i + 1) * 16) y _ rfl (fun w' h => rangeAt_below HY.out h.1 HBB.out) Tryd.underlying61 rfl HIY.out ?_; go_big_quiet_on; simp only [Act.put, List.setIfInBounds_toArray, List.set_cons_zero, List.set_cons_succ])
            | go_big_quiet_step ((intro hs'; first
                | rfl
                | (go_at_call 108; exact (dev_up x y ((k + 1 : Nat) : Int) (i : Int) _ HX1.out HX2.out HY1.out HY2.out (by omega) (by omega) (by omega) (by omega) hs'.2).mono fun e w' h => ⟨h.1.trans (by rw [HUE.out]), hs'.next h.2⟩))))
          refine wpQuiet_nil ?_
          intro w3 hs3
          have HO3 := Lib.hid (HOI.out.below hs3.1)
          have HB3 := Lib.hid (HBI.out.trans (hs3.1.mono HBI.out.size))
          have HGK := Lib.hid (show wk.heap.size ≤ g by rw [HG.out]; exact Nat.le_refl _)
          clear hs3 HOI HX HY HKI
          go_wp2_with (refine wpList_store_elem rfl 61 _ _ rfl rfl g g m m i (i * 16) 61 (partP R k m i) U HPL.out.symm (Nat.mul_comm _ _) rfl rfl HO3.out HPE.out hli HU1.out HU2.out Tryd.infoE ?_)
          intro w4 ho4 hb4
          have HO4 := Lib.hid (show OwnE g 61 (.slice (some ⟨g, 0, none⟩) m m) (partP R k m (i + 1)) w4 by rw [← HPS.out]; exact ho4.out)
          have HB4 := Lib.hid (show Below wk.heap.size wk w4 from But.toBelow HB3.out hb4.out HGK.out HB3.out.size)
          clear ho4 hb4 HO3 HB3 HPS HPE HPL
          go_wp2_with fail
          exact ⟨⟨i + 1, by omega, by go_num, HO4.out, HB4.out⟩, by simp [intOf]; omega⟩
        · obtain rfl : i = m := by omega
          rw [partP_full, HNX.out] at HOI
          have HGK := Lib.hid (show wk.heap.size ≤ g by rw [HG.out]; exact Nat.le_refl _)
          have hnw : ¬ (i : Int) < (i : Int) := by omega
          have HNV := Lib.hid (HOI.out.mono (show w.heap.size ≤ g from Nat.le_trans HB.out.size HGK.out))
          have HOV2 := Lib.hid (HOV.out.below hbi)
          have HLV2 := Lib.hid (HLV.out.below hbi)
          have HB2 := Lib.hid (HB.out.trans (hbi.mono HB.out.size))
          clear HOI HOV HLV HEB hbi
          have hba : Below wr.heap.size wr (wr.alloc (.cells #[.slice (some ⟨g, 0, none⟩) i i] 90)) := (Below.refl _ _).alloc (Nat.le_refl _) _
          have HOVa := Lib.hid (HOV2.out.below hba)
          have HLVa := Lib.hid (HLV2.out.below hba)
          have HNVa := Lib.hid (HNV.out.below hba)
          have HBa := Lib.hid (HB2.out.trans (hba.mono HB2.out.size))
          have HCa := Lib.hid (show (wr.alloc (.cells #[.slice (some ⟨g, 0, none⟩) i i] 90)).cell? ((⟨wr.heap.size, 0, none⟩ : Addr).add 0) = some (.slice (some ⟨g, 0, none⟩) i i) by rw [Addr.add_lit, Lib.cell_of_heap (heap_alloc_new wr _)]; rfl)
          have HSL := Lib.hid (show S.length ≤ 1000000 by rw [HLV2.out.len]; omega)
          clear hba HOV2 HLV2 HNV HB2
          go_wp2_with (at_builtin; refine wpList_append_val rfl (.tmp 41) (.tmp 43) 136 90 rfl w.heap.size (.slice none 0 0) 24 rfl (by decide) Tryd.underlying136 Tryd.infoRow _ S (.slice (some ⟨g, 0, none⟩) i i) rfl ⟨wr.heap.size, 0, none⟩ 1 rfl HOVa.out rfl HCa.out HSL.out HBa.out.size ?_)
          intro v5 w5 ho5 hg5 hb5
          have HO5 := Lib.hid ho5.out
          have HLV5 := Lib.hid ((HLVa.out.kept HOVa.out hg5.out).push (HNVa.out.kept HOVa.out (by decide) hg5.out))
          have HE5 := Lib.hid ((HNVa.out.kept HOVa.out (by decide) hg5.out).at (lvl_ok LE.out rfl (k := k + 1) ⟨h, HN.out, hlk⟩))
          have HB5 := Lib.hid (HBa.out.trans hb5.out)
          have HSK := Lib.hid (show (S ++ [Value.slice (some ⟨g, 0, none⟩) i i])[k + 1]? = some (.slice (some ⟨g, 0, none⟩) i i) by rw [List.getElem?_append_right (by rw [HLVa.out.len]; exact Nat.le_refl _), HLVa.out.len, Nat.sub_self]; rfl)
          clear ho5 hg5 hb5 HOVa HLVa HNVa HBa HCa HSL
          go_wp2_with fail
          refine ⟨⟨k + 1, S ++ [Value.slice (some ⟨g, 0, none⟩) i i], some ⟨g, 0, none⟩, i, hlk, by rw [HM.out], by rw [HM.out]; exact HSK.out, HE5.out, HO5.out, HLV5.out, HB5.out⟩, ?_⟩
          have := HRM.out
          simp [lenTr]
          omega
    · obtain rfl : k = h := by omega
      have hone : L.length / 2 ^ k = 1 := by rw [hdiv, Nat.sub_self]
      rw [hone]
      clear hb heb hlev hov hdiv hone hsk
      go_wp2_with fail
      go_ret
      exact ⟨⟨_, _, rfl, HOV.out, HLV.out⟩, HB.out⟩
set_option maxHeartbeats 1000000 in
set_option maxRecDepth 100000 in
theorem dev_root (L : List (List Nat)) (h : Nat) (ao : Option Addr) (cap : Nat) (w : World) (hL : Elems L) (hE : EAt ao L w) (hg : goodN L.length = true) (hn : L.length = 2 ^ h) (h8 : h ≤ 8) (hkat : KAt w) :
    Calls Tryd.prog 51 #[.slice ao L.length cap] w fun e w' => e = .returned (.tuple #[.agg (nums .u8 (atN L h 0)).toArray, .int .i64 0]) ∧ Below w.heap.size w w' := by
  have HG := Shut.mk hg
  have HN := Shut.mk hn
  have HE := Lib.hid hE
  have LE := Lib.hid hL
  have HK := Lib.hid hkat
  have h256 := goodN_le hg
  have HAT := Shut.mk (show (lvl L L.length h).getD 0 [] = atN L h 0 from lvl_get L (by rw [hn, Nat.div_self (Nat.two_pow_pos h)]; decide))
  have hone : L.length / 2 ^ h = 1 := by rw [hn, Nat.div_self (Nat.two_pow_pos h)]
  have HO := Shut.mk hone
  clear hg hn hE hL hkat hone
  go_enter Tryd.func51, Tryd.ntmps51
  go_upto_region 1 with (fail)
  change Code.wp _ _ _ _ (w.alloc (.cells (nums .u8 (List.replicate 16 0)).toArray 61))
  obtain ⟨w1, hw1⟩ : ∃ x', x' = w.alloc (.cells (nums .u8 (List.replicate 16 0)).toArray 61) := ⟨_, rfl⟩
  rw [← hw1]
  have HR1 := Lib.hid (show Blk w.heap.size 61 .u8 (List.replicate 16 0) w1 by rw [hw1]; exact heap_alloc_new w _)
  have HB1 := Lib.hid (show Below w.heap.size w w1 by rw [hw1]; exact (Below.refl _ _).alloc (Nat.le_refl _) _)
  obtain ⟨g, hgg⟩ : ∃ g, g = w.heap.size := ⟨_, rfl⟩
  rw [← hgg] at HR1 ⊢
  have HGG := Lib.hid (show w.heap.size ≤ g by omega)
  clear hw1 hgg
  go_wp2_with fail
  refine (dev_permitted L.length w1 (by omega)).mono ?_
  rintro e w2 ⟨rfl, rfl⟩
  rw [HG.out]
  go_wp2_with fail
  refine (dev_levels L h ao cap w2 LE.out (HE.out.below HB1.out) HN.out h8 (HK.out.below HB1.out)).mono ?_
  rintro e w3 ⟨⟨v, S, rfl, hov, hlv⟩, hb3⟩
  obtain ⟨g0, c0, rfl, hg0⟩ := hov.formB (by rw [hlv.len]; omega)
  rw [hlv.len] at hov ⊢
  obtain ⟨aj, cj, hsj, hej⟩ := hlv.get ((HE.out.below HB1.out).below hb3) LE.out rfl HN.out (Nat.le_refl _) (Nat.le_refl _)
  have hc := hov.get hlv.len.symm hsj
  rw [HO.out] at hc
  obtain ⟨b, o, rfl, hbb⟩ := hej.some (by rw [lvl_len, HO.out]; decide)
  have hx := hej.get (i := 0) (by rw [lvl_len, HO.out]; decide)
  rw [HAT.out] at hx
  have HX := Lib.hid hx
  obtain ⟨hx1, hx2⟩ := atN_ok LE.out h 0 (by rw [Nat.zero_mul, HN.out]; exact Nat.two_pow_pos h)
  obtain ⟨x, hxe⟩ : ∃ x, atN L h 0 = x := ⟨_, rfl⟩
  rw [hxe] at HX hx1
  have HXE := Shut.mk hxe
  have HX1 := Lib.hid hx1
  have HR3 := Lib.hid (HR1.out.below hb3)
  have HB3 := Lib.hid (HB1.out.trans (hb3.mono HB1.out.size))
  have HI := Lib.hid (show (Tryd.prog.info? 61).map (·.size) = some x.length by rw [HX1.out]; exact Tryd.infoE)
  have HL2 := Lib.hid (show (List.replicate 16 0).length = x.length by rw [HX1.out]; rfl)
  clear hov hlv hb3 hg0 hsj hej hx hbb hx1 hx2 hxe HR1 HB1
  have hsub : ((h + 1 : Nat) : Int) - 1 = (h : Int) := by omega
  go_wp2_with (first
    | (refine wpList_load_elem rfl 61 _ rfl b (o + 0 * 16) x _ rfl HX.out Tryd.underlying61 rfl HI.out ?_)
    | (refine wpList_store_nums rfl 61 _ _ rfl rfl g .u8 _ x 61 rfl rfl HR3.out HI.out HL2.out ?_))
  intro w7 hc' hb'
  have HC7 := Lib.hid (show Blk g 61 .u8 x w7 from hc'.out)
  have HB7 := Lib.hid (show Below w.heap.size w w7 from But.toBelow HB3.out hb'.out HGG.out HB3.out.size)
  clear hc' hb'
  go_wp2_with fail
  exact bodyPost_ret (results_nums_tmp rfl _ _ g .u8 _ 61 _ _ rfl rfl HC7.out Tryd.underlying61 rfl HI.out) rfl ⟨by rw [HXE.out]; rfl, HB7.out⟩
end Go.Proofs.YtpfhlhcnmeodbaaDoor
namespace Go.Proofs.YtpfhlhcnmeodbaaDoor
open Go.RowKit Go.BigFrame
def rowN (f : Nat → List Nat) : Nat → List Nat
  | 0 => []
  | k + 1 => rowN f k ++ f k
theorem rowN_len {f : Nat → List Nat} (hf : ∀ j, (f j).length = 16) (k : Nat) : (rowN f k).length = 16 * k := by
  induction k with
  | zero => rfl
  | succ k ih => rw [rowN, List.length_append, ih, hf]; omega
theorem rowN_lt {f : Nat → List Nat} (hf : ∀ j, ∀ y ∈ f j, y < 256) (k : Nat) : ∀ y ∈ rowN f k, y < 256 := by
  induction k with
  | zero => intro y hy; cases hy
  | succ k ih =>
    intro y hy
    rw [rowN, List.mem_append] at hy
    exact hy.elim (ih y) (hf k y)
theorem txt_rowN (f : Nat → List Nat) (k : Nat) : txt (rowN f k) = rowE f k := by
  induction k with
  | zero => rfl
  | succ k ih => rw [rowN, rowE, txt_append, ih]
theorem Tryd.infoByte4 : (Tryd.prog.info? 5).map (fun i => (i.zero, i.size, i.bytes)) = some (some (.int .u8 0), 1, 1) := by kernel_rfl
def toF (seed : List UInt8) (i : Int) (to : List Nat) (j : Nat) : List Nat := walkI (secN seed i j) (placeB i j) 0 (to.getD j 0 : Nat)
theorem toF_len (seed : List UInt8) (i : Int) (to : List Nat) (j : Nat) : (toF seed i to j).length = 16 := walkI_len (secN_len _ _ _) _ _ _
theorem toF_lt (seed : List UInt8) (i : Int) (to : List Nat) (j : Nat) : ∀ y ∈ toF seed i to j, y < 256 := walkI_lt (secN_lt _ _ _) _ _ _
set_option maxHeartbeats 4000000 in
set_option maxRecDepth 100000 in
theorem dev_reach (seed : List UInt8) (i : Int) (to : List Nat) (w : World) (hs : seed.length ≤ 4000) (hi0 : -9223372036854775808 ≤ i) (hi : i ≤ 9223372036854775807) (ht : to.length = 35) (lt : ∀ d ∈ to, d < 16) (hk : KAt w) :
    Calls Tryd.prog 84 #[.string ⟨seed.toArray⟩, .int .i64 i, .agg (nums .i64 to).toArray] w fun e w' => e = .returned (.string ⟨(rowE (toF seed i to) 35).toArray⟩) ∧ Below w.heap.size w w' := by
  obtain ⟨i0, hi2, hz0, hz1, hz2⟩ := info_parts Tryd.infoByte4
  have HS := Lib.hid hs
  have HK := Lib.hid hk
  have HT := Lib.hid ht
  have LT := Lib.hid lt
  have HI0 := Lib.hid hi0
  have HI1 := Lib.hid hi
  have HY := Lib.hid hi2
  have HY0 := Lib.hid hz0
  have HY1 := Lib.hid hz1
  have HY2 := Lib.hid hz2
  clear hs hk ht lt hi0 hi hi2 hz0 hz1 hz2
  go_enter Tryd.func84, Tryd.ntmps84
  go_upto_region 1 with (fail)
  obtain ⟨w1, hw1⟩ : ∃ x', x' = w.alloc (.cells (nums .i64 to).toArray 134) := ⟨_, rfl⟩
  rw [← hw1]
  have hb1 : Below w.heap.size w w1 := by rw [hw1]; exact (Below.refl _ _).alloc (Nat.le_refl _) _
  have HT1 := Lib.hid (show Blk w.heap.size 134 .i64 to w1 by rw [hw1]; exact heap_alloc_new w _)
  have HB1 := Lib.hid hb1
  have HK1 := Lib.hid (HK.out.below hb1)
  clear hb1 hw1 HK
  go_wp2_with (at_make; refine wpList_make_own _ rfl _ _ 73 rfl w1.heap.size 5 i0 (.int .u8 0) 1 Tryd.underlying73 HY.out HY0.out HY1.out .i64 .i64 560 560 rfl rfl rfl (by rw [HY2.out]; decide) (by unfold maxLen; omega) (Nat.le_refl _) ?_)
  intro w2 ho hgrow
  have hb2 : Below w1.heap.size w1 w2 := (Below.refl w1.heap.size w1).grown hgrow (Nat.le_refl _) (by intro g hg; cases hg)
  have HO := Lib.hid (show OwnN w1.heap.size 5 .u8 (.slice (some ⟨w1.heap.size, 0, none⟩) 0 560) [] w2 from ho)
  have HB2 := Lib.hid hb2
  have HT2 := Lib.hid (HT1.out.below hb2)
  have HIT := Lib.hid (show (Tryd.prog.info? 134).map (·.size) = some to.length by rw [HT.out]; exact Tryd.infoDg)
  clear ho hgrow hb2
  go_wp2_with (refine wpList_load_nums rfl 134 _ rfl w.heap.size .i64 _ 134 _ rfl HT2.out Tryd.underlying134 rfl HIT.out ?_)
  go_loopw [7, 14] (fun v n wq => ∃ k : Nat, k ≤ 35 ∧ n = .int .i64 k ∧ OwnN w1.heap.size 5 .u8 v (rowN (toF seed i to) k) wq ∧ Below w1.heap.size w1 wq) (fun _ n _ => 35 - (intOf n).toNat)
  case atStart => exact ⟨0, by omega, rfl, HO.out, HB2.out⟩
  case round =>
    clear HO HB2 HT2
    obtain ⟨k, hk, rfl, ho, hb⟩ := hrel
    obtain ⟨ao, cp, rfl⟩ := ho.form
    have HO := Lib.hid ho
    have HB := Lib.hid hb
    have HW := Lib.hid hb.size
    have HKr := Lib.hid (HK1.out.below hb)
    clear ho hb
    by_cases hlk : k < 35
    · have hix := fun w => run_index_nums (P := Tryd.prog) 134 3 35 .i64 to k w Tryd.underlying134 HT.out Tryd.sizeOf3 Tryd.isAgg3 hlk
      have hx := getD_lt LT.out (by decide) k
      have HF := Lib.hid (show toF seed i to k = walkI (secN seed i k) (placeB i k) 0 (to.getD k 0 : Nat) from rfl)
      generalize to.getD k 0 = y at hix hx HF
      go_upto_region 6 with (fail)
      obtain ⟨w3, hw3⟩ : ∃ x', x' = wr.alloc (.cells #[.int .i64 i, .int .i64 (k : Int)] 163) := ⟨_, rfl⟩
      rw [← hw3]
      have hb3 : Below wr.heap.size wr w3 := by rw [hw3]; exact (Below.refl _ _).alloc (Nat.le_refl _) _
      have HP3 := Lib.hid (show Cells wr.heap.size 163 #[.int .i64 i, .int .i64 (k : Int)] w3 by rw [hw3]; exact heap_alloc_new wr _)
      have HK3 := Lib.hid (HKr.out.below hb3)
      have HO3 := Lib.hid (HO.out.below hb3)
      have HB3 := Lib.hid (HB.out.trans (hb3.mono HB.out.size))
      clear hw3 hb3 HO HB HKr hix
      have HAL := Lib.hid (show ∀ w : World, (Instr.alloc 61 true (.tuple #[])).run Tryd.prog w = .ok (.pointer (some ⟨w.heap.size, 0, none⟩)) (w.alloc (.cells (nums .u8 (List.replicate 16 0)).toArray 61)) from fun w => by kernel_rfl)
      refine wp_region_free 7 (fun s V w' => SS w3 w' ∧ Val s V 0 (.string ⟨seed.toArray⟩) ∧ Val s V 1 (.agg #[.int .i64 i, .int .i64 (k : Int)]) ∧ Val s V 2 (.agg (nums .u8 (secN seed i k)).toArray) ∧ Val s V 3 (.agg #[.int .i64 i, .int .i64 (k : Int)]) ∧ Val s V 4 (.int .i64 (y : Int)) ∧ Val s V 5 (.agg (nums .u8 (toF seed i to k)).toArray) ∧ New s V w3.heap.size 6 61 .u8 (List.replicate 16 0) w') (fun | 0 => u21 | 1 => u22 | 2 => u23 | 3 => u24 | 4 => u25 | 5 => u26 | _ => u11) (by kernel_rfl) (by kernel_rfl) (by kernel_rfl) rfl ⟨SS.start HK3.out, Val.none, Val.none, Val.none, Val.none, Val.none, Val.none, New.none⟩ ?_ ?_
      · simp only [List.take_succ_cons, List.take_zero, putAll, Nat.zero_add, Nat.reduceAdd, Act.put, List.setIfInBounds_toArray, List.set_cons_zero, List.set_cons_succ]
        refine FreeSteps.cons ?_ (FreeSteps.cons ?_ (FreeSteps.cons ?_ (FreeSteps.cons ?_ (FreeSteps.cons ?_ (FreeSteps.cons ?_ (FreeSteps.cons ?_ (FreeSteps.nil)))))))
        all_goals (refine FreeStep.plain rfl ?_; rintro s V wq hr ⟨hB, h0, h1, h2, h3, h4, h5, h6⟩ K hK)
        · exact op_move (.tmp 0) rfl (.string ⟨seed.toArray⟩) rfl (hK _ _ ⟨hB, .same, h1.ne (by decide), h2.ne (by decide), h3.ne (by decide), h4.ne (by decide), h5.ne (by decide), h6.ne (by decide) (Below.refl _ _)⟩)
        · exact op_load_cells 163 (.tmp 10) rfl wr.heap.size #[.int .i64 i, .int .i64 (k : Int)] 163 _ rfl (HP3.out.below hB.1) Tryd.underlying163 rfl Tryd.infoP (hK _ _ ⟨hB, h0.ne (by decide), .same, h2.ne (by decide), h3.ne (by decide), h4.ne (by decide), h5.ne (by decide), h6.ne (by decide) (Below.refl _ _)⟩)
        · have v0 := h0 (hr { on := 0, ground := .data } (by simp) rfl)
          have v1 := h1 (hr { on := 1, ground := .data } (by simp) rfl)
          refine op_call Tryd.func117 rfl rfl rfl [.string ⟨seed.toArray⟩, .agg #[.int .i64 i, .int .i64 (k : Int)]] (cons_eq v0 (cons_eq v1 rfl)) (dev_secret seed i k wq HS.out HI0.out HI1.out (by omega) (by omega) hB.2) ?_
          rintro e w' ⟨rfl, hb⟩
          exact ⟨_, rfl, hK _ _ ⟨hB.next hb, h0.ne (by decide), h1.ne (by decide), .same, h3.ne (by decide), h4.ne (by decide), h5.ne (by decide), h6.ne (by decide) hb⟩⟩
        · exact op_load_cells 163 (.tmp 10) rfl wr.heap.size #[.int .i64 i, .int .i64 (k : Int)] 163 _ rfl (HP3.out.below hB.1) Tryd.underlying163 rfl Tryd.infoP (hK _ _ ⟨hB, h0.ne (by decide), h1.ne (by decide), h2.ne (by decide), .same, h4.ne (by decide), h5.ne (by decide), h6.ne (by decide) (Below.refl _ _)⟩)
        · exact op_move (.tmp 9) rfl (.int .i64 (y : Int)) rfl (hK _ _ ⟨hB, h0.ne (by decide), h1.ne (by decide), h2.ne (by decide), h3.ne (by decide), .same, h5.ne (by decide), h6.ne (by decide) (Below.refl _ _)⟩)
        · have v2 := h2 (hr { on := 2, ground := .data } (by simp) rfl)
          have v3 := h3 (hr { on := 3, ground := .data } (by simp) rfl)
          have v4 := h4 (hr { on := 4, ground := .data } (by simp) rfl)
          refine op_call Tryd.func116 rfl rfl rfl [.agg (nums .u8 (secN seed i k)).toArray, .agg #[.int .i64 i, .int .i64 (k : Int)], .int .i64 0, .int .i64 (y : Int)] (cons_eq v2 (cons_eq v3 (cons_eq rfl (cons_eq v4 rfl)))) (by have h := dev_walk (secN seed i k) i k 0 y wq (secN_len _ _ _) (secN_lt _ _ _) HI0.out HI1.out (by omega) (by omega) (by omega) (by omega) (by omega) (by omega) hB.2; rw [← HF.out] at h; exact h) ?_
          rintro e w' ⟨rfl, hb⟩
          exact ⟨_, rfl, hK _ _ ⟨hB.next hb, h0.ne (by decide), h1.ne (by decide), h2.ne (by decide), h3.ne (by decide), h4.ne (by decide), .same, h6.ne (by decide) hb⟩⟩
        · have hb : Below wq.heap.size wq (wq.alloc (.cells (nums .u8 (List.replicate 16 0)).toArray 61)) := (Below.refl _ _).alloc (Nat.le_refl _) _
          exact op_alloc 61 rfl _ HAL.out (hK _ _ ⟨hB.next hb, h0.ne (by decide), h1.ne (by decide), h2.ne (by decide), h3.ne (by decide), h4.ne (by decide), h5.ne (by decide), .same hB.1.size⟩)
      · rintro s V w4 hall ⟨hB, h0, h1, h2, h3, h4, h5, h6⟩
        have v5 := h5 (hall 5 (by decide))
        obtain ⟨gx, v6, hgx, hx6⟩ := h6 (hall 6 (by decide))
        simp only [List.take_succ_cons, List.take_zero, List.drop_succ_cons, List.drop_zero, putAll, Nat.zero_add, Nat.reduceAdd, v5, v6, Act.put, List.setIfInBounds_toArray, List.set_cons_zero, List.set_cons_succ]
        clear h0 h1 h2 h3 h4 h5 h6 v5 v6 hall HAL
        have HK4 := Lib.hid hB.2
        have HO4 := Lib.hid (HO3.out.below hB.1)
        have HB4 := Lib.hid (HB3.out.trans (hB.1.mono HB3.out.size))
        have HX4 := Lib.hid hx6
        have HGX := Lib.hid (show w1.heap.size ≤ gx by have := HB3.out.size; omega)
        have HAP := Lib.hid (show ∀ g, (Value.slice ao (rowN (toF seed i to) k).length cp).ownBlock = some g → gx ≠ g from fun g hg e => by have := (World.ownsRow.lt HO3.out g hg).2; omega)
        clear hB hgx hx6 HK3 HO3 HB3 HP3
        have HI := Lib.hid (show (Tryd.prog.info? 61).map (·.size) = some (toF seed i to k).length by rw [toF_len]; exact Tryd.infoE)
        have HL2 := Lib.hid (show (List.replicate 16 0).length = (toF seed i to k).length by rw [toF_len]; rfl)
        have HFL := Lib.hid (toF_len seed i to k)
        have HRL := Lib.hid (rowN_len (toF_len seed i to) k)
        have HRN := Lib.hid (show rowN (toF seed i to) (k + 1) = rowN (toF seed i to) k ++ toF seed i to k from rfl)
        generalize toF seed i to k = x at *
        generalize rowN (toF seed i to) k = R at *
        go_wp2_with (refine wpList_store_nums rfl 61 _ _ rfl rfl gx .u8 _ x 61 rfl rfl HX4.out HI.out HL2.out ?_)
        intro w5 hc' hb'
        have HX5 := Lib.hid (show Blk gx 61 .u8 x w5 from hc'.out)
        have HB5 := Lib.hid (show Below w1.heap.size w1 w5 from But.toBelow HB4.out hb'.out HGX.out HB4.out.size)
        have HO5 := Lib.hid (HO4.out.but hb'.out HAP.out)
        have HLA := Lib.hid (show R.length + x.length ≤ maxLen by rw [HRL.out, HFL.out]; unfold maxLen; omega)
        have HLB := Lib.hid (show (R.length + x.length) * 1 ≤ 140737488355328 by rw [HRL.out, HFL.out]; omega)
        clear hc' hb' HX4 HB4 HO4 HK4 HI HL2
        go_wp2_with (refine wpList_append_nums rfl (.tmp 27) (.tmp 28) 73 5 rfl w1.heap.size .u8 1 Tryd.underlying73 Tryd.infoByte4 (.slice ao R.length cp) R x ⟨gx, 0, none⟩ 16 16 HFL.out.symm rfl HO5.out rfl (blk_news HX5.out) HLA.out HLB.out HB5.out.size ?_)
        intro v6 w6 ho6 hb6
        have HB6 := Lib.hid (show Below w1.heap.size w1 w6 from HB5.out.trans hb6.out)
        clear hb6
        go_wp2_with fail
        exact ⟨⟨k + 1, by omega, by go_num, by rw [HRN.out]; exact ho6.out, HB6.out⟩, by simp [intOf]; omega⟩
    · obtain rfl : k = 35 := by omega
      have hconv := conv_row (rowN (toF seed i to) 35) rfl (by rw [rowN_len (toF_len seed i to)]; decide) (rowN_lt (toF_lt seed i to) 35) HO.out
      rw [txt_rowN] at hconv
      have HBr := Lib.hid (HB1.out.trans (HB.out.mono HB1.out.size))
      clear HO HB HKr
      go_wp2_with fail
      go_ret
      exact ⟨rfl, HBr.out⟩
end Go.Proofs.YtpfhlhcnmeodbaaDoor
namespace Go.Proofs.YtpfhlhcnmeodbaaDoor
open Go.RowKit Go.BigFrame
def lastL (k : Nat) : List Nat := List.replicate k 15 ++ List.replicate (35 - k) 0
theorem lastL_len {k : Nat} (hk : k ≤ 35) : (lastL k).length = 35 := by simp [lastL]; omega
theorem lastL_set {k : Nat} (hk : k < 35) : (lastL k).set k 15 = lastL (k + 1) := by
  unfold lastL
  rw [List.set_append_right _ _ (by simp), List.length_replicate, Nat.sub_self, show 35 - k = (35 - (k + 1)) + 1 by omega, List.replicate_succ, List.set_cons_zero, List.replicate_succ', List.append_assoc]
  rfl
theorem last_row (seed : List UInt8) (i : Int) : rowE (toF seed i (lastL 35)) 35 = rowE (endF seed i) 35 := by
  refine rowE_congr fun j hj => ?_
  have h : ∀ j : Fin 35, (lastL 35).getD j.val 0 = 15 := by decide
  have e : (lastL 35).getD j 0 = 15 := h ⟨j, hj⟩
  rw [toF, e, endF]
  rfl
set_option maxHeartbeats 4000000 in
set_option maxRecDepth 100000 in
theorem dev_leaf (seed : List UInt8) (i : Int) (w : World) (hs : seed.length ≤ 4000) (hi0 : -9223372036854775808 ≤ i) (hi : i ≤ 9223372036854775807) (hk : KAt w) :
    Calls Tryd.prog 50 #[.string ⟨seed.toArray⟩, .int .i64 i] w fun e w' => e = .returned (.agg (nums .u8 (leafN seed i)).toArray) ∧ Below w.heap.size w w' := by
  have HS := Lib.hid hs
  have HK := Lib.hid hk
  have HI0 := Lib.hid hi0
  have HI1 := Lib.hid hi
  clear hs hk hi0 hi
  go_enter Tryd.func50, Tryd.ntmps50
  go_upto_region 2 with (fail)
  change Code.wp _ _ _ _ ((w.alloc (.cells (nums .u8 (List.replicate 16 0)).toArray 61)).alloc (.cells (nums .i64 (List.replicate 35 0)).toArray 134))
  obtain ⟨w1, hw1⟩ : ∃ x', x' = (w.alloc (.cells (nums .u8 (List.replicate 16 0)).toArray 61)).alloc (.cells (nums .i64 (List.replicate 35 0)).toArray 134) := ⟨_, rfl⟩
  rw [← hw1]
  have h3 : Cells w.heap.size 61 (nums .u8 (List.replicate 16 0)).toArray w1 ∧ Blk (w.heap.size + 1) 134 .i64 (List.replicate 35 0) w1 ∧ Below w.heap.size w w1 := by rw [hw1]; exact cells_nums_new w _ _ _ _ _
  obtain ⟨hx1, hr1, hb1⟩ := h3
  have HX1 := Lib.hid (show Blk w.heap.size 61 .u8 (List.replicate 16 0) w1 from hx1)
  have HD1 := Lib.hid hr1
  have HB1 := Lib.hid hb1
  have HK1 := Lib.hid (HK.out.below hb1)
  have HKL := Lib.hid (HK.out.lt)
  obtain ⟨gd, hgd⟩ : ∃ g, g = w.heap.size + 1 := ⟨_, rfl⟩
  rw [← hgd] at HD1 ⊢
  have HGD := Lib.hid hgd
  clear hx1 hr1 hb1 hw1 HK hgd
  go_wp2_with fail
  go_loopw [7] (fun n wq => ∃ k : Nat, k ≤ 35 ∧ n = .int .i64 k ∧ Blk gd 134 .i64 (lastL k) wq ∧ But gd w1 wq) (fun n _ => 35 - (intOf n).toNat)
  case atStart => exact ⟨0, by omega, rfl, HD1.out, But.refl _ _⟩
  case round =>
    clear HD1
    obtain ⟨k, hk, rfl, hc, hb⟩ := hrel
    have HC := Lib.hid hc
    have HB := Lib.hid hb
    clear hc hb
    by_cases hlk : k < 35
    · have HLL := Lib.hid (lastL_len hk)
      have HLS := Lib.hid (lastL_set hlk)
      generalize lastL k = L at *
      have c1 := HC.out.cell k (by rw [HLL.out]; omega)
      have f1 := HC.out.frozen k
      have HS3 := Lib.hid (HC.out.set k 15)
      rw [HLS.out] at HS3
      generalize L.getD k 0 = z at c1
      clear HLS
      go_wp2_with fail
      exact ⟨⟨k + 1, by omega, by go_num, HS3.out, HB.out.setCell _ _⟩, by simp [intOf]; omega⟩
    · obtain rfl : k = 35 := by omega
      have HXr := Lib.hid (HX1.out.but HB.out (by have := HGD.out; omega))
      have HKr := Lib.hid (HK1.out.but HB.out (by have := HGD.out; have := HKL.out; omega))
      have HBr := Lib.hid (show Below w.heap.size w wr from But.toBelow HB1.out HB.out (by have := HGD.out; omega) HB1.out.size)
      have HLL := Lib.hid (lastL_len (Nat.le_refl 35))
      have LLT := Lib.hid (show ∀ d ∈ lastL 35, d < 16 by decide)
      have HLR := Lib.hid (last_row seed i)
      clear HX1 HB1 HK1 HB
      generalize lastL 35 = L at *
      have HIL := Lib.hid (show (Tryd.prog.info? 134).map (·.size) = some L.length by rw [HLL.out]; exact Tryd.infoDg)
      go_wp2_with (refine wpList_load_nums rfl 134 _ rfl gd .i64 _ 134 _ rfl HC.out Tryd.underlying134 rfl HIL.out ?_)
      refine (dev_reach seed i L _ HS.out HI0.out HI1.out HLL.out LLT.out HKr.out).mono ?_
      rintro e w2 ⟨rfl, hb2⟩
      rw [HLR.out]
      have HX2 := Lib.hid (HXr.out.below hb2)
      have HB2 := Lib.hid (HBr.out.trans (hb2.mono HBr.out.size))
      have HK2 := Lib.hid (HKr.out.below hb2)
      have HEL := Lib.hid (show (rowE (endF seed i) 35).length ≤ 4000 by rw [rowE_len (endF_len seed i)]; decide)
      have HLF := Lib.hid (show keyN (rowE (endF seed i) 35) i = leafN seed i from rfl)
      generalize rowE (endF seed i) 35 = E at *
      clear hb2 HXr HBr HKr HC HIL HLL LLT HLR
      go_wp2_with fail
      refine (dev_key E i _ HEL.out HI0.out HI1.out HK2.out).mono ?_
      rintro e w4 ⟨rfl, hb4⟩
      rw [HLF.out]
      have HR4 := Lib.hid (HX2.out.below hb4)
      have HB4 := Lib.hid (HB2.out.trans (hb4.mono HB2.out.size))
      have HNL := Lib.hid (show (leafN seed i).length = 16 from keyN_len _ _)
      clear hb4 HX2 HB2 HK2 HEL HLF
      obtain ⟨N, hN⟩ : ∃ N, leafN seed i = N := ⟨_, rfl⟩
      rw [hN] at HNL ⊢
      have HN := Lib.hid hN
      clear hN
      have HI := Lib.hid (show (Tryd.prog.info? 61).map (·.size) = some N.length by rw [HNL.out]; exact Tryd.infoE)
      have HL2 := Lib.hid (show (List.replicate 16 0).length = N.length by rw [HNL.out]; rfl)
      go_wp2_with (refine wpList_store_nums rfl 61 _ _ rfl rfl w.heap.size .u8 _ N 61 rfl rfl HR4.out HI.out HL2.out ?_)
      intro w7 hc' hb'
      have HC7 := Lib.hid (show Blk w.heap.size 61 .u8 N w7 from hc'.out)
      have HB7 := Lib.hid (show Below w.heap.size w w7 from But.toBelow HB4.out hb'.out (by omega) HB4.out.size)
      clear hc' hb'
      go_wp2_with fail
      exact bodyPost_ret (results_nums rfl _ _ w.heap.size .u8 _ 61 _ rfl HC7.out Tryd.underlying61 rfl HI.out) rfl ⟨by rw [HN.out], HB7.out⟩
end Go.Proofs.YtpfhlhcnmeodbaaDoor
namespace Go.Proofs
open Go.Shelf Go.RowKit
def Tryd.laysM316_ren : Go.Shelf.Ren := ⟨fun | 316 => 87 | n => n, fun | 9 => 9 | 3 => 3 | 4 => 4 | 37 => 73 | 0 => 0 | 127 => 156 | 5 => 5 | n => n, fun | n => n⟩
theorem Tryd.laysM316 : Go.Proofs.LaysM.n316 Tryd.prog Tryd.laysM316_ren := {
  mixed := by kernel_rfl
  f316 := Tryd.func87.trans (congrArg some (by kernel_rfl))
  t0 := Tryd.underlying0
  a0 := Tryd.isAgg0
  z0 := Tryd.sizeOf0
  v0 := Tryd.zeroValue0
  t3 := Tryd.underlying3
  a3 := Tryd.isAgg3
  z3 := Tryd.sizeOf3
  v3 := Tryd.zeroValue3
  t4 := Tryd.underlying4
  a4 := Tryd.isAgg4
  z4 := Tryd.sizeOf4
  v4 := Tryd.zeroValue4
  t9 := Tryd.underlying9
  a9 := Tryd.isAgg9
  z9 := Tryd.sizeOf9
  v9 := Tryd.zeroValue9
  t37 := Tryd.underlying73
  a37 := Tryd.isAgg73
  z37 := Tryd.sizeOf73
  v37 := Tryd.zeroValue73
  t127 := Tryd.underlying156
  a127 := Tryd.isAgg156
  z127 := Tryd.sizeOf156
  v127 := Tryd.zeroValue156
  t5 := Tryd.underlying5
  a5 := Tryd.isAgg5
  z5 := Tryd.sizeOf5
  v5 := Tryd.zeroValue5
  i0 := by kernel_rfl
  i3 := by kernel_rfl
  i4 := by kernel_rfl
  i5 := by kernel_rfl
  i9 := by kernel_rfl
  i37 := by kernel_rfl
  i127 := by kernel_rfl }
theorem Tryd.stringslite_Clone (s : ByteArray) (w : World) (hlim : s.size ≤ 281474976710656) :
    Calls Tryd.prog 87 #[.string s] w fun e w' => e = .returned (.string s) ∧ Below w.heap.size w w' := Any.stringslite_Clone Tryd.laysM316 s w hlim
end Go.Proofs
namespace Go.Proofs.YtpfhlhcnmeodbaaDoor
open Go.RowKit Go.BigFrame
theorem goodN_two {h : Nat} (h8 : h ≤ 8) : goodN (2 ^ h) = true := by
  have key : ∀ n : Fin 9, goodN (2 ^ n.val) = true := by decide
  exact key ⟨h, by omega⟩
theorem shl_two {h : Nat} (h8 : h ≤ 8) : wrap64 ((2 : Int) ^ h) = ((2 ^ h : Nat) : Int) := by
  have key : ∀ n : Fin 9, wrap64 ((2 : Int) ^ n.val) = ((2 ^ n.val : Nat) : Int) := by decide +kernel
  exact key ⟨h, by omega⟩
theorem two_le {h : Nat} (h8 : h ≤ 8) : 2 ^ h ≤ 256 := Nat.le_trans (Nat.pow_le_pow_right (by decide) h8) (by decide)
def partF (seed : List UInt8) (n i : Nat) : List (List Nat) := leavesN seed i ++ List.replicate (n - i) (List.replicate 16 0)
theorem partF_zero (seed : List UInt8) (n : Nat) : partF seed n 0 = List.replicate n (List.replicate 16 0) := by simp [partF, leavesN]
theorem partF_full (seed : List UInt8) (n : Nat) : partF seed n n = leavesN seed n := by simp [partF]
theorem partF_len (seed : List UInt8) {n i : Nat} (h : i ≤ n) : (partF seed n i).length = n := by
  rw [partF, List.length_append, leavesN_len, List.length_replicate]; omega
theorem partF_ok (seed : List UInt8) (n i : Nat) : Elems (partF seed n i) := (leavesN_ok seed i).append (Elems.zeros _)
theorem partF_set (seed : List UInt8) {n i : Nat} (h : i < n) : (partF seed n i).set i (leafN seed (i : Int)) = partF seed n (i + 1) := by
  rw [partF, partF, leavesN_next, List.set_append_right _ _ (by rw [leavesN_len]; exact Nat.le_refl _), leavesN_len, Nat.sub_self, show n - i = (n - (i + 1)) + 1 by omega, List.replicate_succ, List.set_cons_zero, List.append_assoc]
  rfl
def keysV (seed : List UInt8) (ao : Option Addr) (n cap : Nat) (root : List Nat) (h : Int) : Array Value := (Value.string ⟨seed.toArray⟩ :: Value.slice ao n cap :: (nums .u8 root ++ [Value.int .i64 h])).toArray
structure KeysIs (v : Value) (seed : List UInt8) (h : Nat) (w : World) : Prop where
  lie : ∃ g ao cap, v = .pointer (some ⟨g, 0, none⟩) ∧ Cells g 96 (keysV seed ao (2 ^ h) cap (rootK seed h) h) w ∧ EAt ao (leavesN seed (2 ^ h)) w
  low : 1 ≤ h
  high : h ≤ 8
  short : seed.length ≤ 64
theorem KeysIs.ptr {v : Value} {seed : List UInt8} {h : Nat} {w : World} (k : KeysIs v seed h w) : ∃ a, v = .pointer (some a) := by
  obtain ⟨g, _, _, hv, _⟩ := k.lie
  exact ⟨_, hv⟩
theorem KeysIs.below {v : Value} {seed : List UInt8} {h : Nat} {w w' : World} (k : KeysIs v seed h w) (hb : Below w.heap.size w w') : KeysIs v seed h w' := by
  obtain ⟨g, ao, cap, hv, hc, he⟩ := k.lie
  exact ⟨⟨g, ao, cap, hv, hc.below hb, he.below hb⟩, k.low, k.high, k.short⟩
theorem keys_leaves {g : Nat} {t : TypeId} {seed : List UInt8} {ao : Option Addr} {n cap : Nat} {root : List Nat} {h : Int} {w : World} (hc : Cells g t (keysV seed ao n cap root h) w) : w.cell? ⟨g, 1, none⟩ = some (.slice ao n cap) := by
  rw [Lib.cell_of_heap hc]; rfl
theorem clone6 (s : ByteArray) (w : World) (hlim : s.size ≤ 281474976710656) :
    Calls Tryd.prog 52 #[.string s] w fun e w' => e = .returned (.string s) ∧ Below w.heap.size w w' := by
  go_enter Tryd.func52, Tryd.ntmps52
  go_wp2_with fail
  refine (Tryd.stringslite_Clone s _ hlim).mono ?_
  rintro e w1 ⟨rfl, hb⟩
  have HB := Lib.hid hb
  clear hb
  go_wp2_with fail
  go_ret
  exact ⟨rfl, HB.out⟩
set_option maxHeartbeats 1000000 in
theorem dev_valid (h : Int) (w : World) (b : Bool) (hb : decide (1 ≤ h ∧ h ≤ 8) = b) :
    Calls Tryd.prog 49 #[.int .i64 h] w fun e w' => e = .returned (.bool b) ∧ w' = w := by
  have HB := Shut.mk hb
  clear hb
  go_enter Tryd.func49, Tryd.ntmps49
  by_cases h1 : h < 1
  · go_wp2_with fail
    go_ret
    exact ⟨by rw [← HB.out, decide_eq_false (show ¬ (1 ≤ h ∧ h ≤ 8) by omega)]; rfl, rfl⟩
  · by_cases h8 : h ≤ 8
    · go_wp2_with fail
      go_ret
      exact ⟨by rw [← HB.out, decide_eq_true (show 1 ≤ h ∧ h ≤ 8 by omega)]; rfl, rfl⟩
    · go_wp2_with fail
      go_ret
      exact ⟨by rw [← HB.out, decide_eq_false (show ¬ (1 ≤ h ∧ h ≤ 8) by omega)]; rfl, rfl⟩
end Go.Proofs.YtpfhlhcnmeodbaaDoor
namespace Go.Proofs.YtpfhlhcnmeodbaaDoor
open Go.RowKit Go.BigFrame
def allH (L : List EntN) : List (List Nat) := zeroI :: leadN zeroI 1 L
theorem allH_len (L : List EntN) : (allH L).length = L.length + 1 := by rw [allH, List.length_cons, leadN_len]
theorem allH_ok (L : List EntN) : Ids (allH L) := fun x hx => by
  rcases List.mem_cons.1 hx with rfl | hx
  · exact zeroI_ok
  · exact leadN_ok L _ _ x hx
theorem allH_get (L : List EntN) {k : Nat} (hk : k ≤ L.length) : (allH L)[k]? = some (hashL L k) := by
  cases k with
  | zero => rfl
  | succ k => rw [allH, List.getElem?_cons_succ, leadN_get _ _ (by omega), hashL]
theorem allH_getD (L : List EntN) {k : Nat} (hk : k ≤ L.length) : (allH L).getD k [] = hashL L k := by rw [List.getD_eq_getElem?_getD, allH_get L hk]; rfl
theorem allH_app (L M : List EntN) : allH (L ++ M) = allH L ++ leadN (hashL L L.length) (1 + L.length) M := by
  rw [allH, leadN_app, allH, hashL, List.take_length]
  rfl
def logO (b : Nat) (vL vH : Value) : Nat → Prop := fun x => x = b ∨ vL.ownBlock = some x ∨ vH.ownBlock = some x
structure LogAt (N b : Nat) (kv vL vH : Value) (nd : Int) (seed : List UInt8) (h : Nat) (L : List EntN) (w : World) : Prop where
  cells : Cells b 102 #[.int .i64 nd, kv, vL, vH] w
  ents : OwnE15 0 vL L w
  ids : OwnI 0 24 vH (allH L) w
  keys : ∃ w0 : World, w0.heap.size ≤ N ∧ KeysIs kv seed h w0 ∧ Below w0.heap.size w0 w
  late : ∀ x, logO b vL vH x → N ≤ x
  few : L.length ≤ 2 ^ h
  node : 0 ≤ nd ∧ nd ≤ 4
def LogIs (N : Nat) (O : Nat → Prop) (v : Value) (nd : Int) (seed : List UInt8) (h : Nat) (L : List EntN) (w : World) : Prop :=
  ∃ b kv vL vH, v = .pointer (some ⟨b, 0, none⟩) ∧ O = logO b vL vH ∧ LogAt N b kv vL vH nd seed h L w
theorem OwnE15.only {B : Nat} {P : Nat → Prop} {v : Value} {L : List EntN} {w w' : World} (h : OwnE15 B v L w) (k : Only P w w') (hP : ∀ b, v.ownBlock = some b → ¬ P b) : OwnE15 B v L w' := by
  refine ⟨⟨h.1.1, ?_⟩, h.2⟩
  rcases h.1.2 with h2 | ⟨g, cap, cur, h1, h2, h3, h4, h5⟩
  · exact .inl h2
  · exact .inr ⟨g, cap, cur, h1, h2, (k.block g (lt_of_block h3) (hP g (by rw [h1]; rfl))).trans h3, h4, h5⟩
theorem OwnI.only16 {B : Nat} {P : Nat → Prop} {e : TypeId} {v : Value} {L : List (List Nat)} {w w' : World} (h : OwnI B e v L w) (k : Only P w w') (hP : ∀ b, v.ownBlock = some b → ¬ P b) : OwnI B e v L w' := by
  refine ⟨h.1, ?_⟩
  rcases h.2 with h2 | ⟨g, cap, cur, h1, h2, h3, h4, h5⟩
  · exact .inl h2
  · exact .inr ⟨g, cap, cur, h1, h2, (k.block g (lt_of_block h3) (hP g (by rw [h1]; rfl))).trans h3, h4, h5⟩
theorem LogAt.only {N b : Nat} {P : Nat → Prop} {kv vL vH : Value} {nd : Int} {seed : List UInt8} {h : Nat} {L : List EntN} {w w' : World} (l : LogAt N b kv vL vH nd seed h L w) (k : Only P w w') (hP : ∀ x, logO b vL vH x → ¬ P x) (hN : ∀ x, P x → N ≤ x) : LogAt N b kv vL vH nd seed h L w' := by
  obtain ⟨w0, h0, hk, hb⟩ := l.keys
  exact ⟨l.cells.only k (hP b (.inl rfl)), l.ents.only k (fun x hx => hP x (.inr (.inl hx))), l.ids.only16 k (fun x hx => hP x (.inr (.inr hx))), ⟨w0, h0, hk, Only.toBelow hb k (fun x hx => Nat.le_trans h0 (hN x hx)) hb.size⟩, l.late, l.few, l.node⟩
theorem LogIs.only {N : Nat} {O P : Nat → Prop} {v : Value} {nd : Int} {seed : List UInt8} {h : Nat} {L : List EntN} {w w' : World} (l : LogIs N O v nd seed h L w) (k : Only P w w') (hP : ∀ x, O x → ¬ P x) (hN : ∀ x, P x → N ≤ x) : LogIs N O v nd seed h L w' := by
  obtain ⟨b, kv, vL, vH, rfl, rfl, l⟩ := l
  exact ⟨b, kv, vL, vH, rfl, rfl, l.only k hP hN⟩
theorem LogIs.below {N : Nat} {O : Nat → Prop} {v : Value} {nd : Int} {seed : List UInt8} {h : Nat} {L : List EntN} {w w' : World} (l : LogIs N O v nd seed h L w) (k : Below w.heap.size w w') : LogIs N O v nd seed h L w' := l.only (Only.of (O := fun _ => False) k) (fun _ _ => id) (fun _ h => h.elim)
theorem LogIs.ptr {N : Nat} {O : Nat → Prop} {v : Value} {nd : Int} {seed : List UInt8} {h : Nat} {L : List EntN} {w : World} (l : LogIs N O v nd seed h L w) : ∃ a, v = .pointer (some a) := by
  obtain ⟨b, kv, vL, vH, rfl, _⟩ := l
  exact ⟨_, rfl⟩
theorem LogIs.late {N : Nat} {O : Nat → Prop} {v : Value} {nd : Int} {seed : List UInt8} {h : Nat} {L : List EntN} {w : World} (l : LogIs N O v nd seed h L w) (x : Nat) (hx : O x) : N ≤ x := by
  obtain ⟨b, kv, vL, vH, rfl, rfl, l⟩ := l
  exact l.late x hx
theorem LogIs.lt {N : Nat} {O : Nat → Prop} {v : Value} {nd : Int} {seed : List UInt8} {h : Nat} {L : List EntN} {w : World} (l : LogIs N O v nd seed h L w) (x : Nat) (hx : O x) : x < w.heap.size := by
  obtain ⟨b, kv, vL, vH, rfl, rfl, l⟩ := l
  rcases hx with rfl | hx | hx
  · exact l.cells.lt
  · exact (World.ownsRow.lt l.ents.1 x hx).2
  · exact (World.ownsRow.lt l.ids x hx).2
end Go.Proofs.YtpfhlhcnmeodbaaDoor
namespace Go.Proofs.YtpfhlhcnmeodbaaDoor
open Go.RowKit Go.BigFrame
theorem fold_layK (off : Nat) : ∀ (vs : List Value) (cs : Array Value) (k : Nat), List.foldl (fun (cs : Array Value) (x : Value × Nat) => cs.setIfInBounds (off + x.2) x.1) cs (vs.zipIdx k) = (layL cs.toList (off + k) vs).toArray
  | [], cs, k => by simp [layL]
  | v :: r, cs, k => by rw [List.zipIdx_cons, List.foldl_cons, fold_layK off r, layL]; simp [Nat.add_assoc]
theorem layL_next (a : Value) : ∀ (vs xs : List Value) (o : Nat), layL (a :: xs) (o + 1) vs = a :: layL xs o vs
  | [], _, _ => rfl
  | v :: r, xs, o => by rw [layL, layL, List.set_cons_succ, layL_next a r]
theorem keys_fill (parts : List (Nat × Value)) : Tryd.prog.built 96 parts = Instr.fill (fun i => (#[(0, 1), (1, 1), (2, 17)] : Array (Nat × Nat))[i]?) (keysV [] none 0 0 (List.replicate 16 0) 0) parts := by kernel_rfl
theorem built_keys (s : List UInt8) (ao : Option Addr) (n cap : Nat) (r : List Nat) (h : Int) (hr : r.length = 16) :
    Tryd.prog.built 96 [(0, .string ⟨s.toArray⟩), (1, .slice ao n cap), (2, .agg (nodeV r h))] = some (keysV s ao n cap r h) := by
  have hN : (nodeV r h).size = 17 := by rw [nodeV, List.size_toArray, List.length_append, nums_len, hr]; rfl
  have hs0 : (keysV [] none 0 0 (List.replicate 16 0) 0).size = 19 := by rfl
  have hs1 : (keysV s none 0 0 (List.replicate 16 0) 0).size = 19 := by rfl
  have hs2 : (keysV s ao n cap (List.replicate 16 0) 0).size = 19 := by rfl
  rw [keys_fill, fill_next _ _ 0 _ _ 0 1 rfl rfl (by rw [hs0]; decide)]
  rw [show List.foldl (fun (cs : Array Value) (x : Value × Nat) => cs.setIfInBounds (0 + x.2) x.1) (keysV [] none 0 0 (List.replicate 16 0) 0) (Value.string ⟨s.toArray⟩).cells.toList.zipIdx = keysV s none 0 0 (List.replicate 16 0) 0 from rfl]
  rw [fill_next _ _ 1 _ _ 1 1 rfl rfl (by rw [hs1]; decide)]
  rw [show List.foldl (fun (cs : Array Value) (x : Value × Nat) => cs.setIfInBounds (1 + x.2) x.1) (keysV s none 0 0 (List.replicate 16 0) 0) (Value.slice ao n cap).cells.toList.zipIdx = keysV s ao n cap (List.replicate 16 0) 0 from rfl]
  rw [fill_next _ _ 2 _ _ 2 17 rfl (by show (nodeV r h).size = 17; exact hN) (by rw [hs2]; decide)]
  rw [show (Value.agg (nodeV r h)).cells.toList = nums .u8 r ++ [Value.int .i64 h] from rfl, fold_layK 2, show (keysV s ao n cap (List.replicate 16 0) 0).toList = Value.string ⟨s.toArray⟩ :: Value.slice ao n cap :: (nums .u8 (List.replicate 16 0) ++ [Value.int .i64 0]) from rfl, layL_next, layL_next]
  have e := lay_head (vs := nums .u8 r ++ [Value.int .i64 h]) (xs := nums .u8 (List.replicate 16 0) ++ [Value.int .i64 0]) (ys := []) (by simp [nums_len, hr])
  rw [List.append_nil, List.append_nil] at e
  rw [e]
  rfl
theorem quiet_build_keys {o : Oper} {a : Act} {C : World → Prop} {K : Act → Prop} (x y z : Operand) (ho : o.op = .build 96 #[(0, x), (1, y), (2, z)]) (s : List UInt8) (ao : Option Addr) (n cap : Nat) (r : List Nat) (h : Int)
    (hx : a.eval x = .string ⟨s.toArray⟩) (hy : a.eval y = .slice ao n cap) (hz : a.eval z = .agg (nodeV r h)) (hr : r.length = 16) (hk : K (a.put o.dst (.agg (keysV s ao n cap r h)))) : o.quiet Tryd.prog a C K := by
  refine ⟨_, fun w hw => ?_, hk⟩
  have e : ((#[(0, x), (1, y), (2, z)] : Array (Nat × Operand)).map fun (i, x) => (i, a.eval x)) = #[(0, .string ⟨s.toArray⟩), (1, .slice ao n cap), (2, .agg (nodeV r h))] := by simp [hx, hy, hz]
  have hb := run_build (P := Tryd.prog) w 96 #[(0, .string ⟨s.toArray⟩), (1, .slice ao n cap), (2, .agg (nodeV r h))] _ (built_keys s ao n cap r h hr)
  unfold Oper.quietAt execOp
  simp only [ho, e, Sem.run_bind, hb, Result.andThen_ok]
  exact ⟨rfl, rfl⟩
set_option maxHeartbeats 1000000 in
set_option maxRecDepth 100000 in
theorem dev_new_not (seed : List UInt8) (h : Int) (w : World) (_hs : seed.length ≤ 4000) (hb : 64 < seed.length ∨ h < 1 ∨ 8 < h) :
    Calls Tryd.prog 25 #[.string ⟨seed.toArray⟩, .int .i64 h] w fun e w' => e = .returned (.tuple #[.pointer none, .int .i64 1]) ∧ Below w.heap.size w w' := by
  by_cases hl : 64 < seed.length
  · have hl2 : (64 : Int) < (seed.length : Int) := by omega
    clear hb
    go_enter Tryd.func25, Tryd.ntmps25
    go_wp2_with fail
    go_ret2
    exact ⟨rfl, Below.refl _ _⟩
  · have hl2 : ¬ (64 : Int) < (seed.length : Int) := by omega
    have hd : decide (1 ≤ h ∧ h ≤ 8) = false := decide_eq_false (by omega)
    have HD := Shut.mk hd
    clear hb hd
    go_enter Tryd.func25, Tryd.ntmps25
    go_wp2_with fail
    refine (dev_valid h w false HD.out).mono ?_
    rintro e w1 ⟨rfl, rfl⟩
    go_wp2_with fail
    go_ret2
    exact ⟨rfl, Below.refl _ _⟩
set_option maxHeartbeats 4000000 in
set_option maxRecDepth 100000 in
theorem dev_new (seed : List UInt8) (h : Nat) (w : World) (hs : seed.length ≤ 64) (h1 : 1 ≤ h) (h8 : h ≤ 8) (hk : KAt w) :
    Calls Tryd.prog 25 #[.string ⟨seed.toArray⟩, .int .i64 h] w fun e w' => (∃ v, e = .returned (.tuple #[v, .int .i64 0]) ∧ KeysIs v seed h w') ∧ Below w.heap.size w w' := by
  obtain ⟨i0, hi, hz0, hz1, hz2⟩ := info_parts Tryd.infoE16
  have HIF := Lib.hid hi
  have HZ0 := Lib.hid hz0
  have HZ1 := Lib.hid hz1
  have HZ2 := Lib.hid hz2
  have HK := Lib.hid hk
  have hsh := shl_two h8
  have HG := Shut.mk (goodN_two h8)
  have hN8 := two_le h8
  have HLL := Shut.mk (leavesN_len seed (2 ^ h))
  have HLO := Lib.hid (leavesN_ok seed (2 ^ h))
  have HRK := Shut.mk (show atN (leavesN seed (2 ^ h)) h 0 = rootK seed h from rfl)
  have HRO := Lib.hid (rootK_ok seed h)
  have HD := Shut.mk (show decide (1 ≤ (h : Int) ∧ (h : Int) ≤ 8) = true from decide_eq_true ⟨by omega, by omega⟩)
  have HIS := Lib.hid (fun (g : Nat) (ao : Option Addr) (cap : Nat) (w' : World) (hc : Cells g 96 (keysV seed ao (2 ^ h) cap (rootK seed h) h) w') (he : EAt ao (leavesN seed (2 ^ h)) w') => show KeysIs (.pointer (some ⟨g, 0, none⟩)) seed h w' from ⟨⟨g, ao, cap, rfl, hc, he⟩, h1, h8, hs⟩)
  obtain ⟨R, hR⟩ : ∃ R, rootK seed h = R := ⟨_, rfl⟩
  rw [hR] at HRK HRO HIS
  obtain ⟨N, hN⟩ : ∃ N, 2 ^ h = N := ⟨_, rfl⟩
  rw [hN] at hsh HG hN8 HLL HLO HRK HIS
  have HNE := Shut.mk hN
  have hsl : ¬ (64 : Int) < (seed.length : Int) := by omega
  have HS := Lib.hid hs
  have H8 := Lib.hid h8
  clear hi hz0 hz1 hz2 hk hR hN hs
  go_enter Tryd.func25, Tryd.ntmps25
  go_wp2_with fail
  refine (dev_valid h w true HD.out).mono ?_
  rintro e w1 ⟨rfl, rfl⟩
  go_wp2_with (at_make; refine wpList_make_full _ rfl _ _ 90 rfl w1.heap.size 61 i0 _ 16 Tryd.underlying90 HIF.out HZ0.out HZ1.out .i64 .i64 _ _ N rfl rfl hsh hsh (by rw [HZ2.out]; omega) (by unfold maxLen; omega) (Nat.le_refl _) ?_)
  intro w2 ho2 hg2
  have hb2 : Below w1.heap.size w1 w2 := (Below.refl w1.heap.size w1).grown hg2 (Nat.le_refl _) (by intro g hg; cases hg)
  have HO2 := Lib.hid (show OwnE w1.heap.size 61 (.slice (some ⟨w1.heap.size, 0, none⟩) N N) (partF seed N 0) w2 by rw [partF_zero]; exact OwnE.made ho2)
  have HB2 := Lib.hid hb2
  obtain ⟨g, hg⟩ : ∃ g, g = w1.heap.size := ⟨_, rfl⟩
  rw [← hg] at HO2 ⊢
  have HGW := Lib.hid (show w1.heap.size ≤ g by omega)
  clear ho2 hg2 hb2 hg hsh
  go_wp2_with fail
  go_loopw [24] (fun n wq => ∃ i : Nat, i ≤ N ∧ n = .int .i64 i ∧ OwnE g 61 (.slice (some ⟨g, 0, none⟩) N N) (partF seed N i) wq ∧ Below w1.heap.size w1 wq) (fun n _ => N - (intOf n).toNat)
  case atStart => exact ⟨0, by omega, rfl, HO2.out, HB2.out⟩
  case round =>
    clear HO2 HB2
    obtain ⟨i, hiN, rfl, ho, hb⟩ := hrel
    have HO := Lib.hid ho
    have HB := Lib.hid hb
    have HKr := Lib.hid (HK.out.below hb)
    clear ho hb
    by_cases hli : i < N
    · have hli2 : (i : Int) < (N : Int) := by omega
      have HPS := Shut.mk (partF_set seed hli)
      have HPE := Lib.hid (partF_ok seed N i)
      have HPL := Shut.mk (partF_len seed (Nat.le_of_lt hli))
      have HX1 := Lib.hid (leafN_len seed (i : Int))
      have HX2 := Lib.hid (leafN_lt seed (i : Int))
      have HLF := Lib.hid (fun w hk => dev_leaf seed (i : Int) w (Nat.le_trans HS.out (by decide)) (by omega) (by omega) hk)
      obtain ⟨x, hx⟩ : ∃ x, leafN seed (i : Int) = x := ⟨_, rfl⟩
      obtain ⟨P0, hP0⟩ : ∃ P0, partF seed N i = P0 := ⟨_, rfl⟩
      obtain ⟨P1, hP1⟩ : ∃ P1, partF seed N (i + 1) = P1 := ⟨_, rfl⟩
      have HP1 := Shut.mk hP1
      rw [hx] at HPS HX1 HX2 HLF
      rw [hP0] at HPS HPE HPL HO
      rw [hP1] at HPS
      clear hx hP0 hP1
      go_wp2_with fail
      refine (HLF.out wr HKr.out).mono ?_
      rintro e w3 ⟨rfl, hb3⟩
      have HO3 := Lib.hid (HO.out.below hb3)
      have HB3 := Lib.hid (HB.out.trans (hb3.mono HB.out.size))
      clear hb3 HO HB HKr HLF
      go_wp2_with (refine wpList_store_elem rfl 61 _ _ rfl rfl g g N N i (i * 16) 61 P0 x HPL.out.symm (Nat.mul_comm _ _) rfl rfl HO3.out HPE.out hli HX1.out HX2.out Tryd.infoE ?_)
      intro w4 ho4 hb4
      have HO4 := Lib.hid (show OwnE g 61 (.slice (some ⟨g, 0, none⟩) N N) P1 w4 by rw [← HPS.out]; exact ho4.out)
      have HB4 := Lib.hid (show Below w1.heap.size w1 w4 from But.toBelow HB3.out hb4.out HGW.out HB3.out.size)
      clear ho4 hb4 HO3 HB3 HPS HPE HPL
      go_wp2_with fail
      exact ⟨⟨i + 1, by omega, by go_num, by rw [HP1.out]; exact HO4.out, HB4.out⟩, by simp [intOf]; omega⟩
    · obtain rfl : i = N := by omega
      have hnw : ¬ (i : Int) < (i : Int) := by omega
      rw [partF_full] at HO
      have HEA := Lib.hid (HO.out.at HLO.out)
      have HRT := Lib.hid (fun w hE hk => dev_root (leavesN seed i) h (some ⟨g, 0, none⟩) i w HLO.out hE (by rw [HLL.out]; exact HG.out) (by rw [HLL.out, HNE.out]) H8.out hk)
      rw [HLL.out, HRK.out] at HRT
      have hRE := HRO.out
      have HIR := Lib.hid (show (Tryd.prog.info? 61).map (·.size) = some R.length by rw [hRE.1]; exact Tryd.infoE)
      have HLR := Lib.hid (show (List.replicate 16 0).length = R.length by rw [hRE.1]; rfl)
      clear hRE HO
      go_wp2_with fail
      refine (HRT.out wr HEA.out HKr.out).mono ?_
      rintro e w3 ⟨rfl, hb3⟩
      have HE3 := Lib.hid (HEA.out.below hb3)
      have HB3 := Lib.hid (HB.out.trans (hb3.mono HB.out.size))
      clear hb3 HEA HB HKr HRT
      go_wp2_with (refine wpList_store_nums rfl 61 _ _ rfl rfl w3.heap.size .u8 (List.replicate 16 0) R 61 rfl rfl (heap_alloc_new w3 _) HIR.out HLR.out ?_)
      intro w4 hc4 hb4
      have ha3 : Below w3.heap.size w3 (w3.alloc (.cells (nums .u8 (List.replicate 16 0)).toArray 61)) := (Below.refl _ _).alloc (Nat.le_refl _) _
      have hb43 : Below w3.heap.size w3 w4 := But.toBelow ha3 hb4.out (Nat.le_refl _) ha3.size
      have HR4 := Lib.hid (show Blk w3.heap.size 61 .u8 R w4 from hc4.out)
      have HE4 := Lib.hid (HE3.out.below hb43)
      have HB4 := Lib.hid (HB3.out.trans (hb43.mono HB3.out.size))
      clear hc4 hb4 ha3 hb43 HE3 HB3 HLR
      obtain ⟨gr, hgr⟩ : ∃ g, g = w3.heap.size := ⟨_, rfl⟩
      rw [← hgr] at HR4 ⊢
      clear hgr
      go_upto_region 12 with (fail)
      refine wp_region_class_tail (fun w' => Below w4.heap.size w4 w') 7 (by kernel_rfl) (by kernel_rfl) (Below.refl _ _).drew ?_
      simp only [List.take_succ_cons, List.take_zero, List.drop_succ_cons, List.drop_zero]
      repeat (first
        | (go_big_quiet_want; refine quiet_load_nums 61 _ rfl gr .u8 R 61 _ rfl (fun w' h => HR4.out.below h) Tryd.underlying61 rfl HIR.out ?_; go_big_quiet_on; simp only [Act.put, List.setIfInBounds_toArray, List.set_cons_zero, List.set_cons_succ])
        | (go_big_quiet_want; refine quiet_build_node (.tmp 45) (.tmp 46) rfl R h rfl rfl HRO.out.1 ?_; go_big_quiet_on; simp only [Act.put, List.setIfInBounds_toArray, List.set_cons_zero, List.set_cons_succ])
        | (go_big_quiet_want; refine quiet_build_keys (.tmp 43) (.tmp 44) (.tmp 47) rfl seed (some ⟨g, 0, none⟩) i i R h rfl rfl rfl HRO.out.1 ?_; go_big_quiet_on; simp only [Act.put, List.setIfInBounds_toArray, List.set_cons_zero, List.set_cons_succ])
        | go_big_quiet_step ((intro hs'; first
            | rfl
            | (go_at_call 52; exact (clone6 _ _ (by have := HS.out; simp only [ByteArray.size, List.size_toArray]; omega)).mono fun e w' h => ⟨h.1, hs'.trans (h.2.mono hs'.size)⟩))))
      refine wpQuiet_nil ?_
      intro w5 hs5
      have HE5 := Lib.hid (HE4.out.below hs5)
      have HB5 := Lib.hid (HB4.out.trans (hs5.mono HB4.out.size))
      clear hs5 HE4 HB4 HR4
      go_wp2_with fail
      go_ret2
      have hba : Below w5.heap.size w5 (w5.alloc (.cells (keysV seed (some ⟨g, 0, none⟩) i i R h) 96)) := (Below.refl _ _).alloc (Nat.le_refl _) _
      exact ⟨⟨_, rfl, HIS.out w5.heap.size (some ⟨g, 0, none⟩) i _ (heap_alloc_new w5 _) (HE5.out.below hba)⟩, HB5.out.trans (hba.mono HB5.out.size)⟩
end Go.Proofs.YtpfhlhcnmeodbaaDoor
namespace Go.Proofs.YtpfhlhcnmeodbaaDoor
open Go.RowKit Go.BigFrame
theorem dev_count (v : Value) (seed : List UInt8) (h : Nat) (w : World) (k : KeysIs v seed h w) :
    Calls Tryd.prog 57 #[v] w fun e w' => e = .returned (.int .i64 ((2 ^ h : Nat) : Int)) ∧ Below w.heap.size w w' := by
  obtain ⟨g, ao, cap, rfl, hc, he⟩ := k.lie
  have c1 := keys_leaves hc
  clear he hc k
  generalize 2 ^ h = N at *
  go_enter Tryd.func57, Tryd.ntmps57
  go_wp2_with fail
  go_ret
  exact ⟨rfl, Below.refl _ _⟩
end Go.Proofs.YtpfhlhcnmeodbaaDoor
namespace Go.Proofs.YtpfhlhcnmeodbaaDoor
open Go.ChangeShapes Go.WideShapes Go.ChangeAt Go.RowKit
theorem gK : Tryd.prog.globalNamed "tribunal/sha.roundConstants" = some 0 := by kernel_rfl
theorem gKType : (Tryd.prog.globals[0]?).map (·.type) = some 167 := by kernel_rfl
theorem cellsK : Tryd.prog.cellsOf 167 = 64 := by kernel_rfl
theorem cellsU32 : Tryd.prog.cellsOf 110 = 1 := by kernel_rfl
def kInts : List Int := shaK.map fun (n : Nat) => (n : Int)
theorem k_laid {W : World} (h : laidMetH Tryd.prog [("tribunal/sha.roundConstants", Rows.laid_tribunal_sha_roundConstants)] W) : KAt W := by
  have ht : Lib.TabIs Tryd.prog W "tribunal/sha.roundConstants" .u32 kInts := Lib.tabIs_of_head (rest := []) gK gKType Tryd.underlying167 Tryd.underlying110 cellsU32 cellsK h
  intro j hj
  have hc := ht.cell gK j (by unfold kInts; rw [List.length_map, shaK_len]; exact hj)
  rw [hc]
  have e : kInts.getD j 0 = ((shaK.getD j 0 : Nat) : Int) := by
    unfold kInts
    rw [List.getD_eq_getElem?_getD, List.getElem?_map, List.getD_eq_getElem?_getD, List.getElem?_eq_getElem (by rw [shaK_len]; exact hj)]
    rfl
  rw [e]
noncomputable def laidWorld (os : Os) : World :=
  { World.holding Tryd.prog os ⟨#[], #[], []⟩ with heap := (World.holding Tryd.prog os ⟨#[], #[], []⟩).heap.modify 0 fun
      | .cells _ t frozen => .cells (nums .u32 shaK).toArray t frozen
      | o => o }
end Go.Proofs.YtpfhlhcnmeodbaaDoor
namespace Go.Proofs.YtpfhlhcnmeodbaaDoor
open Go.RowKit Go.BigFrame
theorem LogAt.key {N b : Nat} {kv vL vH : Value} {nd : Int} {seed : List UInt8} {h : Nat} {L : List EntN} {w : World} (l : LogAt N b kv vL vH nd seed h L w) : KeysIs kv seed h w := by
  obtain ⟨w0, _, hk, hb⟩ := l.keys
  exact hk.below hb
theorem LogAt.fields {N b : Nat} {kv vL vH : Value} {nd : Int} {seed : List UInt8} {h : Nat} {L : List EntN} {w : World} (l : LogAt N b kv vL vH nd seed h L w) :
    w.cell? ⟨b, 0, none⟩ = some (.int .i64 nd) ∧ w.cell? ⟨b, 1, none⟩ = some kv ∧ w.cell? ⟨b, 2, none⟩ = some vL ∧ w.cell? ⟨b, 3, none⟩ = some vH := ⟨l.cells.at 0, l.cells.at 1, l.cells.at 2, l.cells.at 3⟩
theorem built_logD (nd : Int) (ka a : Addr) (n c : Nat) : Tryd.prog.built 102 [(0, .int .i64 nd), (1, .pointer (some ka)), (3, .slice (some a) n c)] = some #[.int .i64 nd, .pointer (some ka), .slice none 0 0, .slice (some a) n c] := by kernel_rfl
def appE (h : Nat) (L M : List EntN) : Nat := if ∀ x ∈ M, GoodE x then (if L.length + M.length ≤ 2 ^ h then 0 else 8) else 1
def appL (h : Nat) (L M : List EntN) : List EntN := if appE h L M = 0 then L ++ M else L
def NewLog (B : Nat) (nd : Int) (seed : List UInt8) (h : Nat) (e : Ending) (w' : World) : Prop := ∃ v O, e = .returned (.tuple #[v, .int .i64 0]) ∧ LogIs B O v nd seed h [] w' ∧ ∀ b, O b → B ≤ b
set_option maxHeartbeats 4000000 in
set_option maxRecDepth 100000 in
theorem dev_newLog (nd : Int) (kv : Value) (seed : List UInt8) (h : Nat) (w : World) (k : KeysIs kv seed h w) (h0 : 0 ≤ nd) (h4 : nd ≤ 4) :
    Calls Tryd.prog 28 #[.int .i64 nd, kv] w fun e w' => NewLog w.heap.size nd seed h e w' ∧ Below w.heap.size w w' := by
  obtain ⟨ka, rfl⟩ := k.ptr
  have HK := Lib.hid k
  obtain ⟨i0, hi0, hz0, hz1, hz2⟩ := info_parts Tryd.infoI32
  have HIF := Lib.hid hi0
  have HZ0 := Lib.hid hz0
  have HZ1 := Lib.hid hz1
  have HZ2 := Lib.hid hz2
  clear k hi0 hz0 hz1 hz2
  go_enter Tryd.func28, Tryd.ntmps28
  have g1 : decide (nd < 0) = false := decide_eq_false (by omega)
  have g2 : decide (5 ≤ nd) = false := decide_eq_false (by omega)
  go_wp2_with (at_make; refine wpList_make_full _ rfl _ _ 29 rfl w.heap.size 24 i0 _ 32 Tryd.underlying29 HIF.out HZ0.out HZ1.out .i64 .i64 _ _ 1 rfl rfl rfl rfl (by rw [HZ2.out]; decide) (by unfold maxLen; omega) (Nat.le_refl _) ?_)
  intro w2 ho2 hg2
  have hb2 := (Below.refl w.heap.size w).grown hg2 (Nat.le_refl _) (fun k hk => by cases hk)
  have HO2 := Lib.hid (show OwnI w.heap.size 24 (.slice (some ⟨w.heap.size, 0, none⟩) 1 1) (allH []) w2 from OwnI.made ho2)
  have HB2 := Lib.hid hb2
  have HBL := Lib.hid (built_logD nd ka ⟨w.heap.size, 0, none⟩ 1 1)
  clear ho2 hg2 hb2
  go_wp2_with (refine wpList_build_val rfl 102 _ rfl [(0, .int .i64 nd), (1, .pointer (some ka)), (3, .slice (some ⟨w.heap.size, 0, none⟩) 1 1)] _ (by rw [List.map_toArray]; rfl) HBL.out ?_)
  have hc3 : Cells w2.heap.size 102 #[.int .i64 nd, .pointer (some ka), .slice none 0 0, .slice (some ⟨w.heap.size, 0, none⟩) 1 1] (w2.alloc (.cells #[.int .i64 nd, .pointer (some ka), .slice none 0 0, .slice (some ⟨w.heap.size, 0, none⟩) 1 1] 102)) := heap_alloc_new w2 _
  have hb3 : Below w2.heap.size w2 (w2.alloc (.cells #[.int .i64 nd, .pointer (some ka), .slice none 0 0, .slice (some ⟨w.heap.size, 0, none⟩) 1 1] 102)) := (Below.refl _ _).alloc (Nat.le_refl _) _
  have hlt := (HO2.out.formB (by rw [allH_len]; exact Nat.succ_pos _))
  have HBW := HB2.out.trans (hb3.mono HB2.out.size)
  go_ret2
  refine ⟨⟨_, _, rfl, ⟨w2.heap.size, _, .slice none 0 0, .slice (some ⟨w.heap.size, 0, none⟩) 1 1, rfl, rfl, hc3, OwnE15.nil _ _, (HO2.out.below hb3).mono (Nat.zero_le _), ⟨w, Nat.le_refl _, HK.out, HBW⟩, ?_, Nat.zero_le _, h0, h4⟩, ?_⟩, HBW⟩
  all_goals
    rintro x (rfl | hx | hx)
    · exact HB2.out.size
    · cases hx
    · simp only [Value.ownBlock, Option.some.injEq] at hx
      omega
theorem dev_len {N : Nat} {O : Nat → Prop} {v : Value} {nd : Int} {seed : List UInt8} {h : Nat} {L : List EntN} (w : World) (l : LogIs N O v nd seed h L w) :
    Calls Tryd.prog 32 #[v] w fun e w' => e = .returned (.int .i64 (L.length : Int)) ∧ Below w.heap.size w w' := by
  obtain ⟨b, kv, vL, vH, rfl, rfl, l⟩ := l
  obtain ⟨ao, cap, rfl⟩ := l.ents.form
  obtain ⟨-, -, c2, -⟩ := l.fields
  clear l
  generalize L.length = n at *
  go_enter Tryd.func32, Tryd.ntmps32
  go_wp2_with fail
  go_ret
  exact ⟨rfl, Below.refl _ _⟩
theorem dev_left {N : Nat} {O : Nat → Prop} {v : Value} {nd : Int} {seed : List UInt8} {h : Nat} {L : List EntN} (w : World) (l : LogIs N O v nd seed h L w) (hl : L.length ≤ 2 ^ h) :
    Calls Tryd.prog 30 #[v] w fun e w' => e = .returned (.int .i64 (((2 ^ h - L.length : Nat)) : Int)) ∧ Below w.heap.size w w' := by
  obtain ⟨b, kv, vL, vH, rfl, rfl, l⟩ := l
  obtain ⟨ao, cap, rfl⟩ := l.ents.form
  obtain ⟨-, c1, c2, -⟩ := l.fields
  have hk := l.key
  obtain ⟨ka, hka⟩ := hk.ptr
  have h8 := two_le hk.high
  have HCN := Lib.hid (fun w' (q : Below w.heap.size w w') => dev_count kv seed h w' (hk.below q))
  have HB := Lib.hid l.cells.lt
  subst hka
  clear l hk
  generalize L.length = n at *
  generalize 2 ^ h = m at *
  have HC1 := Lib.hid (fun (w' : World) (q : Below w.heap.size w w') => (q.cell (p := ⟨b, 1, none⟩) HB.out).trans c1)
  have HC2 := Lib.hid (fun (w' : World) (q : Below w.heap.size w w') => (q.cell (p := ⟨b, 2, none⟩) HB.out).trans c2)
  clear c1 c2
  go_enter Tryd.func30, Tryd.ntmps30
  go_upto_region 3 with (fail)
  refine wp_region_class (fun w' => Below w.heap.size w w') (by kernel_rfl) (by kernel_rfl) (Below.refl _ _).drew ?_
  repeat (first
    | (go_big_quiet_want; refine quiet_load_cell 55 _ rfl ⟨b, 1, none⟩ _ rfl HC1.out Tryd.isAgg55 ?_; go_big_quiet_on; simp only [Act.put, List.setIfInBounds_toArray, List.set_cons_zero, List.set_cons_succ])
    | (go_big_quiet_want; refine quiet_load_cell 23 _ rfl ⟨b, 2, none⟩ _ rfl HC2.out Tryd.isAgg23 ?_; go_big_quiet_on; simp only [Act.put, List.setIfInBounds_toArray, List.set_cons_zero, List.set_cons_succ])
    | go_big_quiet_step ((intro hs'; first
        | (go_at_call 57; exact (HCN.out _ hs').mono fun e w' h => ⟨h.1, hs'.trans (h.2.mono hs'.size)⟩)
        | rfl)))
  refine wpQuiet_nil ?_
  intro w2 hs2
  have HB2 := Lib.hid hs2
  clear hs2
  go_wp2_with fail
  go_ret
  exact ⟨by go_num, HB2.out⟩
theorem dev_has {N : Nat} {O : Nat → Prop} {v : Value} {nd : Int} {seed : List UInt8} {h : Nat} {L : List EntN} (q : Int) (w : World) (l : LogIs N O v nd seed h L w) :
    Calls Tryd.prog 56 #[v, .int .i64 q] w fun e w' => e = .returned (.bool (decide (1 ≤ q ∧ q ≤ L.length))) ∧ Below w.heap.size w w' := by
  have HL := Lib.hid (dev_len w l)
  clear l
  generalize L.length = n at *
  go_enter Tryd.func56, Tryd.ntmps56
  by_cases h1 : 1 ≤ q
  · have g1 : decide (1 ≤ q) = true := decide_eq_true h1
    go_wp2_with fail
    refine HL.out.mono ?_
    rintro e w1 ⟨rfl, hb⟩
    have HB := Lib.hid hb
    clear hb HL
    go_wp2_with fail
    go_ret
    exact ⟨by simp [h1], HB.out⟩
  · have g1 : decide (1 ≤ q) = false := decide_eq_false h1
    go_wp2_with fail
    go_ret
    exact ⟨rfl, Below.refl _ _⟩
end Go.Proofs.YtpfhlhcnmeodbaaDoor
namespace Go.Proofs.YtpfhlhcnmeodbaaDoor
open Go.RowKit Go.BigFrame
def RowI (B : Nat) (L : List (List Nat)) (e : Ending) (w' : World) : Prop := ∃ v, e = .returned v ∧ OwnI B 24 v L w'
end Go.Proofs.YtpfhlhcnmeodbaaDoor
namespace Go.Proofs.YtpfhlhcnmeodbaaDoor
open Go.RowKit Go.BigFrame
def fitsK (d : DraftN) : Bool := if d.kind = 1 ∨ d.kind = 2 ∨ d.kind = 3 then (d.ref == zeroI) else if d.kind = 4 then true else if d.kind = 5 then !(d.ref == zeroI) && d.val == [] else false
theorem good_fits (d : DraftN) : GoodD d ↔ 1 ≤ d.key.length ∧ d.key.length ≤ 16 ∧ d.val.length ≤ 64 ∧ fitsK d = true := by
  unfold GoodD fitsK
  constructor
  · rintro ⟨h1, h2, h3, h4, h5, h6, h7⟩
    refine ⟨h3, h4, h5, ?_⟩
    split
    · rw [h6 (by omega)]; simp
    · split
      · rfl
      · split
        · obtain ⟨a, b⟩ := h7 (by omega)
          simp [a, b]
        · omega
  · rintro ⟨h3, h4, h5, h⟩
    split at h
    · exact ⟨by omega, by omega, h3, h4, h5, fun _ => by simpa using h, fun h => by omega⟩
    · split at h
      · exact ⟨by omega, by omega, h3, h4, h5, fun h => by omega, fun h => by omega⟩
      · split at h
        · simp at h
          exact ⟨by omega, by omega, h3, h4, h5, fun h => by omega, fun _ => h⟩
        · cases h
set_option maxHeartbeats 2000000 in
set_option maxRecDepth 100000 in
theorem dev_fitsKind (d : DraftN) (hr : IdOk d.ref) (w : World) :
    Calls Tryd.prog 119 #[.agg (draftV d)] w fun e w' => e = .returned (.bool (fitsK d)) ∧ Below w.heap.size w w' := by
  have hx : Cells w.heap.size 33 (draftV d) (w.alloc (.cells (draftV d) 33)) := heap_alloc_new w _
  have hb : Below w.heap.size w (w.alloc (.cells (draftV d) 33)) := (Below.refl _ _).alloc (Nat.le_refl _) _
  obtain ⟨c0, c1, c2, c3⟩ := draft_cells hx
  have HC3 := Lib.hid c3
  have HB := Lib.hid hb
  have heq := fun w' => equal_idI d.ref zeroI hr.1 zeroI_ok.1 hr.2 zeroI_ok.2 w'
  have HI := Lib.hid (show (Tryd.prog.info? 24).map (·.size) = some d.ref.length by rw [hr.1]; exact Tryd.sizeI)
  obtain ⟨k, hkd⟩ : ∃ k, d.kind = k := ⟨_, rfl⟩
  obtain ⟨z, hz2⟩ : ∃ z, (d.ref == zeroI) = z := ⟨_, rfl⟩
  have HG := Shut.mk (show fitsK d = if k = 1 ∨ k = 2 ∨ k = 3 then z else if k = 4 then true else if k = 5 then !z && d.val == [] else false by rw [fitsK, hkd, hz2])
  rw [hkd] at c0
  rw [hz2, zeroI_lit] at heq
  clear hx hb c3 hz2
  by_cases h1 : k = 1
  · subst h1
    have hgd : fitsK d = z := HG.out
    rw [hgd]
    clear hgd
    go_enter Tryd.func119, Tryd.ntmps119
    cases z <;> go_wp2_with (refine wpList_load_id rfl 24 _ rfl w.heap.size 3 d.ref _ rfl HC3.out Tryd.underlying24 rfl HI.out ?_)
    all_goals
      go_ret
      exact ⟨rfl, HB.out⟩
  by_cases h2 : k = 2
  · subst h2
    have hgd : fitsK d = z := HG.out
    rw [hgd]
    clear hgd
    go_enter Tryd.func119, Tryd.ntmps119
    cases z <;> go_wp2_with (refine wpList_load_id rfl 24 _ rfl w.heap.size 3 d.ref _ rfl HC3.out Tryd.underlying24 rfl HI.out ?_)
    all_goals
      go_ret
      exact ⟨rfl, HB.out⟩
  by_cases h3 : k = 3
  · subst h3
    have hgd : fitsK d = z := HG.out
    rw [hgd]
    clear hgd
    go_enter Tryd.func119, Tryd.ntmps119
    cases z <;> go_wp2_with (refine wpList_load_id rfl 24 _ rfl w.heap.size 3 d.ref _ rfl HC3.out Tryd.underlying24 rfl HI.out ?_)
    all_goals
      go_ret
      exact ⟨rfl, HB.out⟩
  by_cases h4 : k = 4
  · subst h4
    have hgd : fitsK d = true := HG.out
    rw [hgd]
    clear hgd
    go_enter Tryd.func119, Tryd.ntmps119
    cases z <;> go_wp2_with (refine wpList_load_id rfl 24 _ rfl w.heap.size 3 d.ref _ rfl HC3.out Tryd.underlying24 rfl HI.out ?_)
    all_goals
      go_ret
      exact ⟨rfl, HB.out⟩
  by_cases h5 : k = 5
  · subst h5
    have hgd : fitsK d = (!z && d.val == []) := HG.out
    rw [hgd]
    clear hgd
    go_enter Tryd.func119, Tryd.ntmps119
    cases z <;> go_wp2_with (refine wpList_load_id rfl 24 _ rfl w.heap.size 3 d.ref _ rfl HC3.out Tryd.underlying24 rfl HI.out ?_)
    all_goals
      go_ret
      exact ⟨rfl, HB.out⟩
  have t1 : (k == 1) = false := by simp [h1]
  have t2 : (k == 2) = false := by simp [h2]
  have t3 : (k == 3) = false := by simp [h3]
  have t4 : (k == 4) = false := by simp [h4]
  have t5 : (k == 5) = false := by simp [h5]
  have hgd : fitsK d = false := by rw [HG.out, if_neg (by omega), if_neg h4, if_neg h5]
  rw [hgd]
  clear hgd
  go_enter Tryd.func119, Tryd.ntmps119
  cases z <;> go_wp2_with (refine wpList_load_id rfl 24 _ rfl w.heap.size 3 d.ref _ rfl HC3.out Tryd.underlying24 rfl HI.out ?_)
  all_goals
    go_ret
    exact ⟨rfl, HB.out⟩
set_option maxHeartbeats 2000000 in
set_option maxRecDepth 100000 in
theorem dev_goodDraft (d : DraftN) (hr : IdOk d.ref) (hk : d.key.length ≤ 140737488351232) (hv : d.val.length ≤ 140737488351232) (w : World) :
    Calls Tryd.prog 91 #[.agg (draftV d)] w fun e w' => e = .returned (.bool (decide (GoodD d))) ∧ Below w.heap.size w w' := by
  have hx : Cells w.heap.size 33 (draftV d) (w.alloc (.cells (draftV d) 33)) := heap_alloc_new w _
  have hb : Below w.heap.size w (w.alloc (.cells (draftV d) 33)) := (Below.refl _ _).alloc (Nat.le_refl _) _
  obtain ⟨c0, c1, c2, c3⟩ := draft_cells hx
  have HX := Lib.hid hx
  have HB := Lib.hid hb
  have HSD := Lib.hid (show (Tryd.prog.info? 33).map (·.size) = some (draftV d).size by rw [draftV_size hr.1]; exact Tryd.sizeD)
  have HF := Lib.hid (fun w' => dev_fitsKind d hr w')
  obtain ⟨f, hf⟩ : ∃ f, fitsK d = f := ⟨_, rfl⟩
  obtain ⟨kl, hkl⟩ : ∃ n, d.key.length = n := ⟨_, rfl⟩
  obtain ⟨vl, hvl⟩ : ∃ n, d.val.length = n := ⟨_, rfl⟩
  have hke : (d.key == []) = decide (kl = 0) := by rw [val_nil_beq, ← hkl]; simp [List.length_eq_zero_iff]
  have HG := Shut.mk (show decide (GoodD d) = decide (1 ≤ kl ∧ kl ≤ 16 ∧ vl ≤ 64 ∧ f = true) from decide_eq_decide.2 (by rw [good_fits, hkl, hvl, hf]))
  rw [hf] at HF
  clear hx hb c0 c3 hf
  by_cases h1 : kl = 0
  · have e1 : (d.key == []) = true := by rw [hke]; exact decide_eq_true h1
    have HR := Shut.mk (HG.out.trans (decide_eq_false (by omega)))
    clear hke
    go_enter Tryd.func91, Tryd.ntmps91
    go_wp2_with fail
    go_ret
    exact ⟨by rw [HR.out]; rfl, HB.out⟩
  have e1 : (d.key == []) = false := by rw [hke]; exact decide_eq_false h1
  clear hke
  by_cases h2 : 16 < kl
  · have HR := Shut.mk (HG.out.trans (decide_eq_false (by omega)))
    have h2b : decide ((kl : Int) ≤ 16) = false := decide_eq_false (by omega)
    go_enter Tryd.func91, Tryd.ntmps91
    go_wp2_with fail
    go_ret
    exact ⟨by rw [HR.out]; rfl, HB.out⟩
  have h2b : decide ((kl : Int) ≤ 16) = true := decide_eq_true (by omega)
  by_cases h3 : 64 < vl
  · have HR := Shut.mk (HG.out.trans (decide_eq_false (by omega)))
    have h3b : decide ((vl : Int) ≤ 64) = false := decide_eq_false (by omega)
    go_enter Tryd.func91, Tryd.ntmps91
    go_wp2_with fail
    go_ret
    exact ⟨by rw [HR.out]; rfl, HB.out⟩
  have h3b : decide ((vl : Int) ≤ 64) = true := decide_eq_true (by omega)
  have HR := Shut.mk (show decide (GoodD d) = f by rw [HG.out]; cases f with | true => exact decide_eq_true ⟨by omega, by omega, by omega, rfl⟩ | false => exact decide_eq_false (fun h => by cases h.2.2.2))
  go_enter Tryd.func91, Tryd.ntmps91
  go_wp2_with (refine wpList_load_cells_want (by rfl) 33 _ rfl w.heap.size (draftV d) 33 _ rfl HX.out Tryd.underlying33 rfl HSD.out ?_)
  refine (HF.out _).mono ?_
  rintro e w1 ⟨rfl, hb⟩
  have HB1 := Lib.hid (HB.out.trans (hb.mono HB.out.size))
  clear hb
  go_wp2_with fail
  go_ret
  exact ⟨by rw [HR.out]; rfl, HB1.out⟩
end Go.Proofs.YtpfhlhcnmeodbaaDoor
