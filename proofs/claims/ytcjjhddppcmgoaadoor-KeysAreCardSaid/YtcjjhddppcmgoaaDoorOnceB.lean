/-
  One-time signatures: mathematics; a place's secret and an index's public key.
-/
import Derived.Test.YtcjjhddppcmgoaaDoorDig
/-! One-time signatures, as plain mathematics. -/
namespace Go.Proofs.YtcjjhddppcmgoaaDoor
open Go.RowKit

def secN (seed : List UInt8) (i c : Int) : List Nat := (shaN (listB [[107], seed, numB i.toNat, numB c.toNat])).take 16
def keyN (ends : List UInt8) (i : Int) : List Nat := (shaN (listB [[108], ends, numB i.toNat])).take 16
theorem secN_len (seed : List UInt8) (i c : Int) : (secN seed i c).length = 16 := by rw [secN, List.length_take, shaN_len]; rfl
theorem secN_lt (seed : List UInt8) (i c : Int) : ∀ y ∈ secN seed i c, y < 256 := fun y hy => shaN_lt _ y (List.mem_of_mem_take hy)
theorem keyN_len (ends : List UInt8) (i : Int) : (keyN ends i).length = 16 := by rw [keyN, List.length_take, shaN_len]; rfl
theorem keyN_lt (ends : List UInt8) (i : Int) : ∀ y ∈ keyN ends i, y < 256 := fun y hy => shaN_lt _ y (List.mem_of_mem_take hy)
/-- The bytes of k elements, one behind the other. -/
def rowE (f : Nat → List Nat) : Nat → List UInt8
  | 0 => []
  | k + 1 => rowE f k ++ txt (f k)
theorem rowE_len {f : Nat → List Nat} (hf : ∀ j, (f j).length = 16) (k : Nat) : (rowE f k).length = 16 * k := by
  induction k with
  | zero => rfl
  | succ k ih => rw [rowE, List.length_append, ih, txt_len, hf]; omega
/-- Sixteen bytes of a text. -/
def part (s : List UInt8) (j : Nat) : List UInt8 := (s.drop (16 * j)).take 16
theorem part_len {s : List UInt8} {j k : Nat} (h : s.length = 16 * k) (hj : j < k) : (part s j).length = 16 := by
  rw [part, List.length_take, List.length_drop]; omega
theorem part_rowE {f : Nat → List Nat} (hf : ∀ j, (f j).length = 16) {j : Nat} : ∀ {k : Nat}, j < k → part (rowE f k) j = txt (f j) := by
  intro k
  induction k with
  | zero => intro h; omega
  | succ k ih =>
    intro h
    have hl := rowE_len hf k
    by_cases e : j = k
    · subst e
      rw [part, rowE, List.drop_append_of_le_length (by omega), List.drop_of_length_le (by omega), List.nil_append, List.take_of_length_le (by rw [txt_len, hf]; exact Nat.le_refl _)]
    · rw [part, rowE, List.drop_append_of_le_length (by omega), List.take_append_of_le_length (by rw [List.length_drop]; omega)]
      exact ih (by omega)
theorem rowE_congr {f g : Nat → List Nat} : ∀ {k : Nat}, (∀ j, j < k → f j = g j) → rowE f k = rowE g k := by
  intro k
  induction k with
  | zero => intro _; rfl
  | succ k ih => intro h; rw [rowE, rowE, ih (fun j hj => h j (by omega)), h k (by omega)]
theorem byteNs_part_lt (s : List UInt8) (j : Nat) : ∀ y ∈ byteNs (part s j), y < 256 := byteNs_lt _
theorem walkI_len {x : List Nat} (hx : x.length = 16) (pl : List UInt8) (a b : Int) : (walkI x pl a b).length = 16 := walkN_len hx _ _ _
theorem walkI_lt {x : List Nat} (hx : ∀ y ∈ x, y < 256) (pl : List UInt8) (a b : Int) : ∀ y ∈ walkI x pl a b, y < 256 := walkN_lt hx _ _ _
theorem walkI_join (x : List Nat) (pl : List UInt8) {a b c : Int} (h0 : 0 ≤ a) (h1 : a ≤ b) (h2 : b ≤ c) (h3 : c ≤ 15) : walkI (walkI x pl a b) pl b c = walkI x pl a c := by
  unfold walkI
  have e1 : (max b 0).toNat = (max a 0).toNat + ((min b 15).toNat - (max a 0).toNat) := by omega
  have e2 : (min c 15).toNat - (max a 0).toNat = ((min b 15).toNat - (max a 0).toNat) + ((min c 15).toNat - (max b 0).toNat) := by omega
  rw [e2, ← walkN_add, ← e1]

def endF (seed : List UInt8) (i : Int) (j : Nat) : List Nat := walkI (secN seed i j) (placeB i j) 0 15
def sgnF (seed : List UInt8) (i : Int) (d : List Nat) (j : Nat) : List Nat := walkI (secN seed i j) (placeB i j) 0 ((digN d).getD j 0 : Nat)
def metF (sig : List UInt8) (i : Int) (d : List Nat) (j : Nat) : List Nat := walkI (byteNs (part sig j)) (placeB i j) ((digN d).getD j 0 : Nat) 15
def leafN (seed : List UInt8) (i : Int) : List Nat := keyN (rowE (endF seed i) 35) i
def signN (seed : List UInt8) (i : Int) (d : List Nat) : List UInt8 := rowE (sgnF seed i d) 35
def meetN (sig : List UInt8) (i : Int) (d : List Nat) : List Nat := keyN (rowE (metF sig i d) 35) i
theorem endF_len (seed : List UInt8) (i : Int) (j : Nat) : (endF seed i j).length = 16 := walkI_len (secN_len _ _ _) _ _ _
theorem sgnF_len (seed : List UInt8) (i : Int) (d : List Nat) (j : Nat) : (sgnF seed i d j).length = 16 := walkI_len (secN_len _ _ _) _ _ _
theorem endF_lt (seed : List UInt8) (i : Int) (j : Nat) : ∀ y ∈ endF seed i j, y < 256 := walkI_lt (secN_lt _ _ _) _ _ _
theorem sgnF_lt (seed : List UInt8) (i : Int) (d : List Nat) (j : Nat) : ∀ y ∈ sgnF seed i d j, y < 256 := walkI_lt (secN_lt _ _ _) _ _ _
theorem signN_len (seed : List UInt8) (i : Int) (d : List Nat) : (signN seed i d).length = 560 := rowE_len (sgnF_len seed i d) 35
theorem signN_part (seed : List UInt8) (i : Int) (d : List Nat) {j : Nat} (hj : j < 35) : byteNs (part (signN seed i d) j) = sgnF seed i d j := by
  rw [signN, part_rowE (sgnF_len seed i d) hj, byteNs_txt (sgnF_lt seed i d j)]
/-- What is signed meets its key. -/
theorem meet_sign (seed : List UInt8) (i : Int) {d : List Nat} (hd : d.length = 16) (ld : ∀ y ∈ d, y < 256) : meetN (signN seed i d) i d = leafN seed i := by
  unfold meetN leafN
  rw [rowE_congr (g := endF seed i) fun j hj => ?_]
  have h := getD_lt (digN_lt hd ld) (by decide) j
  rw [metF, signN_part seed i d hj, sgnF, endF]
  exact walkI_join _ _ (by omega) (by omega) (by omega) (by omega)
/-- Each sixteen bytes stand on their chain. -/
theorem sign_rest (seed : List UInt8) (i : Int) {d : List Nat} (hd : d.length = 16) (ld : ∀ y ∈ d, y < 256) (j : Nat) : walkI (sgnF seed i d j) (placeB i j) ((digN d).getD j 0 : Nat) 15 = endF seed i j := by
  have h := getD_lt (digN_lt hd ld) (by decide) j
  exact walkI_join _ _ (by omega) (by omega) (by omega) (by omega)

/-- A list of four texts of which one is long. -/
theorem parts4_small {p a b c : List UInt8} (hp : p.length ≤ 8) (ha : a.length ≤ 4000) (hb : b.length ≤ 600) (hc : c.length ≤ 600) : (listB [p, a, b, c]).length ≤ 140737488350000 := by
  have h2 := numB_length_9 (n := [p, a, b, c].length) (by simp)
  have e1 := numB_length_9 (n := p.length) (by omega)
  have e2 := numB_length_9 (n := a.length) (by omega)
  have e3 := numB_length_9 (n := b.length) (by omega)
  have e4 := numB_length_9 (n := c.length) (by omega)
  rw [listB_length]
  simp only [textsB_cons, List.length_append, textB_length, show textsB [] = [] from rfl, List.length_nil] at *
  omega
theorem parts3_of {p a b : List UInt8} (hp : p.length ≤ 8) (ha : a.length ≤ 4000) (hb : b.length ≤ 600) : (listB [p, a, b]).length ≤ 140737488350000 := by
  have h2 := numB_length_9 (n := [p, a, b].length) (by simp)
  have e1 := numB_length_9 (n := p.length) (by omega)
  have e2 := numB_length_9 (n := a.length) (by omega)
  have e3 := numB_length_9 (n := b.length) (by omega)
  rw [listB_length]
  simp only [textsB_cons, List.length_append, textB_length, show textsB [] = [] from rfl, List.length_nil] at *
  omega
theorem at_2 (w : World) (q r : List UInt8) : StrsAt (some ⟨w.heap.size, 0, none⟩) [q, r] (w.alloc (.cells #[.string ⟨q.toArray⟩, .string ⟨r.toArray⟩] 9)) := by
  refine strsAt_own (B := w.heap.size) (c := 2) ?_
  exact World.ownsRow_lit (base := w.heap.size) (e := 9) (size := 1) w #[.string ⟨q.toArray⟩, .string ⟨r.toArray⟩] 2 (Nat.le_refl _) (by unfold maxLen; omega) rfl
end Go.Proofs.YtcjjhddppcmgoaaDoor

/-! A place's secret and an index's public key, the developers' and the document's. -/
namespace Go.Proofs.YtcjjhddppcmgoaaDoor
open Go.RowKit Go.BigFrame

set_option maxHeartbeats 4000000 in
set_option maxRecDepth 100000 in
theorem dev_secret (seed : List UInt8) (i c : Int) (w : World) (hs : seed.length ≤ 4000) (hi0 : -9223372036854775808 ≤ i) (hi : i ≤ 9223372036854775807) (hc0 : -9223372036854775808 ≤ c) (hc : c ≤ 9223372036854775807) (hk : KAt w) :
    Calls Tryd.prog 64 #[.string ⟨seed.toArray⟩, .agg #[.int .i64 i, .int .i64 c]] w fun e w' => e = .returned (.agg (nums .u8 (secN seed i c)).toArray) ∧ Below w.heap.size w w' := by
  have HS := Lib.hid hs
  have HK := Lib.hid hk
  clear hs hk
  go_enter Tryd.func64, Tryd.ntmps64
  go_upto_region 1 with (fail)
  change Code.wp _ _ _ _ ((w.alloc (.cells #[.int .i64 i, .int .i64 c] 88)).alloc (.cells (nums .u8 (List.replicate 16 0)).toArray 31))
  obtain ⟨w1, hw1⟩ : ∃ x', x' = (w.alloc (.cells #[.int .i64 i, .int .i64 c] 88)).alloc (.cells (nums .u8 (List.replicate 16 0)).toArray 31) := ⟨_, rfl⟩
  rw [← hw1]
  have h3 : Cells w.heap.size 88 #[.int .i64 i, .int .i64 c] w1 ∧ Blk (w.heap.size + 1) 31 .u8 (List.replicate 16 0) w1 ∧ Below w.heap.size w w1 := by rw [hw1]; exact cells_nums_new w _ _ _ _ _
  obtain ⟨hx1, hr1, hb1⟩ := h3
  have HI := Lib.hid (show w1.cell? ⟨w.heap.size, 0, none⟩ = some (.int .i64 i) by rw [Lib.cell_of_heap hx1]; rfl)
  have HC := Lib.hid (show w1.cell? ⟨w.heap.size, 1, none⟩ = some (.int .i64 c) by rw [Lib.cell_of_heap hx1]; rfl)
  have HG := Lib.hid hx1.lt
  have HR1 := Lib.hid hr1
  have HB1 := Lib.hid hb1
  have HK1 := Lib.hid (HK.out.below hb1)
  clear hx1 hr1 hb1 hw1 HK
  refine wp_region_class_tail (fun w' => SS w1 w') 7 (by kernel_rfl) (by kernel_rfl) (SS.start HK1.out) ?_
  simp only [List.take_succ_cons, List.take_zero, List.drop_succ_cons, List.drop_zero]
  repeat (first
    | (go_big_quiet_want; refine quiet_load_cell 3 _ rfl ⟨w.heap.size, 0, none⟩ _ rfl (fun w' h => (h.1.cell (p := ⟨w.heap.size, 0, none⟩) HG.out).trans HI.out) Tryd.isAgg3 ?_; go_big_quiet_on; simp only [Act.put, List.setIfInBounds_toArray, List.set_cons_zero, List.set_cons_succ])
    | (go_big_quiet_want; refine quiet_load_cell 3 _ rfl ⟨w.heap.size, 1, none⟩ _ rfl (fun w' h => (h.1.cell (p := ⟨w.heap.size, 1, none⟩) HG.out).trans HC.out) Tryd.isAgg3 ?_; go_big_quiet_on; simp only [Act.put, List.setIfInBounds_toArray, List.set_cons_zero, List.set_cons_succ])
    | go_big_quiet_step ((intro hs'; first
        | rfl
        | (go_at_call_of 33 (Value.int .i64 i); exact (num_int i _ hi0 hi).mono fun e w' h => ⟨h.1, hs'.next h.2⟩)
        | (go_at_call_of 33 (Value.int .i64 c); exact (num_int c _ hc0 hc).mono fun e w' h => ⟨h.1, hs'.next h.2⟩))))
  refine wpQuiet_nil ?_
  intro w2 hs2
  have HR2 := Lib.hid (HR1.out.below hs2.1)
  have HB2 := Lib.hid (HB1.out.trans (hs2.1.mono HB1.out.size))
  have HK2 := Lib.hid hs2.2
  clear hs2 HR1 HB1 HK1 HI HC HG
  have h1 := numB_length_9 (n := i.toNat) (by omega)
  have h2 := numB_length_9 (n := c.toNat) (by omega)
  have HP := Lib.hid (parts4_small (p := [107]) (a := seed) (b := numB i.toNat) (c := numB c.toNat) (by decide) HS.out (by omega) (by omega))
  clear h1 h2
  go_wp2_with fail
  refine (dev_sum [107] (some ⟨w2.heap.size, 0, none⟩) 3 [seed, numB i.toNat, numB c.toNat] _ (at_three w2 _ _ _) (fun h => by cases h) (by simp) HP.out (HK2.out.below ((Below.refl _ _).alloc (Nat.le_refl _) _))).mono ?_
  rintro e w3 ⟨rfl, hb3⟩
  have hb : Below w2.heap.size w2 w3 := ((Below.refl _ w2).alloc (Nat.le_refl _) _).trans (hb3.mono (by simp))
  have HR3 := Lib.hid (HR2.out.below hb)
  have HB3 := Lib.hid (HB2.out.trans (hb.mono HB2.out.size))
  clear hb hb3 HR2 HB2 HK2
  go_wp2_with fail
  refine (dev_cut _ w3 (shaN_len _)).mono ?_
  rintro e w4 ⟨rfl, hb4⟩
  have HR4 := Lib.hid (HR3.out.below hb4)
  have HB4 := Lib.hid (HB3.out.trans (hb4.mono HB3.out.size))
  clear hb4 HR3 HB3
  rw [show (shaN (listB [[107], seed, numB i.toNat, numB c.toNat])).take 16 = secN seed i c from rfl]
  have HI := Lib.hid (show (Tryd.prog.info? 31).map (·.size) = some (secN seed i c).length by rw [secN_len]; exact Tryd.infoE)
  have HL2 := Lib.hid (show (List.replicate 16 0).length = (secN seed i c).length by rw [secN_len]; rfl)
  go_wp2_with (refine wpList_store_nums rfl 31 _ _ rfl rfl (w.heap.size + 1) .u8 _ (secN seed i c) 31 rfl rfl HR4.out HI.out HL2.out ?_)
  intro w7 hc' hb'
  have HC7 := Lib.hid (show Blk (w.heap.size + 1) 31 .u8 (secN seed i c) w7 from hc'.out)
  have HB7 := Lib.hid (show Below w.heap.size w w7 from But.toBelow HB4.out hb'.out (by omega) HB4.out.size)
  clear hc' hb'
  go_wp2_with fail
  exact bodyPost_ret (results_nums rfl _ _ (w.heap.size + 1) .u8 _ 31 _ rfl HC7.out Tryd.underlying31 rfl HI.out) rfl ⟨rfl, HB7.out⟩

set_option maxHeartbeats 4000000 in
set_option maxRecDepth 100000 in
theorem dev_key (s : List UInt8) (i : Int) (w : World) (hs : s.length ≤ 4000) (hi0 : -9223372036854775808 ≤ i) (hi : i ≤ 9223372036854775807) (hk : KAt w) :
    Calls Tryd.prog 44 #[.string ⟨s.toArray⟩, .int .i64 i] w fun e w' => e = .returned (.agg (nums .u8 (keyN s i)).toArray) ∧ Below w.heap.size w w' := by
  have HS := Lib.hid hs
  have HK := Lib.hid hk
  clear hs hk
  go_enter Tryd.func44, Tryd.ntmps44
  go_upto_region 1 with (fail)
  change Code.wp _ _ _ _ (w.alloc (.cells (nums .u8 (List.replicate 16 0)).toArray 31))
  obtain ⟨w1, hw1⟩ : ∃ x', x' = w.alloc (.cells (nums .u8 (List.replicate 16 0)).toArray 31) := ⟨_, rfl⟩
  rw [← hw1]
  have hb1 : Below w.heap.size w w1 := by rw [hw1]; exact (Below.refl _ _).alloc (Nat.le_refl _) _
  have HR1 := Lib.hid (show Blk w.heap.size 31 .u8 (List.replicate 16 0) w1 by rw [hw1]; exact heap_alloc_new w _)
  have HB1 := Lib.hid hb1
  have HK1 := Lib.hid (HK.out.below hb1)
  have h1 := numB_length_9 (n := i.toNat) (by omega)
  have HP := Lib.hid (parts3_of (p := [108]) (a := s) (b := numB i.toNat) (by decide) HS.out (by omega))
  clear hb1 hw1 HK h1
  go_wp2_with fail
  refine (num_int i _ hi0 hi).mono ?_
  rintro e w2 ⟨rfl, hb2⟩
  have HR2 := Lib.hid (HR1.out.below hb2)
  have HB2 := Lib.hid (HB1.out.trans (hb2.mono HB1.out.size))
  have HK2 := Lib.hid (HK1.out.below hb2)
  clear hb2 HR1 HB1 HK1
  go_wp2_with fail
  refine (dev_sum [108] (some ⟨w2.heap.size, 0, none⟩) 2 [s, numB i.toNat] _ (at_2 w2 _ _) (fun h => by cases h) (by simp) HP.out (HK2.out.below ((Below.refl _ _).alloc (Nat.le_refl _) _))).mono ?_
  rintro e w3 ⟨rfl, hb3⟩
  have hb : Below w2.heap.size w2 w3 := ((Below.refl _ w2).alloc (Nat.le_refl _) _).trans (hb3.mono (by simp))
  have HR3 := Lib.hid (HR2.out.below hb)
  have HB3 := Lib.hid (HB2.out.trans (hb.mono HB2.out.size))
  clear hb hb3 HR2 HB2 HK2
  go_wp2_with fail
  refine (dev_cut _ w3 (shaN_len _)).mono ?_
  rintro e w4 ⟨rfl, hb4⟩
  have HR4 := Lib.hid (HR3.out.below hb4)
  have HB4 := Lib.hid (HB3.out.trans (hb4.mono HB3.out.size))
  clear hb4 HR3 HB3
  rw [show (shaN (listB [[108], s, numB i.toNat])).take 16 = keyN s i from rfl]
  have HI := Lib.hid (show (Tryd.prog.info? 31).map (·.size) = some (keyN s i).length by rw [keyN_len]; exact Tryd.infoE)
  have HL2 := Lib.hid (show (List.replicate 16 0).length = (keyN s i).length by rw [keyN_len]; rfl)
  go_wp2_with (refine wpList_store_nums rfl 31 _ _ rfl rfl w.heap.size .u8 _ (keyN s i) 31 rfl rfl HR4.out HI.out HL2.out ?_)
  intro w7 hc' hb'
  have HC7 := Lib.hid (show Blk w.heap.size 31 .u8 (keyN s i) w7 from hc'.out)
  have HB7 := Lib.hid (show Below w.heap.size w w7 from But.toBelow HB4.out hb'.out (by omega) HB4.out.size)
  clear hc' hb'
  go_wp2_with fail
  exact bodyPost_ret (results_nums rfl _ _ w.heap.size .u8 _ 31 _ rfl HC7.out Tryd.underlying31 rfl HI.out) rfl ⟨rfl, HB7.out⟩

set_option maxHeartbeats 4000000 in
theorem ref_num4 (i : Int) (w : World) (hi0 : -9223372036854775808 ≤ i) (hi : i ≤ 9223372036854775807) :
    Calls Tryd.prog 67 #[.int .i64 i] w fun e w' => e = .returned (.string ⟨(numB i.toNat).toArray⟩) ∧ Below w.heap.size w w' := by
  go_enter Tryd.func67, Tryd.ntmps67
  by_cases hn : i < 0
  · go_wp2_with fail
    refine (rnumref_any 0 _ (by decide)).mono ?_
    rintro e w1 ⟨rfl, hb1⟩
    rw [show numB 0 = numB i.toNat by rw [show i.toNat = 0 by omega]]
    have HB1 := Lib.hid hb1
    clear hb1
    go_wp2_with fail
    go_ret
    exact ⟨rfl, HB1.out⟩
  · obtain ⟨n, rfl⟩ : ∃ n : Nat, i = n := ⟨i.toNat, by omega⟩
    go_wp2_with fail
    refine (rnumref_any n _ (by omega)).mono ?_
    rintro e w1 ⟨rfl, hb1⟩
    have HB1 := Lib.hid hb1
    clear hb1
    go_wp2_with fail
    go_ret
    exact ⟨by rw [Int.toNat_natCast]; rfl, HB1.out⟩

set_option maxHeartbeats 4000000 in
set_option maxRecDepth 100000 in
theorem ref_secret (seed : List UInt8) (i c : Int) (w : World) (hs : seed.length ≤ 4000) (hi0 : -9223372036854775808 ≤ i) (hi : i ≤ 9223372036854775807) (hc0 : -9223372036854775808 ≤ c) (hc : c ≤ 9223372036854775807) :
    Calls Tryd.prog 51 #[.string ⟨seed.toArray⟩, .int .i64 i, .int .i64 c] w fun e w' => e = .returned (.agg (nums .u8 (secN seed i c)).toArray) ∧ Below w.heap.size w w' := by
  have HS := Lib.hid hs
  clear hs
  go_enter Tryd.func51, Tryd.ntmps51
  go_upto_region 1 with (fail)
  change Code.wp _ _ _ _ (w.alloc (.cells (nums .u8 (List.replicate 16 0)).toArray 31))
  obtain ⟨w1, hw1⟩ : ∃ x', x' = w.alloc (.cells (nums .u8 (List.replicate 16 0)).toArray 31) := ⟨_, rfl⟩
  rw [← hw1]
  have HB1 := Lib.hid (show Below w.heap.size w w1 by rw [hw1]; exact (Below.refl _ _).alloc (Nat.le_refl _) _)
  have HR1 := Lib.hid (show Blk w.heap.size 31 .u8 (List.replicate 16 0) w1 by rw [hw1]; exact heap_alloc_new w _)
  have h1 := numB_length_9 (n := i.toNat) (by omega)
  have h2 := numB_length_9 (n := c.toNat) (by omega)
  have HP := Lib.hid (parts4_small (p := [107]) (a := seed) (b := numB i.toNat) (c := numB c.toNat) (by decide) HS.out (by omega) (by omega))
  clear hw1 h1 h2
  go_wp2_with fail
  refine (ref_num4 i _ hi0 hi).mono ?_
  rintro e w2 ⟨rfl, hb2⟩
  have HR2 := Lib.hid (HR1.out.below hb2)
  have HB2 := Lib.hid (HB1.out.trans (hb2.mono HB1.out.size))
  clear hb2 HR1 HB1
  go_wp2_with fail
  refine (ref_num4 c _ hc0 hc).mono ?_
  rintro e w2' ⟨rfl, hb2⟩
  have HR2' := Lib.hid (HR2.out.below hb2)
  have HB2' := Lib.hid (HB2.out.trans (hb2.mono HB2.out.size))
  clear hb2 HR2 HB2
  go_wp2_with fail
  refine (ref_sum [107] (some ⟨w2'.heap.size, 0, none⟩) 3 [seed, numB i.toNat, numB c.toNat] _ (at_three w2' _ _ _) (fun h => by cases h) (by simp) HP.out).mono ?_
  rintro e w3 ⟨rfl, hb3⟩
  have hb : Below w2'.heap.size w2' w3 := ((Below.refl _ w2').alloc (Nat.le_refl _) _).trans (hb3.mono (by simp))
  have HR3 := Lib.hid (HR2'.out.below hb)
  have HB3 := Lib.hid (HB2'.out.trans (hb.mono HB2'.out.size))
  clear hb hb3 HR2' HB2'
  go_wp2_with fail
  refine (ref_cut _ w3 (shaN_len _)).mono ?_
  rintro e w4 ⟨rfl, hb4⟩
  have HR4 := Lib.hid (HR3.out.below hb4)
  have HB4 := Lib.hid (HB3.out.trans (hb4.mono HB3.out.size))
  clear hb4 HR3 HB3
  rw [show (shaN (listB [[107], seed, numB i.toNat, numB c.toNat])).take 16 = secN seed i c from rfl]
  have HI := Lib.hid (show (Tryd.prog.info? 31).map (·.size) = some (secN seed i c).length by rw [secN_len]; exact Tryd.infoE)
  have HL2 := Lib.hid (show (List.replicate 16 0).length = (secN seed i c).length by rw [secN_len]; rfl)
  go_wp2_with (refine wpList_store_nums rfl 31 _ _ rfl rfl w.heap.size .u8 _ (secN seed i c) 31 rfl rfl HR4.out HI.out HL2.out ?_)
  intro w7 hc' hb'
  have HC7 := Lib.hid (show Blk w.heap.size 31 .u8 (secN seed i c) w7 from hc'.out)
  have HB7 := Lib.hid (show Below w.heap.size w w7 from But.toBelow HB4.out hb'.out (by omega) HB4.out.size)
  clear hc' hb'
  go_wp2_with fail
  exact bodyPost_ret (results_nums rfl _ _ w.heap.size .u8 _ 31 _ rfl HC7.out Tryd.underlying31 rfl HI.out) rfl ⟨rfl, HB7.out⟩

set_option maxHeartbeats 4000000 in
set_option maxRecDepth 100000 in
theorem ref_of4 (s : List UInt8) (i : Int) (w : World) (hs : s.length ≤ 4000) (hi0 : -9223372036854775808 ≤ i) (hi : i ≤ 9223372036854775807) :
    Calls Tryd.prog 52 #[.string ⟨s.toArray⟩, .int .i64 i] w fun e w' => e = .returned (.agg (nums .u8 (keyN s i)).toArray) ∧ Below w.heap.size w w' := by
  have HS := Lib.hid hs
  clear hs
  go_enter Tryd.func52, Tryd.ntmps52
  go_upto_region 1 with (fail)
  change Code.wp _ _ _ _ (w.alloc (.cells (nums .u8 (List.replicate 16 0)).toArray 31))
  obtain ⟨w1, hw1⟩ : ∃ x', x' = w.alloc (.cells (nums .u8 (List.replicate 16 0)).toArray 31) := ⟨_, rfl⟩
  rw [← hw1]
  have HB1 := Lib.hid (show Below w.heap.size w w1 by rw [hw1]; exact (Below.refl _ _).alloc (Nat.le_refl _) _)
  have HR1 := Lib.hid (show Blk w.heap.size 31 .u8 (List.replicate 16 0) w1 by rw [hw1]; exact heap_alloc_new w _)
  have h1 := numB_length_9 (n := i.toNat) (by omega)
  have HP := Lib.hid (parts3_of (p := [108]) (a := s) (b := numB i.toNat) (by decide) HS.out (by omega))
  clear hw1 h1
  go_wp2_with fail
  refine (ref_num4 i _ hi0 hi).mono ?_
  rintro e w2 ⟨rfl, hb2⟩
  have HR2 := Lib.hid (HR1.out.below hb2)
  have HB2 := Lib.hid (HB1.out.trans (hb2.mono HB1.out.size))
  clear hb2 HR1 HB1
  go_wp2_with fail
  refine (ref_sum [108] (some ⟨w2.heap.size, 0, none⟩) 2 [s, numB i.toNat] _ (at_2 w2 _ _) (fun h => by cases h) (by simp) HP.out).mono ?_
  rintro e w3 ⟨rfl, hb3⟩
  have hb : Below w2.heap.size w2 w3 := ((Below.refl _ w2).alloc (Nat.le_refl _) _).trans (hb3.mono (by simp))
  have HR3 := Lib.hid (HR2.out.below hb)
  have HB3 := Lib.hid (HB2.out.trans (hb.mono HB2.out.size))
  clear hb hb3 HR2 HB2
  go_wp2_with fail
  refine (ref_cut _ w3 (shaN_len _)).mono ?_
  rintro e w4 ⟨rfl, hb4⟩
  have HR4 := Lib.hid (HR3.out.below hb4)
  have HB4 := Lib.hid (HB3.out.trans (hb4.mono HB3.out.size))
  clear hb4 HR3 HB3
  rw [show (shaN (listB [[108], s, numB i.toNat])).take 16 = keyN s i from rfl]
  have HI := Lib.hid (show (Tryd.prog.info? 31).map (·.size) = some (keyN s i).length by rw [keyN_len]; exact Tryd.infoE)
  have HL2 := Lib.hid (show (List.replicate 16 0).length = (keyN s i).length by rw [keyN_len]; rfl)
  go_wp2_with (refine wpList_store_nums rfl 31 _ _ rfl rfl w.heap.size .u8 _ (keyN s i) 31 rfl rfl HR4.out HI.out HL2.out ?_)
  intro w7 hc' hb'
  have HC7 := Lib.hid (show Blk w.heap.size 31 .u8 (keyN s i) w7 from hc'.out)
  have HB7 := Lib.hid (show Below w.heap.size w w7 from But.toBelow HB4.out hb'.out (by omega) HB4.out.size)
  clear hc' hb'
  go_wp2_with fail
  exact bodyPost_ret (results_nums rfl _ _ w.heap.size .u8 _ 31 _ rfl HC7.out Tryd.underlying31 rfl HI.out) rfl ⟨rfl, HB7.out⟩
end Go.Proofs.YtcjjhddppcmgoaaDoor
