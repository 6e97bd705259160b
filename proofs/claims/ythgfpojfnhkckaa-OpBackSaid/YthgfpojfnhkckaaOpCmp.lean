/-
  The document's Compare, Good.
-/
import Derived.Test.YthgfpojfnhkckaaOpAt
namespace Go.Proofs.Ythgfpojfnhkckaa
open Go.RowKit Go.BigFrame

theorem cmpN_step {a b : List Nat} {i : Nat} (ha : i < a.length) (hb : i < b.length) : cmpN (a.drop i) (b.drop i) = if a[i] < b[i] then -1 else if b[i] < a[i] then 1 else cmpN (a.drop (i + 1)) (b.drop (i + 1)) := by
  rw [List.drop_eq_getElem_cons ha, List.drop_eq_getElem_cons hb, cmpN]
theorem cmpN_end {a b : List Nat} {i : Nat} (ha : a.length ≤ i) : cmpN (a.drop i) (b.drop i) = 0 := by
  rw [List.drop_eq_nil_of_le ha, cmpN]
  intro x y z t h
  cases h
theorem nums_cell {g : Nat} {t : TypeId} {l : List Nat} {w : World} (h : Cells g t (nums .u8 l).toArray w) {i : Nat} (hi : i < l.length) : w.cell? ⟨g, i, none⟩ = some (.int .u8 (l[i] : Int)) := by
  rw [h.at, List.getElem?_toArray, nums, List.getElem?_map, List.getElem?_eq_getElem hi]
  rfl

set_option maxHeartbeats 2000000 in
set_option maxRecDepth 100000 in
theorem ref_compare (a b : List Nat) (ha : IdOk a) (hb : IdOk b) (w : World) :
    Calls Try.prog 14 #[.agg (nums .u8 a).toArray, .agg (nums .u8 b).toArray] w fun e w' => e = .returned (.int .i64 (cmpN a b)) ∧ Below w.heap.size w w' := by
  have b1 : Below w.heap.size w (w.alloc (.cells (nums .u8 a).toArray 23)) := (Below.refl _ _).alloc (Nat.le_refl _) _
  have x1 : Cells w.heap.size 23 (nums .u8 a).toArray (w.alloc (.cells (nums .u8 a).toArray 23)) := heap_alloc_new w _
  have s1 : (w.alloc (.cells (nums .u8 a).toArray 23)).heap.size = w.heap.size + 1 := World.size_alloc _ _
  have b2 : Below (w.alloc (.cells (nums .u8 a).toArray 23)).heap.size (w.alloc (.cells (nums .u8 a).toArray 23)) ((w.alloc (.cells (nums .u8 a).toArray 23)).alloc (.cells (nums .u8 b).toArray 23)) := (Below.refl _ _).alloc (Nat.le_refl _) _
  have x2 : Cells (w.alloc (.cells (nums .u8 a).toArray 23)).heap.size 23 (nums .u8 b).toArray ((w.alloc (.cells (nums .u8 a).toArray 23)).alloc (.cells (nums .u8 b).toArray 23)) := heap_alloc_new _ _
  rw [s1] at x2
  have HX1 := Lib.hid (x1.below b2)
  have HX2 := Lib.hid x2
  have HB := Lib.hid (b1.trans (b2.mono b1.size))
  have HA := Lib.hid ha
  have HBB := Lib.hid hb
  clear b1 x1 s1 b2 x2 ha hb
  go_enter Try.func14, Try.ntmps14
  go_upto_region 1 with (fail)
  obtain ⟨w2, hw2⟩ : ∃ x, x = ((w.alloc (.cells (nums .u8 a).toArray 23)).alloc (.cells (nums .u8 b).toArray 23)) := ⟨_, rfl⟩
  rw [← hw2] at HX1 HX2 HB ⊢
  clear hw2
  go_wp2_with fail
  go_loopw [6] (fun i wr => ∃ k : Nat, k ≤ 32 ∧ i = .int .i64 k ∧ cmpN (a.drop k) (b.drop k) = cmpN a b ∧ Cells w.heap.size 23 (nums .u8 a).toArray wr ∧ Cells (w.heap.size + 1) 23 (nums .u8 b).toArray wr ∧ Below w.heap.size w wr) (fun i _ => 32 - (intOf i).toNat)
  case atStart => exact ⟨0, by omega, rfl, rfl, HX1.out, HX2.out, HB.out⟩
  case round =>
    obtain ⟨k, hk, rfl, hc, h1, h2, hb⟩ := hrel
    have HY1 := Lib.hid h1
    have HY2 := Lib.hid h2
    have HY := Lib.hid hb
    have HC := Shut.mk hc
    by_cases hlt : k < 32
    · have hka : k < a.length := by rw [HA.out.1]; exact hlt
      have hkb : k < b.length := by rw [HBB.out.1]; exact hlt
      have c1 := nums_cell h1 hka
      have c2 := nums_cell h2 hkb
      have HS := Shut.mk (cmpN_step hka hkb)
      have hxa := HA.out.2 _ (List.getElem_mem hka)
      have hxb := HBB.out.2 _ (List.getElem_mem hkb)
      obtain ⟨x, hx⟩ : ∃ x, a[k] = x := ⟨_, rfl⟩
      obtain ⟨y, hy⟩ : ∃ y, b[k] = y := ⟨_, rfl⟩
      rw [hx] at c1 HS hxa
      rw [hy] at c2 HS hxb
      clear hx hy hka hkb h1 h2 hb hc HX1 HX2 HB
      by_cases hxy : x < y
      · have hxyi : (x : Int) < (y : Int) := by omega
        go_upto_region 4 with (fail)
        go_quiet (fail)
        go_wp2_with fail
        go_ret
        exact ⟨by rw [← HC.out, HS.out, if_pos hxy]; rfl, drawn_below HY.out _⟩
      · by_cases hyx : y < x
        · have hyxi : (y : Int) < (x : Int) := by omega
          go_upto_region 4 with (fail)
          go_quiet (fail)
          obtain ⟨w3, hw3⟩ : ∃ x, x = wr.drewN nq := ⟨_, rfl⟩
          have c13 : w3.cell? ⟨w.heap.size, k, none⟩ = some (.int .u8 (x : Int)) := by rw [hw3]; exact c1
          have c23 : w3.cell? ⟨w.heap.size + 1, k, none⟩ = some (.int .u8 (y : Int)) := by rw [hw3]; exact c2
          have HZ := Lib.hid (show Below w.heap.size w w3 by rw [hw3]; exact drawn_below HY.out _)
          have HZ1 := Lib.hid (show Cells w.heap.size 23 (nums .u8 a).toArray w3 by rw [hw3]; exact HY1.out)
          have HZ2 := Lib.hid (show Cells (w.heap.size + 1) 23 (nums .u8 b).toArray w3 by rw [hw3]; exact HY2.out)
          rw [← hw3]
          clear hw3 c1 c2
          go_upto_region 6 with (fail)
          go_quiet (fail)
          go_wp2_with fail
          go_ret
          exact ⟨by rw [← HC.out, HS.out, if_neg hxy, if_pos hyx]; rfl, drawn_below HZ.out _⟩
        · have hxyi : ¬ (x : Int) < (y : Int) := by omega
          have hyxi : ¬ (y : Int) < (x : Int) := by omega
          go_upto_region 4 with (fail)
          go_quiet (fail)
          obtain ⟨w3, hw3⟩ : ∃ x, x = wr.drewN nq := ⟨_, rfl⟩
          have c13 : w3.cell? ⟨w.heap.size, k, none⟩ = some (.int .u8 (x : Int)) := by rw [hw3]; exact c1
          have c23 : w3.cell? ⟨w.heap.size + 1, k, none⟩ = some (.int .u8 (y : Int)) := by rw [hw3]; exact c2
          have HZ := Lib.hid (show Below w.heap.size w w3 by rw [hw3]; exact drawn_below HY.out _)
          have HZ1 := Lib.hid (show Cells w.heap.size 23 (nums .u8 a).toArray w3 by rw [hw3]; exact HY1.out)
          have HZ2 := Lib.hid (show Cells (w.heap.size + 1) 23 (nums .u8 b).toArray w3 by rw [hw3]; exact HY2.out)
          rw [← hw3]
          clear hw3 c1 c2
          go_upto_region 6 with (fail)
          go_quiet (fail)
          go_wp2_with fail
          exact ⟨⟨k + 1, by omega, by go_num, by rw [← HC.out, HS.out, if_neg hxy, if_neg hyx], HZ1.out, HZ2.out, drawn_below HZ.out _⟩, by simp [intOf]; omega⟩
    · obtain rfl : k = 32 := by omega
      rw [cmpN_end (by rw [HA.out.1]; exact Nat.le_refl _)] at HC
      clear h1 h2 hb hc HX1 HX2 HB
      go_wp2_with fail
      go_ret
      exact ⟨by rw [← HC.out]; rfl, HY.out⟩
end Go.Proofs.Ythgfpojfnhkckaa
