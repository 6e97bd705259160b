/-
  What the laws of layer 8 ask first: great.
-/
import Derived.Test.YthnagnjcbgcnfaaScript8
namespace Go.Proofs.Ythnagnjcbgcnfaa
open Go.RowKit Go.BigFrame

def costT : List (List UInt8) → Nat
  | [] => 0
  | t :: l => 2 + t.length + costT l
theorem costT_append (l m : List (List UInt8)) : costT (l ++ m) = costT l + costT m := by
  induction l with
  | nil => simp [costT]
  | cons x l ih => simp only [List.cons_append, costT, ih]; omega
theorem costT_take {T : List (List UInt8)} {j : Nat} (h : j < T.length) : costT (T.take (j + 1)) = costT (T.take j) + (2 + T[j].length) := by
  rw [List.take_succ_eq_append_getElem h, costT_append]
  simp [costT]
theorem costT_le (T : List (List UInt8)) (j : Nat) : costT (T.take j) ≤ costT T := by
  have h := costT_append (T.take j) (T.drop j)
  rw [List.take_append_drop] at h
  omega
def costB : List Batch → Nat
  | [] => 0
  | x :: l => costT x.list + costB l
theorem costB_append (l m : List Batch) : costB (l ++ m) = costB l + costB m := by
  induction l with
  | nil => simp [costB]
  | cons x l ih => simp only [List.cons_append, costB, ih]; omega
theorem costB_take {L : List Batch} {k : Nat} (h : k < L.length) : costB (L.take (k + 1)) = costB (L.take k) + costT L[k].list := by
  rw [List.take_succ_eq_append_getElem h, costB_append]
  simp [costB]
theorem costB_le (L : List Batch) (k : Nat) : costB (L.take k) ≤ costB L := by
  have h := costB_append (L.take k) (L.drop k)
  rw [List.take_append_drop] at h
  omega
def great8N (L : List Batch) : Bool := decide (4096 < costB L) || decide (60 < L.length)
theorem batchV_one (x : Batch) : (batchV x).all (·.oneCell') = true := by
  rw [show batchV x = [Value.int .i64 x.kind, .slice x.lo x.list.length x.lc, .int .i64 x.at', .int .u64 x.keep].toArray from rfl]
  refine all_oneCell_toArray fun v hv => ?_
  simp only [List.mem_cons, List.not_mem_nil, or_false] at hv
  rcases hv with rfl | rfl | rfl | rfl <;> rfl
theorem Try.infoCall8 : (Try.prog.info? 35).map (·.size) = some 4 := by kernel_rfl
def zeroBatch : Batch := ⟨0, [], none, 0, 0, 0⟩

set_option maxHeartbeats 4000000 in
set_option maxRecDepth 100000 in
theorem great8_any (ao : Option Addr) (L : List Batch) (cap : Nat) (w : World) (h : BatchesAt ao L w) (hok : ∀ x ∈ L, x.Rd w) (hl : L.length ≤ 140737488351232) :
    Calls Try.prog 6 #[.slice ao L.length cap] w fun e w' => e = .returned (.bool (great8N L)) ∧ Below w.heap.size w w' := by
  have H := Lib.hid h
  have HOK := Lib.hid hok
  have HG := Shut.mk (show great8N L = (decide (4096 < costB L) || decide (60 < L.length)) from rfl)
  obtain ⟨G, hG⟩ : ∃ G, great8N L = G := ⟨_, rfl⟩
  rw [hG] at HG ⊢
  clear h hok hG
  go_enter Try.func6, Try.ntmps6
  go_wp2_with fail
  go_loopw [3, 10] (fun n i wq => ∃ k : Nat, k ≤ L.length ∧ i = .int .i64 k ∧ n = .int .i64 ((costB (L.take k) : Nat) : Int) ∧ costB (L.take k) ≤ 4096 ∧ Below w.heap.size w wq) (fun _ i _ => L.length - (intOf i).toNat)
  case atStart => exact ⟨0, by omega, rfl, by simp [costB], by simp [costB], Below.refl _ _⟩
  case round =>
    obtain ⟨k, hk, rfl, rfl, hs, hb⟩ := hrel
    have HB := Lib.hid hb
    clear hb
    by_cases hlk : k < L.length
    · have hlk2 : (k : Int) < (L.length : Int) := by omega
      obtain ⟨b, o, rfl, hbb, hr⟩ := H.out.some hlk
      have HR := Lib.hid (range_below hr HB.out hbb)
      have HT := Shut.mk (costB_take hlk)
      have hx := HOK.out _ (List.getElem_mem hlk)
      have HX := Lib.hid hx
      have HLE := Lib.hid (costB_le L (k + 1))
      obtain ⟨x, hxe⟩ : ∃ x, L[k] = x := ⟨_, rfl⟩
      rw [hxe] at HR HT HX
      have HV1 := Lib.hid (batchV_one x)
      have HI4 := Lib.hid (show (Try.prog.info? 35).map (·.size) = some (batchV x).toList.length from Try.infoCall8)
      have HI5 := Lib.hid (show (Try.prog.info? 35).map (·.size) = some (batchV x).size from Try.infoCall8)
      have HB2 := Shut.mk (show (batchV x)[1]? = some (.slice x.lo x.list.length x.lc) from rfl)
      have HZN := Lib.hid (show Cells wr.heap.size 35 (batchV zeroBatch) (wr.alloc (.cells (batchV zeroBatch) 35)) from heap_alloc_new wr _)
      have HZS := Lib.hid (show (batchV zeroBatch).size = (batchV x).size from rfl)
      obtain ⟨V, hV⟩ : ∃ V, batchV x = V := ⟨_, rfl⟩
      rw [hV] at HR HV1 HI4 HI5 HB2 HZS
      obtain ⟨sk, hsk⟩ : ∃ sk, costB (L.take k) = sk := ⟨_, rfl⟩
      rw [hsk] at HT hs ⊢
      have HXS := Lib.hid (HX.out.strs.below HB.out)
      have HXC := Lib.hid HX.out.count
      have HXT := Lib.hid HX.out.long
      obtain ⟨T, hT⟩ : ∃ T, x.list = T := ⟨_, rfl⟩
      obtain ⟨lo, hlo⟩ : ∃ lo, x.lo = lo := ⟨_, rfl⟩
      obtain ⟨lc, hlc⟩ : ∃ lc, x.lc = lc := ⟨_, rfl⟩
      rw [hT] at HT HXS HXC HXT HB2
      rw [hlo] at HXS HB2
      rw [hlc] at HB2
      clear hr hbb hx hxe hV hsk hT hlo hlc HX
      go_wp2_with (first
        | (refine wpList_load_mid rfl 35 _ rfl b (o + k * 4) rfl V.toList _ HR.out Try.underlying35 rfl HI4.out ?_)
        | (refine wpList_store_cells rfl 35 _ _ rfl rfl wr.heap.size _ V 35 rfl rfl HZN.out HI5.out HZS.out HV1.out ?_))
      intro w2 hc2 hb2
      have hb22 : Below wr.heap.size wr w2 := But.toBelow ((Below.refl _ _).alloc (Nat.le_refl _) (.cells (batchV zeroBatch) 35)) hb2.out (Nat.le_refl _) (by simp)
      have HBW := Lib.hid (HB.out.trans (hb22.mono HB.out.size))
      have HS2 := Lib.hid (HXS.out.below hb22)
      have c2 : w2.cell? ⟨wr.heap.size, 1, none⟩ = some (.slice lo T.length lc) := by rw [hc2.out.at 1, HB2.out]
      clear hc2 hb2 HR HZN HB hb22 HXS
      go_wp2_with fail
      go_loop [3, 17] (fun n i => ∃ j : Nat, j ≤ T.length ∧ i = .int .i64 j ∧ n = .int .i64 ((sk + costT (T.take j) : Nat) : Int) ∧ sk + costT (T.take j) ≤ 4096) (fun _ i => T.length - (intOf i).toNat)
      case atStart => exact ⟨0, by omega, rfl, by simp [costT], by simp [costT]; exact hs⟩
      case round =>
        obtain ⟨j, hj, rfl, rfl, hq⟩ := hrel
        have hTc := HXC.out
        by_cases hjl : j < T.length
        · have hjl2 : (j : Int) < (T.length : Int) := by omega
          have hlt := HXT.out _ (List.getElem_mem hjl)
          have HCT := Shut.mk (costT_take hjl)
          have HCL := Lib.hid (costT_le T (j + 1))
          obtain ⟨b', o', rfl, hb', hcell⟩ : ∃ b' o', lo = some ⟨b', o', none⟩ ∧ b' < w2.heap.size ∧ ∀ j (h : j < T.length), w2.cell? ⟨b', o' + j, none⟩ = some (.string ⟨(T[j]).toArray⟩) := by
            rcases HS2.out with h | h
            · rw [h] at hjl; cases hjl
            · exact h
          have cj := hcell j hjl
          obtain ⟨t, ht⟩ : ∃ t, T[j] = t := ⟨_, rfl⟩
          rw [ht] at cj hlt HCT
          obtain ⟨cq, hcq⟩ : ∃ cq, costT (T.take j) = cq := ⟨_, rfl⟩
          rw [hcq] at HCT hq ⊢
          clear ht hcell hcq
          by_cases hgt : 4096 < sk + cq + (2 + t.length)
          · have hgt2 : (4096 : Int) < ((sk + cq : Nat) : Int) + (2 + (t.length : Int)) := by omega
            have hgt3 : (4096 : Int) < (sk : Int) + (cq : Int) + (2 + (t.length : Int)) := by omega
            go_wp2_with fail
            go_ret
            exact ⟨by rw [HG.out, decide_eq_true (show 4096 < costB L by have := HLE.out; have := HT.out; have := HCL.out; have := HCT.out; omega)]; rfl, HBW.out⟩
          · have hgt2 : ¬ (4096 : Int) < ((sk + cq : Nat) : Int) + (2 + (t.length : Int)) := by omega
            have hgt3 : ¬ (4096 : Int) < (sk : Int) + (cq : Int) + (2 + (t.length : Int)) := by omega
            go_wp2_with fail
            exact ⟨⟨j + 1, by omega, by go_num, by rw [HCT.out]; congr 1; omega, by rw [HCT.out]; omega⟩, by simp [intOf]; omega⟩
        · obtain rfl : j = T.length := by omega
          have hnw : ¬ ((T.length : Nat) : Int) < ((T.length : Nat) : Int) := by omega
          rw [List.take_length] at hq ⊢
          go_wp2_with fail
          exact ⟨⟨k + 1, by omega, by go_num, by rw [HT.out], by rw [HT.out]; exact hq, HBW.out⟩, by simp [intOf]; omega⟩
    · obtain rfl : k = L.length := by omega
      have hnw : ¬ ((L.length : Nat) : Int) < ((L.length : Nat) : Int) := by omega
      rw [List.take_length] at hs ⊢
      have HGF := Shut.mk (show decide (60 < L.length) = G by rw [HG.out, decide_eq_false (show ¬ 4096 < costB L by omega)]; simp)
      obtain ⟨n, hn⟩ : ∃ n, L.length = n := ⟨_, rfl⟩
      rw [hn] at HGF hnw hl ⊢
      have hgf := HGF.out
      cases G with
      | true =>
        have h100 : (60 : Int) < (n : Int) := by have := of_decide_eq_true hgf; omega
        go_wp2_with fail
        go_ret
        exact ⟨rfl, HB.out⟩
      | false =>
        have h100 : ¬ (60 : Int) < (n : Int) := by have := of_decide_eq_false hgf; omega
        go_wp2_with fail
        go_ret
        exact ⟨rfl, HB.out⟩
end Go.Proofs.Ythnagnjcbgcnfaa
