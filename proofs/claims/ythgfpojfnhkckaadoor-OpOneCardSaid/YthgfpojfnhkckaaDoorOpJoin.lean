/-
  The developers' joined.
-/
import Derived.Test.YthgfpojfnhkckaaDoorOpTxt
import Derived.Test.YthgfpojfnhkckaaDoorFlat
namespace Go.Proofs.YthgfpojfnhkckaaDoor
open Go.RowKit Go.BigFrame

/-- The numbers of the first names. -/
def joinN (L : List (List Nat)) (k : Nat) : List Nat := (L.take k).flatten
theorem joinN_len {L : List (List Nat)} (h : ∀ p ∈ L, IdOk p) {k : Nat} (hk : k ≤ L.length) : (joinN L k).length = 32 * k := by
  rw [joinN, flat_len (K := 32) (fun x hx => (h x (List.mem_of_mem_take hx)).1), List.length_take]
  omega
theorem joinN_lt {L : List (List Nat)} (h : ∀ p ∈ L, IdOk p) (k : Nat) : ∀ y ∈ joinN L k, y < 256 := fun y hy => by
  obtain ⟨p, hp, hyp⟩ := List.mem_flatten.1 hy
  exact (h p (List.mem_of_mem_take hp)).2 y hyp
theorem joinN_next {L : List (List Nat)} {k : Nat} (hk : k < L.length) : joinN L (k + 1) = joinN L k ++ L.getD k [] := by
  rw [joinN, joinN, List.take_succ_eq_append_getElem hk, List.flatten_append, List.getD_eq_getElem?_getD, List.getElem?_eq_getElem hk]
  simp
theorem joinN_txt (L : List (List Nat)) : txt (joinN L L.length) = predsB L := by
  rw [joinN, List.take_length, predsB, txt, List.map_flatten]
  rfl
set_option maxHeartbeats 4000000 in
set_option maxRecDepth 100000 in
theorem dev_joined (L : List (List Nat)) (pa : Option Addr) (pc : Nat) (w : World) (hL : ∀ p ∈ L, IdOk p) (hp : IAt pa L w) (hn : L.length ≤ 1000000) :
    Calls Tryd.prog 21 #[.slice pa L.length pc] w fun e w' => e = .returned (.string ⟨(predsB L).toArray⟩) ∧ Below w.heap.size w w' := by
  obtain ⟨i0, hi2, hz0, hz1, hz2⟩ := info_parts Tryd.infoU8
  have HY := Lib.hid hi2
  have HY0 := Lib.hid hz0
  have HY1 := Lib.hid hz1
  have HY2 := Lib.hid hz2
  have HP := Lib.hid hp
  have HO := Lib.hid hL
  obtain ⟨n, hnn⟩ : ∃ n, L.length = n := ⟨_, rfl⟩
  have HNN := Shut.mk hnn
  rw [hnn] at hn ⊢
  clear hnn hp hL hi2 hz0 hz1 hz2
  have HR0 := Lib.hid (show ∀ k, k ≤ n → (joinN L k).length = 32 * k from fun k hk => joinN_len HO.out (by rw [HNN.out]; exact hk))
  go_enter Tryd.func21, Tryd.ntmps21
  go_wp2_with (at_make; refine wpList_make_own _ rfl _ _ 41 rfl w.heap.size 5 i0 (.int .u8 0) 1 Tryd.underlying41 HY.out HY0.out HY1.out .i64 .i64 _ (32 * n) rfl rfl (by first | rfl | omega | (go_num)) (by rw [HY2.out]; omega) (by unfold maxLen; omega) (Nat.le_refl _) ?_)
  intro w2 ho hgrow
  have hb2 : Below w.heap.size w w2 := (Below.refl w.heap.size w).grown hgrow (Nat.le_refl _) (by intro g hg; cases hg)
  have HOW := Lib.hid (show OwnN w.heap.size 5 .u8 (.slice (some ⟨w.heap.size, 0, none⟩) 0 (32 * n)) [] w2 from ho)
  have HB2 := Lib.hid hb2
  clear ho hgrow hb2
  go_wp2_with fail
  go_loopw [3, 12] (fun v i wr => ∃ k : Nat, k ≤ n ∧ i = .int .i64 k ∧ OwnN w.heap.size 5 .u8 v (joinN L k) wr ∧ Below w.heap.size w wr) (fun _ i _ => n - (intOf i).toNat)
  case atStart => exact ⟨0, Nat.zero_le _, rfl, HOW.out, HB2.out⟩
  case round =>
    clear HOW HB2
    obtain ⟨k, hk, rfl, ho, hb⟩ := hrel
    obtain ⟨ao, cp, rfl⟩ := ho.form
    have HLK := Shut.mk (HR0.out k hk)
    have HOW := Lib.hid ho
    have HB := Lib.hid hb
    have HW := Lib.hid hb.size
    have HPW := Lib.hid (HP.out.below hb)
    clear ho hb
    by_cases hlt : k < n
    · obtain ⟨b, ob, rfl, hbl⟩ := HPW.out.some (by rw [HNN.out]; omega)
      have g1 := HPW.out.get (i := k) (by rw [HNN.out]; omega)
      have i1 := Ids.getD HO.out (i := k) (by rw [HNN.out]; omega)
      have HNX := Shut.mk (show joinN L (k + 1) = joinN L k ++ L.getD k [] from joinN_next (by rw [HNN.out]; exact hlt))
      obtain ⟨x, hx⟩ : ∃ x, L.getD k [] = x := ⟨_, rfl⟩
      obtain ⟨R, hR⟩ : ∃ R, joinN L k = R := ⟨_, rfl⟩
      rw [hx] at g1 i1 HNX
      rw [hR] at HOW HLK HNX ⊢
      have HG1 := Lib.hid g1
      have HS1 := Lib.hid (show (Tryd.prog.info? 25).map (·.size) = some x.length by rw [i1.1]; exact Tryd.sizeI)
      have HL2 := Lib.hid (show (List.replicate 32 0).length = x.length by rw [i1.1]; rfl)
      have HXL := Shut.mk i1.1
      have HAP := Lib.hid (show ∀ g, (Value.slice ao R.length cp).ownBlock = some g → wr.heap.size ≠ g from fun g hg e => by have := (World.ownsRow.lt HOW.out g hg).2; omega)
      have HOA := Lib.hid (fun o => HOW.out.alloc o)
      clear hx hR g1 i1
      go_wp2_with (first
        | (refine wpList_load_id rfl 25 _ rfl b (ob + k * 32) x _ rfl HG1.out Tryd.underlying25 rfl HS1.out ?_)
        | (refine wpList_store_nums rfl 25 _ _ rfl rfl wr.heap.size .u8 (List.replicate 32 0) x 25 rfl rfl (heap_alloc_new wr _) HS1.out HL2.out ?_))
      intro w5 hc' hb'
      have HX5 := Lib.hid (show Blk wr.heap.size 25 .u8 x w5 from hc'.out)
      have HB5 := Lib.hid (show Below w.heap.size w w5 from But.toBelow (HB.out.alloc HW.out _) hb'.out HW.out (Nat.le_trans HW.out (by rw [World.size_alloc]; exact Nat.le_succ _)))
      have HO5 := Lib.hid ((HOA.out _).but hb'.out HAP.out)
      have HLA := Lib.hid (show R.length + x.length ≤ maxLen by rw [HLK.out, HXL.out]; unfold maxLen; omega)
      have HLB := Lib.hid (show (R.length + x.length) * 1 ≤ 140737488355328 by rw [HLK.out, HXL.out]; omega)
      clear hc' hb' HOW HB HOA HL2
      go_wp2_with (refine wpList_append_nums rfl (.tmp 16) (.tmp 17) 41 5 rfl w.heap.size .u8 1 Tryd.underlying41 Tryd.infoU8 (.slice ao R.length cp) R x ⟨wr.heap.size, 0, none⟩ 32 32 HXL.out.symm rfl HO5.out rfl (blk_news HX5.out) HLA.out HLB.out HB5.out.size ?_)
      intro v6 w6 ho6 hb6
      have HB6 := Lib.hid (show Below w.heap.size w w6 from HB5.out.trans hb6.out)
      clear hb6
      go_wp2_with fail
      exact ⟨⟨k + 1, by omega, by go_num, by rw [HNX.out]; exact ho6.out, HB6.out⟩, by simp [intOf]; omega⟩
    · obtain rfl : k = n := by omega
      have hat := HOW.out.at
      have hconv := fun ql => conv_in (P := Tryd.prog) (src := 41) (dst := 9) (c := cp) (ao := ao) (b := predsB L) (w := ql) Tryd.underlying41 Tryd.underlying5 Tryd.underlying9
      have e : byteNs (predsB L) = joinN L k := by rw [← joinN_txt, HNN.out, byteNs_txt (joinN_lt HO.out k)]
      have e2 : (predsB L).length = (joinN L k).length := by rw [← e, byteNs_len]
      rw [e, e2] at hconv
      have hconv := hconv wr hat
      obtain ⟨R, hR⟩ : ∃ R, joinN L k = R := ⟨_, rfl⟩
      rw [hR] at hconv ⊢
      clear hat e e2 hR
      go_wp2_with fail
      go_ret
      exact ⟨rfl, HB.out⟩
end Go.Proofs.YthgfpojfnhkckaaDoor
