/-
  The developers' Node, Count, Sign.
-/
import Derived.Test.YtcjjhddppcmgoaaDoorKeysNew
import Derived.Test.YtcjjhddppcmgoaaDoorKeysDig
import Derived.Test.YtcjjhddppcmgoaaDoorOwnT
namespace Go.Proofs.YtcjjhddppcmgoaaDoor
open Go.RowKit Go.BigFrame

theorem dev_count (v : Value) (seed : List UInt8) (h : Nat) (w : World) (k : KeysIs v seed h w) :
    Calls Tryd.prog 11 #[v] w fun e w' => e = .returned (.int .i64 ((2 ^ h : Nat) : Int)) ∧ Below w.heap.size w w' := by
  obtain ⟨g, ao, cap, rfl, hc, he⟩ := k.lie
  have c1 := keys_leaves hc
  clear he hc k
  generalize 2 ^ h = N at *
  go_enter Tryd.func11, Tryd.ntmps11
  go_wp2_with fail
  go_ret
  exact ⟨rfl, Below.refl _ _⟩
theorem dev_count_nil (w : World) :
    Calls Tryd.prog 11 #[.pointer none] w fun e w' => e = .returned (.int .i64 0) ∧ Below w.heap.size w w' := by
  go_enter Tryd.func11, Tryd.ntmps11
  go_wp2_with fail
  go_ret
  exact ⟨rfl, Below.refl _ _⟩
theorem Tryd.infoNode6 : (Tryd.prog.info? 33).map (·.size) = some 17 := by kernel_rfl
theorem nodeV_size (r : List Nat) (h : Int) (hr : r.length = 16) : (nodeV r h).size = 17 := by rw [nodeV, List.size_toArray, List.length_append, nums_len, hr]; rfl
theorem nodeV_one (r : List Nat) (h : Int) : (nodeV r h).all (·.oneCell') = true := by
  rw [nodeV]
  refine all_oneCell_toArray fun v hv => ?_
  rcases List.mem_append.1 hv with hv | hv
  · exact nums_one _ _ v hv
  · obtain rfl := List.mem_singleton.1 hv
    rfl

theorem wpList_build_node0 {ops : Array Oper} {rest : List Oper} {o : Oper} {a : Act} {w : World} {Q : Exit → Act → World → Prop} (hg : o.guard = none) (ho : o.op = .build 33 #[])
    (hk : wpList Tryd.prog ops Q rest (a.put o.dst (.agg (nodeV (List.replicate 16 0) 0))) w) : wpList Tryd.prog ops Q (o :: rest) a w := by
  refine wpList_plain hg fun K hK => ?_
  have hb := run_build (P := Tryd.prog) w 33 #[] (nodeV (List.replicate 16 0) 0) (by rw [show (#[] : Array (Nat × Value)).toList = [] from rfl, node_fill]; rfl)
  unfold Oper.wp execOp
  simp only [ho, List.map_toArray, List.map_nil, Sem.run_bind, hb, Result.andThen_ok]
  exact hK _ _ hk

set_option maxHeartbeats 1000000 in
set_option maxRecDepth 100000 in
theorem dev_node_nil (w : World) :
    Calls Tryd.prog 12 #[.pointer none] w fun e w' => e = .returned (.agg (nodeV (List.replicate 16 0) 0)) ∧ Below w.heap.size w w' := by
  have HIN := Lib.hid (show (Tryd.prog.info? 33).map (·.size) = some (nodeV (List.replicate 16 0) 0).size by rw [nodeV_size _ _ rfl]; exact Tryd.infoNode6)
  have HON := Lib.hid (nodeV_one (List.replicate 16 0) 0)
  have HX := Lib.hid (show Cells w.heap.size 33 (nodeV (List.replicate 16 0) 0) (w.alloc (.cells (nodeV (List.replicate 16 0) 0) 33)) from heap_alloc_new w _)
  go_enter Tryd.func12, Tryd.ntmps12
  go_wp2_with (first
    | (refine wpList_build_node0 rfl rfl ?_)
    | (refine wpList_store_cells rfl 33 _ _ rfl rfl w.heap.size _ (nodeV (List.replicate 16 0) 0) 33 rfl rfl HX.out HIN.out rfl HON.out ?_))
  intro w2 hc2 hb2
  have HC := Lib.hid hc2.out
  have HB := Lib.hid (But.toBelow ((Below.refl w.heap.size w).alloc (Nat.le_refl _) (.cells (nodeV (List.replicate 16 0) 0) 33)) hb2.out (Nat.le_refl _) (by simp))
  clear hc2 hb2
  go_wp2_with fail
  exact bodyPost_ret (results_cell_row rfl _ _ w.heap.size 33 _ (0, 0) _ rfl HC.out Tryd.underlying33 rfl HIN.out) rfl ⟨rfl, HB.out⟩

set_option maxHeartbeats 1000000 in
set_option maxRecDepth 100000 in
theorem dev_node (v : Value) (seed : List UInt8) (h : Nat) (w : World) (k : KeysIs v seed h w) :
    Calls Tryd.prog 12 #[v] w fun e w' => e = .returned (.agg (nodeV (rootK seed h) h)) ∧ Below w.heap.size w w' := by
  obtain ⟨g, ao, cap, rfl, hc, he⟩ := k.lie
  have hr := (rootK_ok seed h).1
  generalize rootK seed h = R at *
  have h0 : Below w.heap.size w (w.alloc (.cells (nodeV (List.replicate 16 0) 0) 33)) := (Below.refl _ _).alloc (Nat.le_refl _) _
  have HX := Lib.hid (show Cells w.heap.size 33 (nodeV (List.replicate 16 0) 0) (w.alloc (.cells (nodeV (List.replicate 16 0) 0) 33)) from heap_alloc_new w _)
  have HR := Lib.hid (keys_node (hc.below h0))
  have hs := nodeV_size R (h : Int) hr
  have HIL := Lib.hid (show (Tryd.prog.info? 33).map (·.size) = some (nodeV R h).toList.length by rw [Array.length_toList, hs]; exact Tryd.infoNode6)
  have HIN := Lib.hid (show (Tryd.prog.info? 33).map (·.size) = some (nodeV R h).size by rw [hs]; exact Tryd.infoNode6)
  have HON := Lib.hid (nodeV_one R h)
  have HLN := Lib.hid (show (nodeV (List.replicate 16 0) 0).size = (nodeV R h).size by rw [hs]; rfl)
  have HV := Shut.mk (show (nodeV R h).toList.toArray = nodeV R h from rfl)
  clear hc he k h0 hs hr
  obtain ⟨V, hV⟩ : ∃ V, nodeV R (h : Int) = V := ⟨_, rfl⟩
  rw [hV] at HR HIL HIN HON HLN HV ⊢
  clear hV
  go_enter Tryd.func12, Tryd.ntmps12
  go_wp2_with (first
    | (refine wpList_load_mid rfl 33 _ rfl g 2 rfl V.toList _ HR.out Tryd.underlying33 rfl HIL.out ?_)
    | (refine wpList_store_cells rfl 33 _ _ rfl rfl w.heap.size _ V 33 rfl rfl HX.out HIN.out HLN.out HON.out ?_))
  intro w2 hc2 hb2
  have HC := Lib.hid hc2.out
  have HB := Lib.hid (But.toBelow ((Below.refl w.heap.size w).alloc (Nat.le_refl _) (.cells (nodeV (List.replicate 16 0) 0) 33)) hb2.out (Nat.le_refl _) (by simp))
  clear hc2 hb2
  go_wp2_with fail
  exact bodyPost_ret (results_cell_row rfl _ _ w.heap.size 33 _ (0, 0) _ rfl HC.out Tryd.underlying33 rfl HIN.out) rfl ⟨rfl, HB.out⟩

set_option maxHeartbeats 1000000 in
theorem dev_sign_nil (i : Int) (t : List UInt8) (w : World) :
    Calls Tryd.prog 10 #[.pointer none, .int .i64 i, .string ⟨t.toArray⟩] w fun e w' => e = .returned (.tuple #[.string ⟨#[]⟩, .int .i64 2]) ∧ Below w.heap.size w w' := by
  go_enter Tryd.func10, Tryd.ntmps10
  go_wp2_with fail
  go_ret2
  exact ⟨rfl, Below.refl _ _⟩

set_option maxHeartbeats 1000000 in
set_option maxRecDepth 100000 in
theorem dev_sign_spent (v : Value) (seed : List UInt8) (h : Nat) (i : Int) (t : List UInt8) (w : World) (k : KeysIs v seed h w) (hi : i < 0 ∨ ((2 ^ h : Nat) : Int) ≤ i) :
    Calls Tryd.prog 10 #[v, .int .i64 i, .string ⟨t.toArray⟩] w fun e w' => e = .returned (.tuple #[.string ⟨#[]⟩, .int .i64 8]) ∧ Below w.heap.size w w' := by
  obtain ⟨g, ao, cap, rfl, hc, he⟩ := k.lie
  have c1 := keys_leaves hc
  have hN := two_le k.high
  generalize 2 ^ h = N at *
  have HP := Lib.hid (fun w => dev_path_not N i ao cap w (by omega) (.inr hi))
  clear hc he k hi
  go_enter Tryd.func10, Tryd.ntmps10
  go_wp2_with fail
  refine (HP.out w).mono ?_
  rintro e w2 ⟨rfl, hb⟩
  have HB := Lib.hid hb
  clear hb
  go_wp2_with fail
  go_ret2
  exact ⟨rfl, HB.out⟩
end Go.Proofs.YtcjjhddppcmgoaaDoor
