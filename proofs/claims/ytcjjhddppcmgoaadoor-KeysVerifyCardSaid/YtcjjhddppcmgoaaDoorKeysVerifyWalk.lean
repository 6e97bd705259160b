/-
  The walk of the law KeysVerify.
-/
import Derived.Test.YtcjjhddppcmgoaaDoorAlive6
import Derived.Test.YtcjjhddppcmgoaaDoorNode
namespace Go.Proofs.YtcjjhddppcmgoaaDoor.keysVerify
open Go.RowKit Go.BigFrame

set_option maxHeartbeats 1000000 in
set_option maxRecDepth 100000 in
theorem walk (w : World) (hk : KAt w) (r : List Nat) (hr : r.length = 16) (lr : ∀ y ∈ r, y < 256) (h : Int) (wh : (Lit.int .i64 h).wf = true) (i : Int) (wi : (Lit.int .i64 i).wf = true) (t : List UInt8) (_ht : t.length ≤ 140737488351232) (s : List UInt8) (_hs : s.length ≤ 140737488351232) :
    Calls Tryd.prog 5 #[.agg (nums .u8 r).toArray, .int .i64 h, .int .i64 i, .string ⟨t.toArray⟩, .string ⟨s.toArray⟩] w fun e w' => e = .returned (.bool true) ∧ Below w.heap.size w w' := by
  have HK := Lib.hid hk
  have BH := Lib.hid (bounds_i64 wh)
  have BI := Lib.hid (bounds_i64 wi)
  have HR := Lib.hid hr
  have LR := Lib.hid lr
  clear hk wh wi hr lr
  go_enter Tryd.func5, Tryd.ntmps5
  go_upto_region 1 with (fail)
  obtain ⟨w1, hw1⟩ : ∃ x', x' = w.alloc (.cells (nums .u8 r).toArray 30) := ⟨_, rfl⟩
  rw [← hw1]
  have hb1 : Below w.heap.size w w1 := by rw [hw1]; exact (Below.refl _ _).alloc (Nat.le_refl _) _
  have HR1 := Lib.hid (show Blk w.heap.size 30 .u8 r w1 by rw [hw1]; exact heap_alloc_new w _)
  have HB1 := Lib.hid hb1
  have HK1 := Lib.hid (HK.out.below hb1)
  have HI := Lib.hid (show (Tryd.prog.info? 30).map (·.size) = some r.length by rw [HR.out]; kernel_rfl)
  obtain ⟨gr, hgr⟩ : ∃ g, g = w.heap.size := ⟨_, rfl⟩
  rw [← hgr] at HR1 ⊢
  clear hb1 hw1 HK hgr
  go_wp2_with fail
  refine (alive6_any w1 HK1.out).mono ?_
  rintro e w2 ⟨rfl, hb2⟩
  have HR2 := Lib.hid (HR1.out.below hb2)
  have HB2 := Lib.hid (HB1.out.trans (hb2.mono HB1.out.size))
  have HK2 := Lib.hid (HK1.out.below hb2)
  clear hb2 HR1 HB1 HK1
  by_cases c1 : 512 < t.length
  · have c1' : (512 : Int) < t.length := by omega
    go_wp2_with fail
    go_ret
    exact ⟨rfl, HB2.out⟩
  have c1' : ¬ (512 : Int) < t.length := by omega
  by_cases c2 : 1024 < s.length
  · have c2' : (1024 : Int) < s.length := by omega
    go_wp2_with fail
    go_ret
    exact ⟨rfl, HB2.out⟩
  have c2' : ¬ (1024 : Int) < s.length := by omega
  have HT := Lib.hid (show t.length ≤ 1000000 by omega)
  have HS := Lib.hid (show s.length ≤ 1000000 by omega)
  have hb3 : Below w2.heap.size w2 (w2.alloc (.cells (nodeV (List.replicate 16 0) 0) 33)) := (Below.refl _ _).alloc (Nat.le_refl _) _
  have HX := Lib.hid (show Cells w2.heap.size 33 (nodeV (List.replicate 16 0) 0) (w2.alloc (.cells (nodeV (List.replicate 16 0) 0) 33)) from heap_alloc_new w2 _)
  have HZ := Lib.hid (show (nodeV r h).size = 17 by rw [nodeV, List.size_toArray, List.length_append, nums_len, HR.out]; rfl)
  have HIN := Lib.hid (show (Tryd.prog.info? 33).map (·.size) = some (nodeV r h).size by rw [HZ.out]; kernel_rfl)
  have HLN := Lib.hid (show (nodeV (List.replicate 16 0) 0).size = (nodeV r h).size by rw [HZ.out]; rfl)
  have HON := Lib.hid (show (nodeV r h).all (·.oneCell') = true from all_oneCell_toArray (fun u hu => by
    rcases List.mem_append.1 hu with hu | hu
    · exact nums_one _ _ u hu
    · obtain rfl := List.mem_singleton.1 hu; rfl))
  go_wp2_with (first
    | (refine wpList_load_nums rfl 30 _ rfl gr .u8 _ 30 _ rfl HR2.out Tryd.underlying30 rfl HI.out ?_)
    | (refine wpList_build_node rfl (.tmp 22) (.tmp 23) rfl r h rfl rfl HR.out ?_)
    | (refine wpList_store_cells rfl 33 _ _ rfl rfl w2.heap.size _ (nodeV r h) 33 rfl rfl HX.out HIN.out HLN.out HON.out ?_))
  intro w5 hc hb
  have HX5 := Lib.hid (show Cells w2.heap.size 33 (nodeV r h) w5 from hc.out)
  have hb5 : Below w2.heap.size w2 w5 := But.toBelow hb3 hb.out (Nat.le_refl _) (by simp)
  have HB5 := Lib.hid (HB2.out.trans (hb5.mono HB2.out.size))
  have HK5 := Lib.hid (HK2.out.below hb5)
  obtain ⟨gx, hgx⟩ : ∃ g, g = w2.heap.size := ⟨_, rfl⟩
  rw [← hgx] at HX5 ⊢
  clear hc hb hb3 hb5 HX HB2 HK2 HR2 hgx HLN HON
  have HD := Lib.hid (fun w hk => dev_verify6 r h i t s w HR.out LR.out BH.out.1 BH.out.2 BI.out.1 BI.out.2 HT.out HS.out hk)
  have HF := Lib.hid (fun w => ref_verify6 r h i t s w HR.out LR.out BH.out.1 BH.out.2 BI.out.1 BI.out.2 HT.out HS.out)
  obtain ⟨V, hV⟩ : ∃ V, verK r h i t s = V := ⟨_, rfl⟩
  rw [hV] at HD HF
  have hVV : (V == V) = true := beq_self_eq_true _
  obtain ⟨N, hN⟩ : ∃ N, nodeV r h = N := ⟨_, rfl⟩
  rw [hN] at HD HF HX5 HIN
  clear hV hN HZ
  go_upto_region 6 with (fail)
  refine wp_region_class (fun w' => SS w5 w') (by kernel_rfl) (by kernel_rfl) (SS.start HK5.out) ?_
  repeat (first
    | (go_big_quiet_want; refine quiet_load_cells 33 _ rfl gx N 33 _ rfl (fun w' h => HX5.out.below h.1) Tryd.underlying33 rfl HIN.out ?_; go_big_quiet_on; simp only [Act.put, List.setIfInBounds_toArray, List.set_cons_zero, List.set_cons_succ])
    | go_big_quiet_step ((intro hs'; first
        | rfl
        | (go_at_call 20; exact (HD.out _ hs'.2).mono fun e w' h => ⟨h.1, hs'.next h.2⟩)
        | (go_at_call 21; exact (HF.out _).mono fun e w' h => ⟨h.1, hs'.next h.2⟩))))
  refine wpQuiet_nil ?_
  intro w9 hs9
  have HB9 := Lib.hid (HB5.out.trans (hs9.1.mono HB5.out.size))
  clear hs9
  go_wp2_with fail
  go_ret
  exact ⟨rfl, HB9.out⟩
end Go.Proofs.YtcjjhddppcmgoaaDoor.keysVerify
