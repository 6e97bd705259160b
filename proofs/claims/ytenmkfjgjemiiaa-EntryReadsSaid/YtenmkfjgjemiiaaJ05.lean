/-
  Joined: The developers' number, received, parted of layer 15. Written by entry/gen/gen_ptd.py.; The developers' parted of layer 15.; The developers' Read of layer 15.; What a law's arguments are: slices of texts, opened.; Rows of structs of K cells: that came in, that lie in a row of the call's own.; Rows of entries.; Rows of texts that were made at once (make([]string, n)), and are filled one by one.; The developers' Texts of layer 15.; Rows of blocks of K cells that were made at once (make([]T, n)), and are filled block by block.; Rows of entries that were made at once, and are filled one by one.; The developers' ReadAll of layer 15.; The developers' Out, Outs of layer 15.; What the laws of layer 15 ask first: alive, great.
-/
import Derived.ChangeOld
import Derived.Deep.Slices
import Derived.OpenShut
import Derived.ProofKit
import Derived.ShutString
import Derived.SizedLaws
import Derived.SliceStrings
import Derived.Test.YtenmkfjgjemiiaaRows
import Derived.Test.YtenmkfjgjemiiaaJ01
import Derived.Test.YtenmkfjgjemiiaaJ02
import Derived.Test.YtenmkfjgjemiiaaJ03
import Derived.Test.YtenmkfjgjemiiaaJ04
namespace Go.Proofs.Ytenmkfjgjemiiaa
open Go.RowKit Go.BigFrame
theorem strsGD {ao : Option Addr} {l : List (List UInt8)} {w : World} (h : StrsAt ao l w) (h0 : l ≠ []) : ∃ g o, ao = some ⟨g, o, none⟩ ∧ g < w.heap.size ∧ ∀ i (hi : i < l.length), w.cell? ⟨g, o + i, none⟩ = some (.string ⟨l[i].toArray⟩) := by
  rcases h with h | ⟨b, o, ha, hb, hc⟩
  · exact absurd h h0
  · exact ⟨b, o, ha, hb, hc⟩
def recvE (f n m : Nat) (r : List Nat) (p y : List UInt8) : EntN := ⟨2, noD, f, n, r, m, p, y⟩
theorem recvE_ok (f n m : Nat) {r : List Nat} (p y : List UInt8) (hr : IdOk r) : (recvE f n m r p y).Ok := ⟨zeroI_ok, hr⟩
theorem built_recv (f n m : Nat) (p y : List UInt8) : Try.prog.built 30 [(0, .int .i64 2), (2, .int .i64 (f : Int)), (3, .int .i64 (n : Int)), (5, .int .i64 (m : Int)), (6, .string ⟨p.toArray⟩), (7, .string ⟨y.toArray⟩)] = some (entV (recvE f n m zeroI p y)) := by
  rw [ent_fill, fill_kind, fill_src _ _ ⟨zeroI_ok, zeroI_ok⟩, fill_seq _ _ ⟨zeroI_ok, zeroI_ok⟩, fill_mask _ _ ⟨zeroI_ok, zeroI_ok⟩, fill_pay _ _ ⟨zeroI_ok, zeroI_ok⟩, fill_sig _ _ ⟨zeroI_ok, zeroI_ok⟩, fill_end]
  rfl
theorem prev_lay (f n m : Nat) (p y r : List UInt8) : layV (entL (recvE f n m zeroI p y)) 38 (nums .u8 (byteNs (r.take 32))) = entL (recvE f n m (refP r) p y) := by
  have hz : nums .u8 zeroI = nums .u8 (zeroI.take r.length) ++ nums .u8 (zeroI.drop r.length) := by rw [nums, nums, nums, ← List.map_append, List.take_append_drop]
  have h := layV_mid (nums .u8 (byteNs (r.take 32))) ([.int .i64 2] ++ (draftL noD ++ [.int .i64 (f : Int), .int .i64 (n : Int)])) (nums .u8 (zeroI.take r.length)) (nums .u8 (zeroI.drop r.length) ++ [.int .i64 (m : Int), .string ⟨p.toArray⟩, .string ⟨y.toArray⟩])
    (by rw [nums_len, nums_len, byteNs_len, List.length_take, List.length_take, zeroI_ok.1]; omega)
  rw [show ([.int .i64 2] ++ (draftL noD ++ [.int .i64 (f : Int), .int .i64 (n : Int)]) : List Value).length = 38 by simp [show (draftL noD).length = 35 from draftL_len (d := noD) zeroI_ok.1]] at h
  rw [show entL (recvE f n m zeroI p y) = ([.int .i64 2] ++ (draftL noD ++ [.int .i64 (f : Int), .int .i64 (n : Int)])) ++ (nums .u8 (zeroI.take r.length) ++ (nums .u8 (zeroI.drop r.length) ++ [.int .i64 (m : Int), .string ⟨p.toArray⟩, .string ⟨y.toArray⟩])) by
    rw [← List.append_assoc (nums .u8 (zeroI.take r.length)), ← hz]
    simp [entL, entT, recvE], h]
  have hr : nums .u8 (refP r) = nums .u8 (byteNs (r.take 32)) ++ nums .u8 (zeroI.drop r.length) := by rw [nums, nums, nums, ← List.map_append]; rfl
  simp [entL, entT, recvE, hr]
set_option maxHeartbeats 4000000 in
set_option maxRecDepth 100000 in
theorem dev_num15 (s : List UInt8) (w : World) (hs : s.length ≤ 262144) :
    Calls Try.prog 49 #[.string ⟨s.toArray⟩] w fun e w' => e = .returned (.int .i64 (openN s : Int)) ∧ Below w.heap.size w w' := by
  have HO := Lib.hid (open_ok s w hs)
  clear hs
  go_enter Try.func49, Try.ntmps49
  go_wp2_with fail
  refine HO.out.mono ?_
  rintro e w1 ⟨rfl, hr, hb⟩
  have HR := Lib.hid hr
  have HB := Lib.hid hb
  clear hr hb HO
  go_wp2_with fail
  refine (rnum_any _ s false w1 HR.out (fun h => by cases h)).mono ?_
  rintro e w2 ⟨rfl, -, hb2⟩
  have HB2 := Lib.hid (hb2.toBelow HB.out (Nat.le_refl _) HB.out.size)
  clear hb2 HR HB
  go_wp2_with fail
  go_ret
  exact ⟨rfl, HB2.out⟩
set_option maxHeartbeats 4000000 in
set_option maxRecDepth 100000 in
theorem dev_received15 (ao : Option Addr) (k f n r m p y : List UInt8) (cq : Nat) (w : World) (hp : StrsAt ao [k, f, n, r, m, p, y] w) (hl : ∀ t ∈ [k, f, n, r, m, p, y], t.length ≤ 262144) :
    Calls Try.prog 51 #[.slice ao 7 cq] w fun e w' => e = .returned (.agg (entV (recvE (openN f) (openN n) (openN m) (refP r) p y))) ∧ Below w.heap.size w w' := by
  obtain ⟨g, og, rfl, hg, hc⟩ := strsGD hp (by simp)
  have HZE := Lib.hid (show (Try.prog.info? 30).bind (·.zero) = some (.agg (entL noE).toArray) by kernel_rfl)
  have HG := Lib.hid hg
  have c1 := hc 1 (by simp)
  have c2 := hc 2 (by simp)
  have c3 := hc 3 (by simp)
  have c4 := hc 4 (by simp)
  have c5 := hc 5 (by simp)
  have c6 := hc 6 (by simp)
  simp only [List.getElem_cons_succ, List.getElem_cons_zero] at c1 c2 c3 c4 c5 c6
  have hx : Cells w.heap.size 30 (entV noE) (w.alloc (.cells (entV noE) 30)) := heap_alloc_new w _
  have hb : Below w.heap.size w (w.alloc (.cells (entV noE) 30)) := (Below.refl _ _).alloc (Nat.le_refl _) _
  have HNF0 := fun w' => dev_num15 f w' (hl f (by simp))
  have HNN0 := fun w' => dev_num15 n w' (hl n (by simp))
  have HNM0 := fun w' => dev_num15 m w' (hl m (by simp))
  obtain ⟨xf, hxf⟩ : ∃ x, openN f = x := ⟨_, rfl⟩
  obtain ⟨xn, hxn⟩ : ∃ x, openN n = x := ⟨_, rfl⟩
  obtain ⟨xm, hxm⟩ : ∃ x, openN m = x := ⟨_, rfl⟩
  rw [hxf] at HNF0 ⊢
  rw [hxn] at HNN0 ⊢
  rw [hxm] at HNM0 ⊢
  have HNF := Lib.hid HNF0
  have HNN := Lib.hid HNN0
  have HNM := Lib.hid HNM0
  clear hp hl hc hxf hxn hxm HNF0 HNN0 HNM0
  go_enter Try.func51, Try.ntmps51
  go_upto_region 1 with (first | (refine wpList_alloc_of rfl 30 rfl (entL noE) HZE.out ?_))
  change Code.wp _ _ _ _ (w.alloc (.cells (entV noE) 30))
  obtain ⟨w1, hw1⟩ : ∃ x, x = w.alloc (.cells (entV noE) 30) := ⟨_, rfl⟩
  rw [← hw1] at hx hb ⊢
  have HX := Lib.hid hx
  have HB := Lib.hid hb
  have HC1 := Lib.hid (fun (w' : World) (b : Below w1.heap.size w1 w') => (b.cell (p := ⟨g, og + 1, none⟩) (Nat.lt_of_lt_of_le hg hb.size)).trans ((hb.cell (p := ⟨g, og + 1, none⟩) hg).trans c1))
  have HC2 := Lib.hid (fun (w' : World) (b : Below w1.heap.size w1 w') => (b.cell (p := ⟨g, og + 2, none⟩) (Nat.lt_of_lt_of_le hg hb.size)).trans ((hb.cell (p := ⟨g, og + 2, none⟩) hg).trans c2))
  have HC3 := Lib.hid (fun (w' : World) (b : Below w1.heap.size w1 w') => (b.cell (p := ⟨g, og + 3, none⟩) (Nat.lt_of_lt_of_le hg hb.size)).trans ((hb.cell (p := ⟨g, og + 3, none⟩) hg).trans c3))
  have HC4 := Lib.hid (fun (w' : World) (b : Below w1.heap.size w1 w') => (b.cell (p := ⟨g, og + 4, none⟩) (Nat.lt_of_lt_of_le hg hb.size)).trans ((hb.cell (p := ⟨g, og + 4, none⟩) hg).trans c4))
  have HC5 := Lib.hid (fun (w' : World) (b : Below w1.heap.size w1 w') => (b.cell (p := ⟨g, og + 5, none⟩) (Nat.lt_of_lt_of_le hg hb.size)).trans ((hb.cell (p := ⟨g, og + 5, none⟩) hg).trans c5))
  have HC6 := Lib.hid (fun (w' : World) (b : Below w1.heap.size w1 w') => (b.cell (p := ⟨g, og + 6, none⟩) (Nat.lt_of_lt_of_le hg hb.size)).trans ((hb.cell (p := ⟨g, og + 6, none⟩) hg).trans c6))
  have HGW := Lib.hid (Nat.lt_of_lt_of_le hg hb.size)
  clear hw1 hx hb hg c1 c2 c3 c4 c5 c6
  have HI1 := Lib.hid (show ∀ w, (Instr.indexAt 61 (.slice (some ⟨g, og, none⟩) 7 cq) (.int .i64 1)).run Try.prog w = .ok (.pointer (some ⟨g, og + 1, none⟩)) w from fun w => by go_simp)
  have HI2 := Lib.hid (show ∀ w, (Instr.indexAt 61 (.slice (some ⟨g, og, none⟩) 7 cq) (.int .i64 2)).run Try.prog w = .ok (.pointer (some ⟨g, og + 2, none⟩)) w from fun w => by go_simp)
  have HI3 := Lib.hid (show ∀ w, (Instr.indexAt 61 (.slice (some ⟨g, og, none⟩) 7 cq) (.int .i64 3)).run Try.prog w = .ok (.pointer (some ⟨g, og + 3, none⟩)) w from fun w => by go_simp)
  have HI4 := Lib.hid (show ∀ w, (Instr.indexAt 61 (.slice (some ⟨g, og, none⟩) 7 cq) (.int .i64 4)).run Try.prog w = .ok (.pointer (some ⟨g, og + 4, none⟩)) w from fun w => by go_simp)
  have HI5 := Lib.hid (show ∀ w, (Instr.indexAt 61 (.slice (some ⟨g, og, none⟩) 7 cq) (.int .i64 5)).run Try.prog w = .ok (.pointer (some ⟨g, og + 5, none⟩)) w from fun w => by go_simp)
  have HI6 := Lib.hid (show ∀ w, (Instr.indexAt 61 (.slice (some ⟨g, og, none⟩) 7 cq) (.int .i64 6)).run Try.prog w = .ok (.pointer (some ⟨g, og + 6, none⟩)) w from fun w => by go_simp)
  have HAL := Lib.hid (show ∀ w : World, (Instr.alloc 30 true (.tuple #[])).run Try.prog w = .ok (.pointer (some ⟨w.heap.size, 0, none⟩)) (w.alloc (.cells (entV noE) 30)) from fun w => by kernel_rfl)
  obtain ⟨d0, hd0⟩ : ∃ d, d = recvE xf xn xm zeroI p y := ⟨_, rfl⟩
  have HDD := Shut.mk hd0
  have HO0 := Lib.hid (show d0.Ok by rw [hd0]; exact recvE_ok _ _ _ _ _ zeroI_ok)
  have HBD := Lib.hid (show ∀ w, (Instr.build 30 ([(0, .int .i64 2), (2, .int .i64 (xf : Int)), (3, .int .i64 (xn : Int)), (5, .int .i64 (xm : Int)), (6, .string ⟨p.toArray⟩), (7, .string ⟨y.toArray⟩)] : List (Nat × Value)).toArray).run Try.prog w = .ok (.agg (entV d0)) w from fun w => by
    have hb := built_recv xf xn xm p y
    rw [← HDD.out] at hb
    exact run_build w 30 _ _ hb)
  have HDZ := Lib.hid (show Below w1.heap.size w1 w1.drew from (Below.refl _ _).drew)
  have HSD := Lib.hid (sizeEV HO0.out)
  have HSZ := Lib.hid (show (entV noE).size = (entV d0).size by rw [entV_size HO0.out]; rfl)
  clear hd0
  refine wp_region_free 20 (fun q V w' => Vals q V [(0, .slice (some ⟨g, og, none⟩) 7 cq), (1, .pointer (some ⟨g, og + 1, none⟩)), (2, .string ⟨f.toArray⟩), (3, .int .i64 (xf : Int)), (4, .slice (some ⟨g, og, none⟩) 7 cq), (5, .pointer (some ⟨g, og + 2, none⟩)), (6, .string ⟨n.toArray⟩), (7, .int .i64 (xn : Int)), (8, .slice (some ⟨g, og, none⟩) 7 cq), (9, .pointer (some ⟨g, og + 4, none⟩)), (10, .string ⟨m.toArray⟩), (11, .int .i64 (xm : Int)), (12, .slice (some ⟨g, og, none⟩) 7 cq), (13, .pointer (some ⟨g, og + 5, none⟩)), (14, .string ⟨p.toArray⟩), (15, .slice (some ⟨g, og, none⟩) 7 cq), (16, .pointer (some ⟨g, og + 6, none⟩)), (17, .string ⟨y.toArray⟩), (18, .agg (entV d0))] ∧ NewC q V w1.heap.size 19 30 (entV noE) w' ∧ Below w1.heap.size w1 w') (fun _ => undef) (by kernel_rfl) (by kernel_rfl) (by kernel_rfl) (by simp only [List.take_succ_cons, List.take_zero, putAll, Act.put, List.setIfInBounds_toArray, List.set_cons_zero, List.set_cons_succ]) ⟨Vals.none, NewC.none, HDZ.out⟩ ?_ ?_
  · simp only [List.take_succ_cons, List.take_zero, putAll, Nat.zero_add, Nat.reduceAdd, Act.put, List.setIfInBounds_toArray, List.set_cons_zero, List.set_cons_succ]
    refine FreeSteps.cons ?_ (FreeSteps.cons ?_ (FreeSteps.cons ?_ (FreeSteps.cons ?_ (FreeSteps.cons ?_ (FreeSteps.cons ?_ (FreeSteps.cons ?_ (FreeSteps.cons ?_ (FreeSteps.cons ?_ (FreeSteps.cons ?_ (FreeSteps.cons ?_ (FreeSteps.cons ?_ (FreeSteps.cons ?_ (FreeSteps.cons ?_ (FreeSteps.cons ?_ (FreeSteps.cons ?_ (FreeSteps.cons ?_ (FreeSteps.cons ?_ (FreeSteps.cons ?_ (FreeSteps.cons ?_ (FreeSteps.nil))))))))))))))))))))
    all_goals (refine FreeStep.fresh rfl ?_; rintro q V wq hr hu ⟨hVs, h19, hb⟩ K hK)
    · exact op_move (.tmp 0) rfl _ rfl (hK _ _ ⟨hVs.set rfl, h19.ne (by decide) (Below.refl _ _), hb⟩)
    · exact op_indexAt 61 (.tmp 4) (.const (.int .i64 1)) rfl _ _ _ (hVs.get 0 (hr { on := 0, ground := .data } (by simp) rfl) rfl) rfl HI1.out (hK _ _ ⟨hVs.set rfl, h19.ne (by decide) (Below.refl _ _), hb⟩)
    · exact op_load_cell 9 (.tmp 5) rfl _ _ (hVs.get 1 (hr { on := 1, ground := .data } (by simp) rfl) rfl) (HC1.out wq hb) Try.isAgg9 (hK _ _ ⟨hVs.set rfl, h19.ne (by decide) (Below.refl _ _), hb⟩)
    · refine op_call Try.func49 rfl rfl rfl [.string ⟨f.toArray⟩] ((congrArg (fun x => [x]) (hVs.get 2 (hr { on := 2, ground := .data } (by simp) rfl) rfl))) (HNF.out wq) ?_
      rintro e w' ⟨rfl, hb'⟩
      exact ⟨_, rfl, (hK _ _ ⟨hVs.set rfl, h19.ne (by decide) hb', hb.trans (hb'.mono hb.size)⟩)⟩
    · exact op_move (.tmp 0) rfl _ rfl (hK _ _ ⟨hVs.set rfl, h19.ne (by decide) (Below.refl _ _), hb⟩)
    · exact op_indexAt 61 (.tmp 8) (.const (.int .i64 2)) rfl _ _ _ (hVs.get 4 (hr { on := 4, ground := .data } (by simp) rfl) rfl) rfl HI2.out (hK _ _ ⟨hVs.set rfl, h19.ne (by decide) (Below.refl _ _), hb⟩)
    · exact op_load_cell 9 (.tmp 9) rfl _ _ (hVs.get 5 (hr { on := 5, ground := .data } (by simp) rfl) rfl) (HC2.out wq hb) Try.isAgg9 (hK _ _ ⟨hVs.set rfl, h19.ne (by decide) (Below.refl _ _), hb⟩)
    · refine op_call Try.func49 rfl rfl rfl [.string ⟨n.toArray⟩] ((congrArg (fun x => [x]) (hVs.get 6 (hr { on := 6, ground := .data } (by simp) rfl) rfl))) (HNN.out wq) ?_
      rintro e w' ⟨rfl, hb'⟩
      exact ⟨_, rfl, (hK _ _ ⟨hVs.set rfl, h19.ne (by decide) hb', hb.trans (hb'.mono hb.size)⟩)⟩
    · exact op_move (.tmp 0) rfl _ rfl (hK _ _ ⟨hVs.set rfl, h19.ne (by decide) (Below.refl _ _), hb⟩)
    · exact op_indexAt 61 (.tmp 12) (.const (.int .i64 4)) rfl _ _ _ (hVs.get 8 (hr { on := 8, ground := .data } (by simp) rfl) rfl) rfl HI4.out (hK _ _ ⟨hVs.set rfl, h19.ne (by decide) (Below.refl _ _), hb⟩)
    · exact op_load_cell 9 (.tmp 13) rfl _ _ (hVs.get 9 (hr { on := 9, ground := .data } (by simp) rfl) rfl) (HC4.out wq hb) Try.isAgg9 (hK _ _ ⟨hVs.set rfl, h19.ne (by decide) (Below.refl _ _), hb⟩)
    · refine op_call Try.func49 rfl rfl rfl [.string ⟨m.toArray⟩] ((congrArg (fun x => [x]) (hVs.get 10 (hr { on := 10, ground := .data } (by simp) rfl) rfl))) (HNM.out wq) ?_
      rintro e w' ⟨rfl, hb'⟩
      exact ⟨_, rfl, (hK _ _ ⟨hVs.set rfl, h19.ne (by decide) hb', hb.trans (hb'.mono hb.size)⟩)⟩
    · exact op_move (.tmp 0) rfl _ rfl (hK _ _ ⟨hVs.set rfl, h19.ne (by decide) (Below.refl _ _), hb⟩)
    · exact op_indexAt 61 (.tmp 16) (.const (.int .i64 5)) rfl _ _ _ (hVs.get 12 (hr { on := 12, ground := .data } (by simp) rfl) rfl) rfl HI5.out (hK _ _ ⟨hVs.set rfl, h19.ne (by decide) (Below.refl _ _), hb⟩)
    · exact op_load_cell 9 (.tmp 17) rfl _ _ (hVs.get 13 (hr { on := 13, ground := .data } (by simp) rfl) rfl) (HC5.out wq hb) Try.isAgg9 (hK _ _ ⟨hVs.set rfl, h19.ne (by decide) (Below.refl _ _), hb⟩)
    · exact op_move (.tmp 0) rfl _ rfl (hK _ _ ⟨hVs.set rfl, h19.ne (by decide) (Below.refl _ _), hb⟩)
    · exact op_indexAt 61 (.tmp 19) (.const (.int .i64 6)) rfl _ _ _ (hVs.get 15 (hr { on := 15, ground := .data } (by simp) rfl) rfl) rfl HI6.out (hK _ _ ⟨hVs.set rfl, h19.ne (by decide) (Below.refl _ _), hb⟩)
    · exact op_load_cell 9 (.tmp 20) rfl _ _ (hVs.get 16 (hr { on := 16, ground := .data } (by simp) rfl) rfl) (HC6.out wq hb) Try.isAgg9 (hK _ _ ⟨hVs.set rfl, h19.ne (by decide) (Below.refl _ _), hb⟩)
    · exact op_build 30 #[(0, .const (.int .i64 2)), (2, .tmp 7), (3, .tmp 11), (5, .tmp 15), (6, .tmp 18), (7, .tmp 21)] rfl [(0, .int .i64 2), (2, .int .i64 (xf : Int)), (3, .int .i64 (xn : Int)), (5, .int .i64 (xm : Int)), (6, .string ⟨p.toArray⟩), (7, .string ⟨y.toArray⟩)] (entV d0) (by
          have v3 := (hVs.get 3 (hr { on := 3, ground := .data } (by simp) rfl) rfl)
          have v7 := (hVs.get 7 (hr { on := 7, ground := .data } (by simp) rfl) rfl)
          have v11 := (hVs.get 11 (hr { on := 11, ground := .data } (by simp) rfl) rfl)
          have v14 := (hVs.get 14 (hr { on := 14, ground := .data } (by simp) rfl) rfl)
          have v17 := (hVs.get 17 (hr { on := 17, ground := .data } (by simp) rfl) rfl)
          rw [List.map_toArray]
          show [((0 : Nat), Value.int .i64 2), (2, V 3), (3, V 7), (5, V 11), (6, V 14), (7, V 17)].toArray = _
          rw [v3, v7, v11, v14, v17]) HBD.out (hK _ _ ⟨hVs.set rfl, h19.ne (by decide) (Below.refl _ _), hb⟩)
    · exact op_alloc 30 rfl (entV noE) HAL.out (hK _ _ ⟨hVs.off rfl, .same hb.size, hb.alloc hb.size _⟩)
  rintro q V wq hall ⟨hVs, h19, hb⟩
  have v0 := hVs.get 0 (hall 0 (by decide)) rfl
  have v1 := hVs.get 1 (hall 1 (by decide)) rfl
  have v2 := hVs.get 2 (hall 2 (by decide)) rfl
  have v3 := hVs.get 3 (hall 3 (by decide)) rfl
  have v4 := hVs.get 4 (hall 4 (by decide)) rfl
  have v5 := hVs.get 5 (hall 5 (by decide)) rfl
  have v6 := hVs.get 6 (hall 6 (by decide)) rfl
  have v7 := hVs.get 7 (hall 7 (by decide)) rfl
  have v8 := hVs.get 8 (hall 8 (by decide)) rfl
  have v9 := hVs.get 9 (hall 9 (by decide)) rfl
  have v10 := hVs.get 10 (hall 10 (by decide)) rfl
  have v11 := hVs.get 11 (hall 11 (by decide)) rfl
  have v12 := hVs.get 12 (hall 12 (by decide)) rfl
  have v13 := hVs.get 13 (hall 13 (by decide)) rfl
  have v14 := hVs.get 14 (hall 14 (by decide)) rfl
  have v15 := hVs.get 15 (hall 15 (by decide)) rfl
  have v16 := hVs.get 16 (hall 16 (by decide)) rfl
  have v17 := hVs.get 17 (hall 17 (by decide)) rfl
  have v18 := hVs.get 18 (hall 18 (by decide)) rfl
  obtain ⟨g19, v19, hg19, hc19⟩ := h19 (hall 19 (by decide))
  simp only [List.take_succ_cons, List.take_zero, List.drop_succ_cons, List.drop_zero, putAll, Nat.zero_add, Nat.reduceAdd, v0, v1, v2, v3, v4, v5, v6, v7, v8, v9, v10, v11, v12, v13, v14, v15, v16, v17, v18, v19, Act.put, List.setIfInBounds_toArray, List.set_cons_zero, List.set_cons_succ]
  clear hVs v0 v1 v2 v3 v4 v5 v6 v7 v8 v9 v10 v11 v12 v13 v14 v15 v16 v17 v18 v19 hall
  have HG12 := Lib.hid hg19
  have HC12 := Lib.hid hc19
  have HB5 := Lib.hid hb
  have HNE := Lib.hid (show w.heap.size ≠ g19 from by have h1 := HX.out.lt; omega)
  clear HI1 HI2 HI4 HI5 HI6 HAL HBD HDZ hg19 hc19 hb HC1 HC2 HC4 HC5 HC6 HNF HNN HNM
  refine wpList_store_cells rfl 30 (.tmp 3) (.tmp 22) rfl rfl g19 _ (entV d0) 30 rfl rfl HC12.out HSD.out HSZ.out (entV_all d0) ?_
  intro w5 hc hb
  have HV := Lib.hid hc.out
  have HX5 := Lib.hid ((HX.out.below HB5.out).but hb.out HNE.out)
  have HBW := Lib.hid (HB.out.trans ((But.toBelow HB5.out hb.out HG12.out HB5.out.size).mono HB.out.size))
  have HGL := Lib.hid (show g < w5.heap.size from Nat.lt_of_lt_of_le HGW.out (Nat.le_trans HB5.out.size hb.out.size))
  have HGN := Lib.hid (show g ≠ g19 from by have h1 := HGW.out; have h2 := HG12.out; omega)
  have HE3 := Lib.hid (show w5.cell? ⟨g, og + 3, none⟩ = some (.string ⟨r.toArray⟩) from (World.cell?_of_block (w := wq) (a := ⟨g, og + 3, none⟩) (hb.out.block g (Nat.lt_of_lt_of_le HGW.out HB5.out.size) HGN.out)).trans (HC3.out wq HB5.out))
  have HWG := Lib.hid (show w1.heap.size ≤ g19 from HG12.out)
  clear hc hb HC12 HB5 HX HSZ HC3 HG12
  obtain ⟨d, hd⟩ : ∃ d, d = recvE xf xn xm (refP r) p y := ⟨_, rfl⟩
  have HDE := Shut.mk hd
  have HOK := Lib.hid (show d.Ok by rw [hd]; exact recvE_ok _ _ _ _ _ (refP_ok r))
  have HSE := Lib.hid (sizeEV HOK.out)
  have HSY := Lib.hid (show (entV noE).size = (entV d).size by rw [entV_size HOK.out]; rfl)
  clear hd
  go_upto_region 2 with (fail)
  have HQ3 := Lib.hid (fun (w' : World) (b : Below w5.heap.size w5 w') => (b.cell (p := ⟨g, og + 3, none⟩) HGL.out).trans HE3.out)
  refine wp_region_class_tail (fun w' => Below w5.heap.size w5 w') 5 (by kernel_rfl) (by kernel_rfl) (Below.refl _ _).drew ?_
  simp only [List.take_succ_cons, List.take_zero, List.drop_succ_cons, List.drop_zero]
  repeat (first
    | (go_big_quiet_want; refine quiet_load_cell 9 _ rfl ⟨g, og + 3, none⟩ _ rfl HQ3.out Try.isAgg9 ?_; go_big_quiet_on; simp only [Act.put, List.setIfInBounds_toArray, List.set_cons_zero, List.set_cons_succ])
    | go_big_quiet_step ((intro hs'; rfl)))
  refine wpQuiet_nil ?_
  intro w6 hs6
  have hv6 := HV.out.below hs6
  have HX6 := Lib.hid (HX5.out.below hs6)
  have HB6 := Lib.hid (HBW.out.trans (hs6.mono HBW.out.size))
  clear hs6 HX5 HBW HI3 HQ3 HE3
  refine wpList_copy_text rfl (.tmp 24) (.tmp 27) 53 9 rfl 5 Try.underlying53 (by kernel_rfl) g19 38 32 32 r rfl rfl (fun j hj => by
    rw [hv6.at, Array.getElem?_eq_getElem (by rw [entV_size HO0.out]; omega)]
    rfl) (fun j _ => hv6.frozen _) ?_
  have hl6 := Cells.lay (nums .u8 (byteNs (r.take 32))) (entL d0) 38 w6 hv6
  rw [show layV (entL d0) 38 (nums .u8 (byteNs (r.take 32))) = entL d by rw [HDD.out, HDE.out]; exact prev_lay _ _ _ _ _ _] at hl6
  have hbt := But.cells (nums .u8 (byteNs (r.take 32))) 38 w6 (But.refl g19 w6)
  obtain ⟨w7, hw7⟩ : ∃ x, x = w6.setCells g19 38 (nums .u8 (byteNs (r.take 32))) := ⟨_, rfl⟩
  rw [← hw7] at hl6 hbt ⊢
  have HV7 := Lib.hid (show Cells g19 30 (entV d) w7 from hl6)
  have HX7 := Lib.hid (HX6.out.but hbt HNE.out)
  have HB7 := Lib.hid (But.toBelow HB6.out hbt (Nat.le_trans HB.out.size HWG.out) HB6.out.size)
  clear hw7 hl6 hbt hv6 HX6 HB6 HV
  simp only [Act.put, List.setIfInBounds_toArray, List.set_cons_zero, List.set_cons_succ]
  go_upto_region 3 with (fail)
  refine wp_region_lit ?_
  refine wpList_load_cells rfl 30 _ rfl g19 (entV d) 30 _ rfl HV7.out Try.underlying30 rfl HSE.out ?_
  simp only [Act.put, List.setIfInBounds_toArray, List.set_cons_zero, List.set_cons_succ]
  refine wpList_store_cells rfl 30 _ _ rfl rfl w.heap.size (entV noE) (entV d) 30 rfl rfl HX7.out HSE.out HSY.out (entV_all d) ?_
  intro w9 hc hb
  have HX9 := Lib.hid hc.out
  have HB9 := Lib.hid (show Below w.heap.size w w9 from But.toBelow HB7.out hb.out (Nat.le_refl _) HB7.out.size)
  clear hc hb HX7 HB7
  go_wp2_with fail
  refine bodyPost_ret (results_cells rfl _ _ w.heap.size (entV d) 30 _ rfl HX9.out Try.underlying30 rfl HSE.out) rfl ?_
  exact ⟨by rw [HDE.out], HB9.out⟩
end Go.Proofs.Ytenmkfjgjemiiaa
namespace Go.Proofs.Ytenmkfjgjemiiaa
open Go.RowKit Go.BigFrame
theorem devC_local {k t : List UInt8} (h : openN k = 1) : devC [k, t] = localE ((readD t).getD noD) := by simp only [devC]; rw [if_pos h]; rfl
theorem devC_send {k m p : List UInt8} (h : openN k = 3) : devC [k, m, p] = outE (openN m) p := by simp only [devC]; rw [if_pos h]; rfl
theorem devC_recv {k f n r m p y : List UInt8} (h : openN k = 2) : devC [k, f, n, r, m, p, y] = recvE (openN f) (openN n) (openN m) (refP r) p y := by simp only [devC]; rw [if_pos h]; rfl
theorem devC_else {k : List UInt8} {l : List (List UInt8)} (h1 : ¬ (openN k = 1 ∧ l.length = 1)) (h2 : ¬ (openN k = 2 ∧ l.length = 6)) (h3 : ¬ (openN k = 3 ∧ l.length = 2)) : devC (k :: l) = noE := by
  match l, h1, h2, h3 with
  | [], _, _, _ => rfl
  | [_], h1, _, _ => simp only [devC]; rw [if_neg (fun e => h1 ⟨e, rfl⟩)]
  | [_, _], _, _, h3 => simp only [devC]; rw [if_neg (fun e => h3 ⟨e, rfl⟩)]
  | [_, _, _], _, _, _ => rfl
  | [_, _, _, _], _, _, _ => rfl
  | [_, _, _, _, _], _, _, _ => rfl
  | [_, _, _, _, _, _], _, h2, _ => simp only [devC]; rw [if_neg (fun e => h2 ⟨e, rfl⟩)]
  | _ :: _ :: _ :: _ :: _ :: _ :: _ :: _, _, _, _ => rfl
set_option maxHeartbeats 4000000 in
set_option maxRecDepth 100000 in
theorem dev_parted15 (ao : Option Addr) (k : List UInt8) (l : List (List UInt8)) (cq : Nat) (w : World) (hp : StrsAt ao (k :: l) w) (hl : ∀ t ∈ k :: l, t.length ≤ 262144) (hn : l.length ≤ 1000000) :
    Calls Try.prog 36 #[.slice ao (k :: l).length cq] w fun e w' => e = .returned (.agg (entV (devC (k :: l)))) ∧ Below w.heap.size w w' := by
  obtain ⟨g, og, rfl, hg, hc⟩ := strsGD hp (by simp)
  have HP := Lib.hid hp
  have HLL := Lib.hid hl
  have HZE := Lib.hid (show (Try.prog.info? 30).bind (·.zero) = some (.agg (entL noE).toArray) by kernel_rfl)
  have hx : Cells w.heap.size 30 (entV noE) (w.alloc (.cells (entV noE) 30)) := heap_alloc_new w _
  have hb : Below w.heap.size w (w.alloc (.cells (entV noE) 30)) := (Below.refl _ _).alloc (Nat.le_refl _) _
  have HC := Lib.hid (fun (w' : World) (b : Below w.heap.size w w') (i : Nat) (hi : i < (k :: l).length) => (b.cell (p := ⟨g, og + i, none⟩) hg).trans (hc i hi))
  obtain ⟨n, hnn⟩ : ∃ n, (k :: l).length = n := ⟨_, rfl⟩
  have HN := Shut.mk (show l.length + 1 = n by rw [← hnn]; rfl)
  have HNM := Lib.hid (show n ≤ 1000001 by rw [← HN.out]; omega)
  rw [hnn]
  obtain ⟨x, hxk⟩ : ∃ x, openN k = x := ⟨_, rfl⟩
  have HXK := Shut.mk hxk
  have HN0 := Lib.hid (fun w' => dev_num15 k w' (hl k (by simp)))
  rw [hxk] at HN0
  have hb0 : (0 : Int) < (n : Int) := by have := HN.out; omega
  clear hp hl hc hnn hxk hn
  go_enter Try.func36, Try.ntmps36
  go_upto_region 1 with (first | (refine wpList_alloc_of rfl 30 rfl (entL noE) HZE.out ?_))
  change Code.wp _ _ _ _ (w.alloc (.cells (entV noE) 30))
  obtain ⟨w1, hw1⟩ : ∃ x, x = w.alloc (.cells (entV noE) 30) := ⟨_, rfl⟩
  rw [← hw1] at hx hb ⊢
  have HX := Lib.hid hx
  have HB := Lib.hid hb
  clear hw1 hx hb hg
  have cs0 := HC.out w1 HB.out 0 (by simp)
  simp only [List.getElem_cons_zero, Nat.add_zero] at cs0
  go_wp2_with fail
  refine (HN0.out w1).mono ?_
  rintro e w2 ⟨rfl, hb⟩
  have HXQ := Lib.hid (HX.out.below hb)
  have HBQ := Lib.hid (HB.out.trans (hb.mono HB.out.size))
  clear hb HX HB HN0 cs0 hb0
  by_cases x1 : x = 1
  · have g1 : ((x : Int) == 1) = true := by simp [x1]
    have g2 : ((x : Int) == 2) = false := by simp [x1]
    have g3 : ((x : Int) == 3) = false := by simp [x1]
    by_cases n1 : n = 2
    · have hni : ((n : Int) == 2) = true := by simp [n1]
      obtain ⟨t, rfl⟩ : ∃ t, l = [t] := by
        have := HN.out
        match l, this with
        | [t], _ => exact ⟨t, rfl⟩
        | [], h => simp only [List.length_nil] at h; omega
        | _ :: _ :: _, h => simp only [List.length_cons] at h; omega
      have HZ := Shut.mk (devC_local (t := t) (HXK.out.trans x1))
      have HRD0 := fun w' => dev_readDraft t w' (Nat.le_trans (HLL.out t (by simp)) (by decide))
      have cs1 := HC.out w2 HBQ.out 1 (by simp)
      simp only [List.getElem_cons_succ, List.getElem_cons_zero] at cs1
      have hb1 : (1 : Int) < (n : Int) := by omega
      have HZD := Lib.hid (show (Try.prog.info? 28).bind (·.zero) = some (.agg (draftL zeroD).toArray) by kernel_rfl)
      obtain ⟨d, hd⟩ : ∃ d, (readD t).getD noD = d := ⟨_, rfl⟩
      have HDD := Shut.mk hd
      have HDO := Lib.hid (show IdOk d.ref by
        rw [← hd]
        cases h : readD t with
        | none => exact zeroI_ok
        | some d => exact (readD_some h).2.2.1)
      obtain ⟨y, hy⟩ : ∃ y : Int, (if (readD t).isSome then (0 : Int) else 4) = y := ⟨_, rfl⟩
      have HRD := Lib.hid (show ∀ w', Calls Try.prog 50 #[.string ⟨t.toArray⟩] w' fun e w'' => e = .returned (.tuple #[.agg (draftV d), .int .i64 y]) ∧ Below w'.heap.size w' w'' from fun w' => by
        have h := HRD0 w'
        unfold DrD at h
        rw [hy, show (readD t).getD zeroD = d from hd] at h
        exact h)
      rw [hd] at HZ
      have HDS := Lib.hid (show (Try.prog.info? 28).map (·.size) = some (draftV d).size by rw [draftV_size HDO.out.1]; exact Try.sizeD)
      have HDZ := Lib.hid (show (draftV zeroD).size = (draftV d).size by rw [draftV_size HDO.out.1]; rfl)
      have HLC := Lib.hid (fun w' => dev_local15 d HDO.out w')
      have HSL := Lib.hid (show (entV noE).size = (entV (localE d)).size by rw [entV_size (localE_ok HDO.out)]; rfl)
      clear HRD0 hd hy x1 n1
      go_wp2_with fail
      refine (HRD.out w2).mono ?_
      rintro e w3 ⟨rfl, hb⟩
      have HX3 := Lib.hid (HXQ.out.below hb)
      have HB3 := Lib.hid (HBQ.out.trans (hb.mono HBQ.out.size))
      clear hb HXQ HBQ cs1 HRD
      go_wp2_with (first
        | (refine wpList_alloc_of rfl 28 rfl (draftL zeroD) HZD.out ?_)
        | (refine wpList_store_cells rfl 28 _ _ rfl rfl w3.heap.size (draftV zeroD) (draftV d) 28 rfl rfl (heap_alloc_new w3 _) HDS.out HDZ.out (draftV_all _) ?_))
      intro w4 hc hb
      have hb4 : Below w3.heap.size w3 w4 := But.toBelow ((Below.refl _ w3).alloc (Nat.le_refl _) _) hb.out (Nat.le_refl _) (by rw [World.size_alloc]; exact Nat.le_succ _)
      have HD4 := Lib.hid hc.out
      have HX4 := Lib.hid (HX3.out.below hb4)
      have HB4 := Lib.hid (HB3.out.trans (hb4.mono HB3.out.size))
      obtain ⟨gD, hgD⟩ : ∃ g, w3.heap.size = g := ⟨_, rfl⟩
      rw [hgD] at HD4 ⊢
      clear hc hb hb4 hgD HX3 HB3
      go_wp2_with (first | (refine wpList_load_cells rfl 28 _ rfl gD (draftV d) 28 _ rfl HD4.out Try.underlying28 rfl HDS.out ?_))
      refine (HLC.out w4).mono ?_
      rintro e w5 ⟨rfl, hb⟩
      have HX5 := Lib.hid (HX4.out.below hb)
      have HBQ := Lib.hid (HB4.out.trans (hb.mono HB4.out.size))
      clear hb HX4 HB4 HD4
      go_wp2_with (first | (refine wpList_store_cells rfl 30 _ _ rfl rfl w.heap.size (entV noE) (entV (localE d)) 30 rfl rfl HX5.out (sizeEV (localE_ok HDO.out)) HSL.out (entV_all _) ?_))
      intro w9 hc hb
      have HX9 := Lib.hid hc.out
      have HB9 := Lib.hid (show Below w.heap.size w w9 from But.toBelow HBQ.out hb.out (Nat.le_refl _) HBQ.out.size)
      clear hc hb
      go_wp2_with fail
      refine bodyPost_ret (results_cells rfl _ _ w.heap.size (entV (localE d)) 30 _ rfl HX9.out Try.underlying30 rfl (sizeEV (localE_ok HDO.out))) rfl ?_
      exact ⟨by rw [HZ.out], HB9.out⟩
    · have hni : ((n : Int) == 2) = false := by simp; omega
      have HZ := Shut.mk (show devC (k :: l) = noE from devC_else (fun h => by have := HN.out; omega) (fun h => by have := HXK.out; omega) (fun h => by have := HXK.out; omega))
      clear x1 n1
      go_upto_region 9 with (fail)
      refine wp_region_lit ?_
      refine wpList_build_val rfl 30 #[] rfl [] _ (by simp) built_ent0 ?_
      simp only [Act.put, List.setIfInBounds_toArray, List.set_cons_zero, List.set_cons_succ]
      refine wpList_store_cells rfl 30 _ _ rfl rfl w.heap.size (entV noE) (entV noE) 30 rfl rfl HXQ.out (sizeEV noE_ok) rfl (entV_all noE) ?_
      intro w9 hc hb
      have HX9 := Lib.hid hc.out
      have HB9 := Lib.hid (show Below w.heap.size w w9 from But.toBelow HBQ.out hb.out (Nat.le_refl _) HBQ.out.size)
      clear hc hb
      go_wp2_with fail
      refine bodyPost_ret (results_cells rfl _ _ w.heap.size (entV noE) 30 _ rfl HX9.out Try.underlying30 rfl (sizeEV noE_ok)) rfl ?_
      exact ⟨by rw [HZ.out], HB9.out⟩
  have g1 : ((x : Int) == 1) = false := by simp; omega
  by_cases x2 : x = 2
  · have g2 : ((x : Int) == 2) = true := by simp [x2]
    have g3 : ((x : Int) == 3) = false := by simp [x2]
    by_cases n1 : n = 7
    · have hni : ((n : Int) == 7) = true := by simp [n1]
      obtain ⟨f, n0, r, m, p, y, rfl⟩ : ∃ f n r m p y, l = [f, n, r, m, p, y] := by
        have := HN.out
        match l, this with
        | [f, n, r, m, p, y], _ => exact ⟨f, n, r, m, p, y, rfl⟩
        | [], h => simp only [List.length_nil] at h; omega
        | [_], h => simp only [List.length_cons, List.length_nil] at h; omega
        | [_, _], h => simp only [List.length_cons, List.length_nil] at h; omega
        | [_, _, _], h => simp only [List.length_cons, List.length_nil] at h; omega
        | [_, _, _, _], h => simp only [List.length_cons, List.length_nil] at h; omega
        | [_, _, _, _, _], h => simp only [List.length_cons, List.length_nil] at h; omega
        | _ :: _ :: _ :: _ :: _ :: _ :: _ :: _, h => simp only [List.length_cons] at h; omega
      have HZ0 := devC_recv (f := f) (n := n0) (r := r) (m := m) (p := p) (y := y) (HXK.out.trans x2)
      have hrc := dev_received15 (some ⟨g, og, none⟩) k f n0 r m p y cq w2 (HP.out.below HBQ.out) HLL.out
      obtain ⟨V0, hV0⟩ : ∃ e, recvE (openN f) (openN n0) (openN m) (refP r) p y = e := ⟨_, rfl⟩
      have HVO := Lib.hid (show V0.Ok by rw [← hV0]; exact recvE_ok _ _ _ _ _ (refP_ok r))
      rw [hV0] at hrc HZ0
      have HRC := Lib.hid hrc
      have HZ := Shut.mk HZ0
      have HSL := Lib.hid (show (entV noE).size = (entV V0).size by rw [entV_size HVO.out]; rfl)
      rw [n1] at hni ⊢
      clear hrc HZ0 hV0 x1 x2 n1
      go_wp2_with fail
      refine HRC.out.mono ?_
      rintro e w3 ⟨rfl, hb⟩
      have HX3 := Lib.hid (HXQ.out.below hb)
      have HB3 := Lib.hid (HBQ.out.trans (hb.mono HBQ.out.size))
      clear hb HXQ HBQ HRC
      have HBQ := HB3
      go_wp2_with (first | (refine wpList_store_cells rfl 30 _ _ rfl rfl w.heap.size (entV noE) (entV V0) 30 rfl rfl HX3.out (sizeEV HVO.out) HSL.out (entV_all _) ?_))
      intro w9 hc hb
      have HX9 := Lib.hid hc.out
      have HB9 := Lib.hid (show Below w.heap.size w w9 from But.toBelow HBQ.out hb.out (Nat.le_refl _) HBQ.out.size)
      clear hc hb
      go_wp2_with fail
      refine bodyPost_ret (results_cells rfl _ _ w.heap.size (entV V0) 30 _ rfl HX9.out Try.underlying30 rfl (sizeEV HVO.out)) rfl ?_
      exact ⟨by rw [HZ.out], HB9.out⟩
    · have hni : ((n : Int) == 7) = false := by simp; omega
      have HZ := Shut.mk (show devC (k :: l) = noE from devC_else (fun h => by have := HXK.out; omega) (fun h => by have := HN.out; omega) (fun h => by have := HXK.out; omega))
      clear x1 x2 n1
      go_upto_region 9 with (fail)
      refine wp_region_lit ?_
      refine wpList_build_val rfl 30 #[] rfl [] _ (by simp) built_ent0 ?_
      simp only [Act.put, List.setIfInBounds_toArray, List.set_cons_zero, List.set_cons_succ]
      refine wpList_store_cells rfl 30 _ _ rfl rfl w.heap.size (entV noE) (entV noE) 30 rfl rfl HXQ.out (sizeEV noE_ok) rfl (entV_all noE) ?_
      intro w9 hc hb
      have HX9 := Lib.hid hc.out
      have HB9 := Lib.hid (show Below w.heap.size w w9 from But.toBelow HBQ.out hb.out (Nat.le_refl _) HBQ.out.size)
      clear hc hb
      go_wp2_with fail
      refine bodyPost_ret (results_cells rfl _ _ w.heap.size (entV noE) 30 _ rfl HX9.out Try.underlying30 rfl (sizeEV noE_ok)) rfl ?_
      exact ⟨by rw [HZ.out], HB9.out⟩
  have g2 : ((x : Int) == 2) = false := by simp; omega
  by_cases x3 : x = 3
  · have g3 : ((x : Int) == 3) = true := by simp [x3]
    by_cases n1 : n = 3
    · have hni : ((n : Int) == 3) = true := by simp [n1]
      obtain ⟨m, p, rfl⟩ : ∃ m p, l = [m, p] := by
        have := HN.out
        match l, this with
        | [m, p], _ => exact ⟨m, p, rfl⟩
        | [], h => simp only [List.length_nil] at h; omega
        | [_], h => simp only [List.length_cons, List.length_nil] at h; omega
        | _ :: _ :: _ :: _, h => simp only [List.length_cons] at h; omega
      have HZ0 := devC_send (m := m) (p := p) (HXK.out.trans x3)
      have hnm := fun w' => dev_num15 m w' (HLL.out m (by simp))
      obtain ⟨xm, hxm⟩ : ∃ x, openN m = x := ⟨_, rfl⟩
      rw [hxm] at hnm HZ0
      have HNM0 := Lib.hid hnm
      have HSN := Lib.hid (fun w' => dev_send15 (xm : Int) p w')
      have HZ := Shut.mk HZ0
      have hc1 := fun (w' : World) (b : Below w2.heap.size w2 w') => HC.out w' (HBQ.out.trans (b.mono HBQ.out.size)) 1 (by simp)
      have hc2 := fun (w' : World) (b : Below w2.heap.size w2 w') => HC.out w' (HBQ.out.trans (b.mono HBQ.out.size)) 2 (by simp)
      simp only [List.getElem_cons_succ, List.getElem_cons_zero] at hc1 hc2
      have HC1 := Lib.hid hc1
      have HC2 := Lib.hid hc2
      have HSL := Lib.hid (show (entV noE).size = (entV (outE (xm : Int) p)).size by rw [entV_size (outE_ok _ _)]; rfl)
      rw [n1] at hni ⊢
      clear hnm HZ0 hxm hc1 hc2 x1 x2 x3 n1
      go_upto_region 8 with (fail)
      refine wp_region_class_tail (fun w' => Below w2.heap.size w2 w') 8 (by kernel_rfl) (by kernel_rfl) (Below.refl _ _).drew ?_
      simp only [List.take_succ_cons, List.take_zero, List.drop_succ_cons, List.drop_zero]
      repeat (first
        | (go_big_quiet_want; refine quiet_load_cell 9 _ rfl ⟨g, og + 1, none⟩ _ rfl HC1.out Try.isAgg9 ?_; go_big_quiet_on; simp only [Act.put, List.setIfInBounds_toArray, List.set_cons_zero, List.set_cons_succ])
        | (go_big_quiet_want; refine quiet_load_cell 9 _ rfl ⟨g, og + 2, none⟩ _ rfl HC2.out Try.isAgg9 ?_; go_big_quiet_on; simp only [Act.put, List.setIfInBounds_toArray, List.set_cons_zero, List.set_cons_succ])
        | go_big_quiet_step ((intro hs'; first
            | (go_at_call 49; exact (HNM0.out _).mono fun e w' h => ⟨h.1, hs'.trans (h.2.mono hs'.size)⟩)
            | (go_at_call 27; exact (HSN.out _).mono fun e w' h => ⟨h.1, hs'.trans (h.2.mono hs'.size)⟩)
            | rfl)))
      refine wpQuiet_nil ?_
      intro w3 hs3
      have HX3 := Lib.hid (HXQ.out.below hs3)
      have HB3 := Lib.hid (HBQ.out.trans (hs3.mono HBQ.out.size))
      clear hs3 HXQ HBQ HC1 HC2
      have HBQ := HB3
      refine wpList_store_cells rfl 30 _ _ rfl rfl w.heap.size (entV noE) (entV (outE (xm : Int) p)) 30 rfl rfl HX3.out (sizeEV (outE_ok _ _)) HSL.out (entV_all _) ?_
      intro w9 hc hb
      have HX9 := Lib.hid hc.out
      have HB9 := Lib.hid (show Below w.heap.size w w9 from But.toBelow HBQ.out hb.out (Nat.le_refl _) HBQ.out.size)
      clear hc hb
      go_wp2_with fail
      refine bodyPost_ret (results_cells rfl _ _ w.heap.size (entV (outE (xm : Int) p)) 30 _ rfl HX9.out Try.underlying30 rfl (sizeEV (outE_ok _ _))) rfl ?_
      exact ⟨by rw [HZ.out], HB9.out⟩
    · have hni : ((n : Int) == 3) = false := by simp; omega
      have HZ := Shut.mk (show devC (k :: l) = noE from devC_else (fun h => by have := HXK.out; omega) (fun h => by have := HXK.out; omega) (fun h => by have := HN.out; omega))
      clear x1 x2 x3 n1
      go_upto_region 9 with (fail)
      refine wp_region_lit ?_
      refine wpList_build_val rfl 30 #[] rfl [] _ (by simp) built_ent0 ?_
      simp only [Act.put, List.setIfInBounds_toArray, List.set_cons_zero, List.set_cons_succ]
      refine wpList_store_cells rfl 30 _ _ rfl rfl w.heap.size (entV noE) (entV noE) 30 rfl rfl HXQ.out (sizeEV noE_ok) rfl (entV_all noE) ?_
      intro w9 hc hb
      have HX9 := Lib.hid hc.out
      have HB9 := Lib.hid (show Below w.heap.size w w9 from But.toBelow HBQ.out hb.out (Nat.le_refl _) HBQ.out.size)
      clear hc hb
      go_wp2_with fail
      refine bodyPost_ret (results_cells rfl _ _ w.heap.size (entV noE) 30 _ rfl HX9.out Try.underlying30 rfl (sizeEV noE_ok)) rfl ?_
      exact ⟨by rw [HZ.out], HB9.out⟩
  have g3 : ((x : Int) == 3) = false := by simp; omega
  have HZ := Shut.mk (show devC (k :: l) = noE from devC_else (fun h => by have := HXK.out; omega) (fun h => by have := HXK.out; omega) (fun h => by have := HXK.out; omega))
  clear x1 x2 x3
  go_upto_region 9 with (fail)
  refine wp_region_lit ?_
  refine wpList_build_val rfl 30 #[] rfl [] _ (by simp) built_ent0 ?_
  simp only [Act.put, List.setIfInBounds_toArray, List.set_cons_zero, List.set_cons_succ]
  refine wpList_store_cells rfl 30 _ _ rfl rfl w.heap.size (entV noE) (entV noE) 30 rfl rfl HXQ.out (sizeEV noE_ok) rfl (entV_all noE) ?_
  intro w9 hc hb
  have HX9 := Lib.hid hc.out
  have HB9 := Lib.hid (show Below w.heap.size w w9 from But.toBelow HBQ.out hb.out (Nat.le_refl _) HBQ.out.size)
  clear hc hb
  go_wp2_with fail
  refine bodyPost_ret (results_cells rfl _ _ w.heap.size (entV noE) 30 _ rfl HX9.out Try.underlying30 rfl (sizeEV noE_ok)) rfl ?_
  exact ⟨by rw [HZ.out], HB9.out⟩
end Go.Proofs.Ytenmkfjgjemiiaa
namespace Go.Proofs.Ytenmkfjgjemiiaa
open Go.RowKit Go.BigFrame
def DrE (o : Option EntN) : Value := .tuple #[.agg (entV (o.getD noE)), .int .i64 (if o.isSome then 0 else 4)]
theorem devC_len {l : List (List UInt8)} (hl : ∀ t ∈ l, t.length ≤ 262144) : (devC l).Len := by
  have hok := (devC_fit l).ok
  have z : ∀ {n : Nat}, n ≤ 262144 → n ≤ 140737488351232 := fun h => Nat.le_trans h (by decide)
  have hd : ∀ t, ((readD t).getD noD).key.length ≤ 262144 ∧ ((readD t).getD noD).val.length ≤ 262144 := fun t => by
    cases h : readD t with
    | none => exact ⟨Nat.zero_le _, Nat.zero_le _⟩
    | some d =>
      have h1 := (readD_some h).2.1
      exact ⟨Nat.le_trans h1.2.2.2.1 (by decide), Nat.le_trans h1.2.2.2.2.1 (by decide)⟩
  refine ⟨hok, ?_, ?_, ?_, ?_⟩
  all_goals
    match l, hl with
    | [], _ => exact Nat.zero_le _
    | [_], _ => exact Nat.zero_le _
    | [k, t], hl => simp only [devC]; split <;> first | exact z (hd t).1 | exact z (hd t).2 | exact Nat.zero_le _
    | [k, m, p], hl => simp only [devC]; split <;> first | exact Nat.zero_le _ | exact z (hl p (by simp))
    | [_, _, _, _], _ => exact Nat.zero_le _
    | [_, _, _, _, _], _ => exact Nat.zero_le _
    | [_, _, _, _, _, _], _ => exact Nat.zero_le _
    | [k, f, q, r, m, p, g], hl => simp only [devC]; split <;> first | exact Nat.zero_le _ | exact z (hl p (by simp)) | exact z (hl g (by simp))
    | _ :: _ :: _ :: _ :: _ :: _ :: _ :: _ :: _, _ => exact Nat.zero_le _
set_option maxHeartbeats 4000000 in
set_option maxRecDepth 100000 in
theorem dev_read15 (s : List UInt8) (w : World) (hm : s.length ≤ 1000000) :
    Calls Try.prog 18 #[.string ⟨s.toArray⟩] w fun e w' => e = .returned (DrE (readE s)) ∧ Below w.heap.size w w' := by
  have HS := Lib.hid (sizeEV noE_ok)
  have HZE := Lib.hid (show (Try.prog.info? 30).bind (·.zero) = some (.agg (entL noE).toArray) by kernel_rfl)
  have HM := Lib.hid hm
  clear hm
  go_enter Try.func18, Try.ntmps18
  go_upto_region 1 with (first | (refine wpList_alloc_of rfl 30 rfl (entL noE) HZE.out ?_))
  have hx : Cells w.heap.size 30 (entV noE) (w.alloc (.cells (entV noE) 30)) := heap_alloc_new w _
  have hb : Below w.heap.size w (w.alloc (.cells (entV noE) 30)) := (Below.refl _ _).alloc (Nat.le_refl _) _
  change Code.wp _ _ _ _ (w.alloc (.cells (entV noE) 30))
  obtain ⟨w1, hw1⟩ : ∃ x, x = w.alloc (.cells (entV noE) 30) := ⟨_, rfl⟩
  rw [← hw1] at hx hb ⊢
  have HX := Lib.hid hx
  have HB := Lib.hid hb
  clear hw1 hx hb
  go_wp2_with fail
  obtain ⟨q, hq⟩ : ∃ q, splitB s = q := ⟨_, rfl⟩
  have HL := Shut.mk hq
  have hcc := split_any s w1 (by have := HM.out; omega)
  rw [hq] at hcc
  clear hq
  refine hcc.mono ?_
  rintro e w2 ⟨⟨v, rfl, ho⟩, hb⟩
  obtain ⟨ao, cq, rfl⟩ := ho.form
  have HXQ := Lib.hid (HX.out.below hb)
  have HBQ := Lib.hid (HB.out.trans (hb.mono HB.out.size))
  have HSA := Lib.hid (strsAt_own ho)
  clear hcc ho hb HX HB
  cases q with
  | none =>
    simp only [Option.getD_none, List.length_nil, Option.isSome_none]
    have HR := Shut.mk (readE_none HL.out)
    clear HSA
    go_upto_region 3 with (fail)
    refine wp_region_lit ?_
    refine wpList_build_val rfl 30 #[] rfl [] _ (by simp) built_ent0 ?_
    simp only [Act.put, List.setIfInBounds_toArray, List.set_cons_zero, List.set_cons_succ]
    refine wpList_store_cells rfl 30 _ _ rfl rfl w.heap.size (entV noE) (entV noE) 30 rfl rfl HXQ.out HS.out rfl (entV_all noE) ?_
    intro wf hc hb
    have HXF := Lib.hid hc.out
    have HBF := Lib.hid (show Below w.heap.size w wf from But.toBelow HBQ.out hb.out (Nat.le_refl _) HBQ.out.size)
    clear hc hb HXQ HBQ
    go_wp2_with fail
    refine bodyPost_ret (results_cells_tmp rfl _ _ w.heap.size (entV noE) 30 _ _ rfl rfl HXF.out Try.underlying30 rfl HS.out) rfl ?_
    exact ⟨by rw [HR.out]; rfl, HBF.out⟩
  | some l =>
    simp only [Option.getD_some, Option.isSome_some] at HSA ⊢
    have HLR := Lib.hid (split_parts HL.out)
    cases l with
    | nil =>
      simp only [List.length_nil]
      have HR := Shut.mk (readE_split_nil HL.out)
      clear HSA
      go_upto_region 3 with (fail)
      refine wp_region_lit ?_
      refine wpList_build_val rfl 30 #[] rfl [] _ (by simp) built_ent0 ?_
      simp only [Act.put, List.setIfInBounds_toArray, List.set_cons_zero, List.set_cons_succ]
      refine wpList_store_cells rfl 30 _ _ rfl rfl w.heap.size (entV noE) (entV noE) 30 rfl rfl HXQ.out HS.out rfl (entV_all noE) ?_
      intro wf hc hb
      have HXF := Lib.hid hc.out
      have HBF := Lib.hid (show Below w.heap.size w wf from But.toBelow HBQ.out hb.out (Nat.le_refl _) HBQ.out.size)
      clear hc hb HXQ HBQ
      go_wp2_with fail
      refine bodyPost_ret (results_cells_tmp rfl _ _ w.heap.size (entV noE) 30 _ _ rfl rfl HXF.out Try.underlying30 rfl HS.out) rfl ?_
      exact ⟨by rw [HR.out]; rfl, HBF.out⟩
    | cons k l =>
      have hll : l.length ≤ 1000000 := by
        have h1 := splitB_some HL.out
        have h2 := listB_length_ge (k :: l)
        rw [h1] at h2
        have := HM.out
        simp only [List.length_cons] at h2
        omega
      have HPA := Lib.hid (dev_parted15 ao k l cq w2 HSA.out HLR.out hll)
      have HLE := Lib.hid (devC_len HLR.out)
      have HFI := Lib.hid (devC_fit (k :: l))
      have HRR := Shut.mk (readE_dev HL.out)
      obtain ⟨n, hn⟩ : ∃ n, (k :: l).length = n := ⟨_, rfl⟩
      have h0 : ((n : Int) == 0) = false := by simp; rw [← hn]; simp
      obtain ⟨d, hd⟩ : ∃ d, devC (k :: l) = d := ⟨_, rfl⟩
      rw [hd] at HPA HLE HFI HRR
      rw [hn] at HPA ⊢
      have HTX := Lib.hid (fun w' => dev_text15 d HLE.out HFI.out.seq w')
      have HSE := Lib.hid (sizeEV HLE.out.ok)
      have HSZ := Lib.hid (show (entV noE).size = (entV d).size by rw [entV_size HLE.out.ok]; rfl)
      clear hll hn hd HSA
      go_wp2_with fail
      refine HPA.out.mono ?_
      rintro e w3 ⟨rfl, hb⟩
      have HX3 := Lib.hid (HXQ.out.below hb)
      have HB3 := Lib.hid (HBQ.out.trans (hb.mono HBQ.out.size))
      clear hb HXQ HBQ HPA h0
      go_wp2_with (first
        | (refine wpList_alloc_of rfl 30 rfl (entL noE) HZE.out ?_)
        | (refine wpList_store_cells rfl 30 _ _ rfl rfl w3.heap.size (entV noE) (entV d) 30 rfl rfl (heap_alloc_new w3 _) HSE.out HSZ.out (entV_all d) ?_))
      intro w4 hc hb
      have hb4 : Below w3.heap.size w3 w4 := But.toBelow ((Below.refl _ w3).alloc (Nat.le_refl _) _) hb.out (Nat.le_refl _) (by rw [World.size_alloc]; exact Nat.le_succ _)
      have HE4 := Lib.hid hc.out
      have HX4 := Lib.hid (HX3.out.below hb4)
      have HB4 := Lib.hid (HB3.out.trans (hb4.mono HB3.out.size))
      obtain ⟨g, hg⟩ : ∃ g, w3.heap.size = g := ⟨_, rfl⟩
      rw [hg] at HE4 ⊢
      clear hc hb hb4 hg HX3 HB3
      obtain ⟨T, hT⟩ : ∃ T, entB d = T := ⟨_, rfl⟩
      rw [hT] at HTX HRR
      clear hT
      go_wp2_with (first | (refine wpList_load_cells rfl 30 _ rfl g (entV d) 30 _ rfl HE4.out Try.underlying30 rfl HSE.out ?_))
      refine (HTX.out w4).mono ?_
      rintro e w5 ⟨rfl, hb⟩
      have HE5 := Lib.hid (HE4.out.below hb)
      have HXQ := Lib.hid (HX4.out.below hb)
      have HBQ := Lib.hid (HB4.out.trans (hb.mono HB4.out.size))
      clear hb HE4 HX4 HB4 HTX
      by_cases hts : T = s
      · have HR := Shut.mk (HRR.out.trans (if_pos hts))
        have heq : (T == s) = true := by simp [hts]
        clear hts HRR
        go_upto_region 7 with (fail)
        refine wp_region_lit ?_
        refine wpList_load_cells rfl 30 _ rfl g (entV d) 30 _ rfl HE5.out Try.underlying30 rfl HSE.out ?_
        simp only [Act.put, List.setIfInBounds_toArray, List.set_cons_zero, List.set_cons_succ]
        refine wpList_store_cells rfl 30 _ _ rfl rfl w.heap.size (entV noE) (entV d) 30 rfl rfl HXQ.out HSE.out HSZ.out (entV_all d) ?_
        intro wf hc hb
        have HXF := Lib.hid hc.out
        have HBF := Lib.hid (show Below w.heap.size w wf from But.toBelow HBQ.out hb.out (Nat.le_refl _) HBQ.out.size)
        clear hc hb HXQ HBQ
        go_wp2_with fail
        refine bodyPost_ret (results_cells_tmp rfl _ _ w.heap.size (entV d) 30 _ _ rfl rfl HXF.out Try.underlying30 rfl HSE.out) rfl ?_
        exact ⟨by rw [HR.out]; rfl, HBF.out⟩
      · have HR := Shut.mk (HRR.out.trans (if_neg hts))
        have heq : (T == s) = false := by simp [hts]
        clear hts HRR HE5
        go_upto_region 6 with (fail)
        refine wp_region_lit ?_
        refine wpList_build_val rfl 30 #[] rfl [] _ (by simp) built_ent0 ?_
        simp only [Act.put, List.setIfInBounds_toArray, List.set_cons_zero, List.set_cons_succ]
        refine wpList_store_cells rfl 30 _ _ rfl rfl w.heap.size (entV noE) (entV noE) 30 rfl rfl HXQ.out HS.out rfl (entV_all noE) ?_
        intro wf hc hb
        have HXF := Lib.hid hc.out
        have HBF := Lib.hid (show Below w.heap.size w wf from But.toBelow HBQ.out hb.out (Nat.le_refl _) HBQ.out.size)
        clear hc hb HXQ HBQ
        go_wp2_with fail
        refine bodyPost_ret (results_cells_tmp rfl _ _ w.heap.size (entV noE) 30 _ _ rfl rfl HXF.out Try.underlying30 rfl HS.out) rfl ?_
        exact ⟨by rw [HR.out]; rfl, HBF.out⟩
end Go.Proofs.Ytenmkfjgjemiiaa
namespace Go.Proofs.Ytenmkfjgjemiiaa
open Go.ChangeShapes Go.WideShapes Go.ChangeAt Go.RowKit
theorem law_own : ownKnob Try.prog.godebug = none := by kernel_rfl
end Go.Proofs.Ytenmkfjgjemiiaa
namespace Go.Proofs.Ytenmkfjgjemiiaa
open Go.RowKit Go.BigFrame Go.ChangeShapes Go.WideShapes Go.Deep
def RAt (K : Nat) (ao : Option Addr) (C : List (List Value)) (w : World) : Prop :=
  C = [] ∨ ∃ b o, ao = some ⟨b, o, none⟩ ∧ b < w.heap.size ∧ ∀ (i : Nat) (c : List Value), C[i]? = some c → w.rangeAt b (o + i * K) c
theorem RAt.below {K : Nat} {ao : Option Addr} {C : List (List Value)} {w w' : World} (h : RAt K ao C w) (hb : Below w.heap.size w w') : RAt K ao C w' := by
  rcases h with h | ⟨b, o, h1, h2, h3⟩
  · exact .inl h
  · exact .inr ⟨b, o, h1, Nat.lt_of_lt_of_le h2 hb.size, fun i c hc j v hv => (hb.cell (p := ⟨b, o + i * K + j, none⟩) h2).trans (h3 i c hc j v hv)⟩
theorem RAt.get {K : Nat} {ao : Option Addr} {C : List (List Value)} {w : World} (h : RAt K ao C w) {i : Nat} {c : List Value} (hc : C[i]? = some c) : ∃ b o, ao = some ⟨b, o, none⟩ ∧ b < w.heap.size ∧ w.rangeAt b (o + i * K) c := by
  rcases h with rfl | ⟨b, o, h1, h2, h3⟩
  · cases hc
  · exact ⟨b, o, h1, h2, h3 i c hc⟩
theorem RAt.getM {α : Type} {K : Nat} {f : α → List Value} {ao : Option Addr} {L : List α} {w : World} (h : RAt K ao (L.map f) w) {i : Nat} {x : α} (hx : L[i]? = some x) : ∃ b o, ao = some ⟨b, o, none⟩ ∧ b < w.heap.size ∧ w.rangeAt b (o + i * K) (f x) :=
  h.get (by rw [List.getElem?_map, hx]; rfl)
theorem RowK.rat {K : Nat} {e : TypeId} {ao : Option Addr} {n c : Nat} {C : List (List Value)} {w : World} (h : RowK K e (.slice ao n c) C w) (hW : Wide K C) : RAt K ao C w := by
  by_cases h0 : C = []
  · exact .inl h0
  · obtain ⟨g, cap, hv⟩ := h.formB (List.length_pos_iff.2 h0)
    simp only [Value.slice.injEq] at hv
    obtain ⟨rfl, rfl, rfl⟩ := hv
    have hl := h.lt (g := g) rfl
    refine .inr ⟨g, 0, rfl, hl, fun i c hc => ?_⟩
    obtain ⟨hi, rfl⟩ := List.getElem?_eq_some_iff.1 hc
    have h1 := RowK.at rfl h hW hi
    rw [List.getD_eq_getElem?_getD, List.getElem?_eq_getElem hi] at h1
    rw [Nat.zero_add, Nat.mul_comm]
    exact h1
theorem wide_map {α : Type} {K : Nat} {f : α → List Value} {L : List α} (h : ∀ x ∈ L, (f x).length = K) : Wide K (L.map f) := fun c hc => by
  obtain ⟨x, hx, rfl⟩ := List.mem_map.1 hc
  exact h x hx
def OwnR (B K : Nat) (e : TypeId) (v : Value) (C : List (List Value)) (w : World) : Prop := w.ownsRow B e K v C.length C.flatten
theorem OwnR.nil (B K : Nat) (e : TypeId) (w : World) : OwnR B K e (.slice none 0 0) [] w := World.ownsRow_nil _ _ _ _
theorem OwnR.mono {B B' K : Nat} {e : TypeId} {v : Value} {C : List (List Value)} {w : World} (h : OwnR B K e v C w) (hB : B' ≤ B) : OwnR B' K e v C w := by
  refine ⟨h.1, ?_⟩
  rcases h.2 with h0 | ⟨g, cap, cur, hv, hg, r⟩
  · exact Or.inl h0
  · exact Or.inr ⟨g, cap, cur, hv, Nat.le_trans hB hg, r⟩
theorem OwnR.row {B K : Nat} {e : TypeId} {v : Value} {C : List (List Value)} {w : World} (h : OwnR B K e v C w) : RowK K e v C w := h.mono (Nat.zero_le _)
theorem OwnR.form {B K : Nat} {e : TypeId} {v : Value} {C : List (List Value)} {w : World} (h : OwnR B K e v C w) : ∃ ao cap, v = .slice ao C.length cap := h.row.form
theorem OwnR.only {B K : Nat} {e : TypeId} {v : Value} {C : List (List Value)} {w w' : World} {O : Nat → Prop} (h : OwnR B K e v C w) (k : Only O w w') (hO : ∀ g, v.ownBlock = some g → ¬ O g) : OwnR B K e v C w' := by
  refine ⟨h.1, ?_⟩
  rcases h.2 with h2 | ⟨g, cap, cur, h1, h2, h3, h4⟩
  · exact .inl h2
  · exact .inr ⟨g, cap, cur, h1, h2, (k.block g (lt_of_block h3) (hO g (by rw [h1]; rfl))).trans h3, h4⟩
theorem OwnR.below {B K : Nat} {e : TypeId} {v : Value} {C : List (List Value)} {w w' : World} (h : OwnR B K e v C w) (k : Below w.heap.size w w') : OwnR B K e v C w' := h.only (Only.of (O := fun _ => False) k) (fun _ _ => id)
theorem OwnR.rat {B K : Nat} {e : TypeId} {ao : Option Addr} {n c : Nat} {C : List (List Value)} {w : World} (h : OwnR B K e (.slice ao n c) C w) (hW : Wide K C) : RAt K ao C w := h.row.rat hW
theorem wpList_append_row {P : Program} {w : World} {ops : Array Oper} {rest : List Oper} {o : Oper} {a : Act} {Q : Exit → Act → World → Prop} (hgd : o.guard = none) (s x : Operand) (t e : TypeId)
    (ho : o.op = .call { callee := .builtin .append, args := #[s, x], argTypes := #[t, t] })
    (B K bytes : Nat) (z : Value) (hzs : z.cells.size = K) (h0 : 0 < K) (hby : bytes ≤ 1024) (ht : P.underlying t = some (.slice e)) (hinfo : (P.info? e).map (fun i => (i.zero, i.size, i.bytes)) = some (some z, K, bytes))
    (v : Value) (C : List (List Value)) (us : List Value) (hul : us.length = K) (hu : ∀ y ∈ us, y.oneCell' = true) (ad : Addr) (c : Nat) (hs : a.eval s = v) (hown : OwnR B K e v C w) (hx : a.eval x = .slice (some ad) 1 c)
    (hnews : ∀ j u, us[j]? = some u → w.cell? (ad.add j) = some u) (h63 : C.length ≤ 1000000) (hB : B ≤ w.heap.size)
    (h : ∀ v' w', Hid (OwnR B K e v' (C ++ [us]) w') → Hid (Below B w w') → Hid (w.grownBy w' v.ownBlock) → wpList P ops Q rest (a.put o.dst v') w') : wpList P ops Q (o :: rest) a w := by
  obtain ⟨i, hi, hz0, hz1, hz2⟩ := info_parts hinfo
  refine wpList_append_own_at w hgd s x _ ho B e i z K bytes ht hi hz0 hz1 hz2 hzs h0 v C.length C.flatten hs hown ad 1 c us hx (by rw [hul, Nat.one_mul]) hnews hu (by unfold maxLen; omega)
    (Nat.le_trans (Nat.mul_le_mul (show C.length + 1 ≤ 1000001 by omega) hby) (by decide)) hB ?_
  intro v' w' q1 q2 _ _
  refine h v' w' (Lib.hid ?_) (Lib.hid ((Below.refl B w).grown q2 hB (fun k hk => (World.ownsRow.lt hown k hk).1))) (Lib.hid q2)
  show w'.ownsRow B e K v' (C ++ [us]).length (C ++ [us]).flatten
  rw [List.length_append, List.flatten_append, List.flatten_cons, List.flatten_nil, List.append_nil]
  exact q1
end Go.Proofs.Ytenmkfjgjemiiaa
namespace Go.Proofs.Ytenmkfjgjemiiaa
open Go.RowKit Go.BigFrame
def EntsAt (ao : Option Addr) (L : List EntN) (w : World) : Prop := RAt 73 ao (L.map entL) w
theorem ents_all {A B : List EntN} {n : Nat} (hA : A.length = n) (hB : B.length = n) (h : ∀ j, j < n → A[j]? = B[j]?) : A = B := by
  refine List.ext_getElem? fun j => ?_
  by_cases hj : j < n
  · exact h j hj
  · rw [List.getElem?_eq_none (by omega), List.getElem?_eq_none (by omega)]
def OwnE15 (B : Nat) (v : Value) (L : List EntN) (w : World) : Prop := OwnR B 73 30 v (L.map entL) w ∧ ∀ x ∈ L, x.Ok
theorem OwnE15.nil (B : Nat) (w : World) : OwnE15 B (.slice none 0 0) [] w := ⟨OwnR.nil _ _ _ _, fun x hx => by cases hx⟩
theorem OwnE15.form {B : Nat} {v : Value} {L : List EntN} {w : World} (h : OwnE15 B v L w) : ∃ ao cap, v = .slice ao L.length cap := by
  have := h.1.form
  rwa [List.length_map] at this
theorem OwnE15.mono {B B' : Nat} {v : Value} {L : List EntN} {w : World} (h : OwnE15 B v L w) (hB : B' ≤ B) : OwnE15 B' v L w := ⟨h.1.mono hB, h.2⟩
theorem OwnE15.below {B : Nat} {v : Value} {L : List EntN} {w w' : World} (h : OwnE15 B v L w) (k : Below w.heap.size w w') : OwnE15 B v L w' := ⟨h.1.below k, h.2⟩
theorem OwnE15.at {B : Nat} {ao : Option Addr} {n c : Nat} {L : List EntN} {w : World} (h : OwnE15 B (.slice ao n c) L w) : EntsAt ao L w := h.1.rat (wide_map fun x hx => entL_len (h.2 x hx))
theorem Try.infoE73 : ∃ bytes, bytes ≤ 1024 ∧ (Try.prog.info? 30).map (fun i => (i.zero, i.size, i.bytes)) = some (some (.agg (entV noE)), 73, bytes) := ⟨168, by decide, by kernel_rfl⟩
theorem wpList_append_ent {w : World} {ops : Array Oper} {rest : List Oper} {o : Oper} {a : Act} {Q : Exit → Act → World → Prop} (hgd : o.guard = none) (s x : Operand)
    (ho : o.op = .call { callee := .builtin .append, args := #[s, x], argTypes := #[22, 22] })
    (B : Nat) (v : Value) (L : List EntN) (y : EntN) (hy : y.Ok) (g : Nat) (c : Nat) (hs : a.eval s = v) (hown : OwnE15 B v L w) (hx : a.eval x = .slice (some ⟨g, 0, none⟩) 1 c) (hnew : Cells g 30 (entV y) w) (h63 : L.length ≤ 1000000) (hB : B ≤ w.heap.size)
    (h : ∀ v' w', Hid (OwnE15 B v' (L ++ [y]) w') → Hid (Below B w w') → Hid (w.grownBy w' v.ownBlock) → wpList Try.prog ops Q rest (a.put o.dst v') w') : wpList Try.prog ops Q (o :: rest) a w := by
  obtain ⟨bytes, hby, hinfo⟩ := Try.infoE73
  refine wpList_append_row hgd s x 22 30 ho B 73 bytes _ rfl (by decide) hby Try.underlying22 hinfo v (L.map entL) (entL y) (entL_len hy) (entL_one y) ⟨g, 0, none⟩ c hs hown.1 hx
    (fun j u hj => by rw [Addr.add_lit]; exact ent_range hnew j u hj) (by rw [List.length_map]; exact h63) hB ?_
  intro v' w' h1 h2 h3
  refine h v' w' (Lib.hid ⟨?_, fun q hq => ?_⟩) h2 h3
  · have := h1.out
    rw [List.map_append]
    exact this
  · rcases List.mem_append.1 hq with hq | hq
    · exact hown.2 q hq
    · obtain rfl := List.mem_singleton.1 hq
      exact hy
theorem built_ent1 (y : EntN) (hy : y.Ok) (w : World) : (Instr.buildSlice 22 1 #[(0, .agg (entL y).toArray)]).run Try.prog w = .ok (.slice (some ⟨w.heap.size, 0, none⟩) 1 1) (w.alloc (.cells (entL y).toArray 30)) := by
  obtain ⟨bytes, hby, hinfo⟩ := Try.infoE73
  exact run_build_wide 22 30 (entL y) _ _ _ Try.underlying22 hinfo (entL_len hy) (by decide) (by decide) w
end Go.Proofs.Ytenmkfjgjemiiaa
namespace Go.Proofs.Ytenmkfjgjemiiaa
open Go.RowKit Go.BigFrame
theorem strs_set (l : List (List UInt8)) (j : Nat) (t : List UInt8) : strs (l.set j t) = (strs l).set j (.string ⟨t.toArray⟩) := by simp [strs, List.map_set]
theorem OwnS.setT {B g n c : Nat} {l : List (List UInt8)} {w : World} (hn : n = l.length) (h : OwnS B (.slice (some ⟨g, 0, none⟩) n c) l w) (j : Nat) (t : List UInt8) :
    OwnS B (.slice (some ⟨g, 0, none⟩) n c) (l.set j t) (w.setCell ⟨g, j, none⟩ (.string ⟨t.toArray⟩)) := by
  subst hn
  have h1 := (World.ownsRow.stored h j (.string ⟨t.toArray⟩)).1
  unfold OwnS
  rw [List.length_set, strs_set]
  exact h1
theorem OwnS.there {B g n c : Nat} {l : List (List UInt8)} {w : World} (hn : n = l.length) (h : OwnS B (.slice (some ⟨g, 0, none⟩) n c) l w) {j : Nat} (hj : j < n) : ∃ t : List UInt8, w.cell? ⟨g, j, none⟩ = some (.string ⟨t.toArray⟩) ∧ w.frozen? ⟨g, j, none⟩ = false := by
  subst hn
  have h1 := World.ownsRow.cellAt h j (by rw [Nat.mul_one]; exact hj)
  refine ⟨l[j], ?_, World.ownsRow.frozenAt h j⟩
  rw [h1, strs, List.getElem?_map, List.getElem?_eq_getElem hj]
  rfl
theorem madeCells_strs (n : Nat) : (madeCells #[Value.string ⟨#[]⟩] n).toList = strs (List.replicate n []) := by
  rw [strs, List.map_replicate]
  exact toList_madeCells_one _ _
end Go.Proofs.Ytenmkfjgjemiiaa
namespace Go.Proofs.Ytenmkfjgjemiiaa
open Go.RowKit Go.BigFrame
def partTE (L : List EntN) (k : Nat) : List (List UInt8) := (L.take k).map entB ++ List.replicate (L.length - k) []
theorem partTE_len {L : List EntN} {k : Nat} (h : k ≤ L.length) : (partTE L k).length = L.length := by
  rw [partTE, List.length_append, List.length_map, List.length_take, List.length_replicate]
  omega
theorem partTE_zero (L : List EntN) : partTE L 0 = List.replicate L.length [] := rfl
theorem partTE_full (L : List EntN) : partTE L L.length = L.map entB := by simp [partTE]
theorem partTE_set {L : List EntN} {k : Nat} (h : k < L.length) : (partTE L k).set k (entB L[k]) = partTE L (k + 1) := by
  have hl : ((L.take k).map entB).length = k := by rw [List.length_map, List.length_take]; omega
  rw [partTE, partTE, List.set_append_right _ _ (by omega), hl, Nat.sub_self, show L.length - k = (L.length - (k + 1)) + 1 by omega, List.replicate_succ, List.set_cons_zero, List.take_succ_eq_append_getElem h, List.map_append, List.append_assoc]
  rfl
set_option maxHeartbeats 4000000 in
set_option maxRecDepth 100000 in
theorem dev_texts15 (ao : Option Addr) (L : List EntN) (c : Nat) (w : World) (hL : ∀ x ∈ L, x.Len ∧ x.seq < 9223372036854775808) (hn : L.length ≤ 1000000) (hl : (entsB L).length ≤ 140737488355328) (hp : EntsAt ao L w) :
    Calls Try.prog 16 #[.slice ao L.length c] w fun e w' => e = .returned (.string ⟨(entsB L).toArray⟩) ∧ Below w.heap.size w w' := by
  obtain ⟨i0, hi2, hz0, hz1, hz2⟩ := info_parts Try.infoString
  have HY := Lib.hid hi2
  have HY0 := Lib.hid hz0
  have HY1 := Lib.hid hz1
  have HY2 := Lib.hid hz2
  have HP := Lib.hid hp
  have HO := Lib.hid hL
  have HZE := Lib.hid (show (Try.prog.info? 30).bind (·.zero) = some (.agg (entL noE).toArray) by kernel_rfl)
  have HLEN := Lib.hid hl
  obtain ⟨n, hnn⟩ : ∃ n, L.length = n := ⟨_, rfl⟩
  have HNN := Shut.mk hnn
  rw [hnn] at hn ⊢
  clear hnn hp hL hi2 hz0 hz1 hz2 hl
  go_enter Try.func16, Try.ntmps16
  go_wp2_with (at_make; refine wpList_make_full _ rfl _ _ 61 rfl w.heap.size 9 i0 (.string ⟨#[]⟩) 1 Try.underlying61 HY.out HY0.out HY1.out .i64 .i64 _ _ n rfl rfl rfl rfl (by rw [HY2.out]; omega) (by unfold maxLen; omega) (Nat.le_refl _) ?_)
  intro w2 ho hgrow
  have hb2 : Below w.heap.size w w2 := (Below.refl w.heap.size w).grown hgrow (Nat.le_refl _) (by intro g hg; cases hg)
  have HOW := Lib.hid (show OwnS w.heap.size (.slice (some ⟨w.heap.size, 0, none⟩) n n) (partTE L 0) w2 by rw [partTE_zero, HNN.out, OwnS, List.length_replicate, ← madeCells_strs]; exact ho)
  have HB2 := Lib.hid hb2
  have HWL := Lib.hid (show w.heap.size < w2.heap.size from (World.ownsRow.lt ho w.heap.size rfl).2)
  clear ho hgrow hb2
  go_wp2_with fail
  go_loopw [11] (fun i wr => ∃ k : Nat, k ≤ n ∧ i = .int .i64 k ∧ OwnS w.heap.size (.slice (some ⟨w.heap.size, 0, none⟩) n n) (partTE L k) wr ∧ Below w.heap.size w wr) (fun i _ => n - (intOf i).toNat)
  case atStart => exact ⟨0, Nat.zero_le _, rfl, HOW.out, HB2.out⟩
  case round =>
    clear HOW HB2
    obtain ⟨k, hk, rfl, ho, hb⟩ := hrel
    have HOW := Lib.hid ho
    have HB := Lib.hid hb
    have HPW := Lib.hid (HP.out.below hb)
    clear ho hb
    by_cases hlt : k < n
    · obtain ⟨y, hy⟩ : ∃ y, L[k]? = some y := ⟨_, List.getElem?_eq_getElem (by rw [HNN.out]; exact hlt)⟩
      have hyk : L[k]'(by rw [HNN.out]; exact hlt) = y := by
        rw [List.getElem?_eq_getElem (by rw [HNN.out]; exact hlt)] at hy
        exact Option.some.inj hy
      have HNX := Shut.mk (show (partTE L k).set k (entB y) = partTE L (k + 1) by rw [← hyk]; exact partTE_set (by rw [HNN.out]; exact hlt))
      have HFY := Lib.hid (HO.out y (List.mem_of_getElem? hy))
      obtain ⟨b, ob, rfl, hbl, hr⟩ := HPW.out.getM hy
      have HR := Lib.hid hr
      have HSO := Lib.hid (sizeEL HFY.out.1.ok)
      have HSV := Lib.hid (sizeEV HFY.out.1.ok)
      have HSZ := Lib.hid (show (entV noE).size = (entV y).size by rw [entV_size HFY.out.1.ok]; rfl)
      clear hy hyk hr hbl
      go_wp2_with (first
        | (refine wpList_load_mid rfl 30 _ rfl b (ob + k * 73) rfl _ _ HR.out Try.underlying30 rfl HSO.out ?_)
        | (refine wpList_alloc_of rfl 30 rfl (entL noE) HZE.out ?_)
        | (refine wpList_store_cells rfl 30 _ _ rfl rfl wr.heap.size (entV noE) (entV y) 30 rfl rfl (heap_alloc_new wr _) HSV.out HSZ.out (entV_all y) ?_))
      intro w4 hc hb
      have hb4 : Below wr.heap.size wr w4 := But.toBelow ((Below.refl _ wr).alloc (Nat.le_refl _) _) hb.out (Nat.le_refl _) (by rw [World.size_alloc]; exact Nat.le_succ _)
      have HC4 := Lib.hid hc.out
      have HB4 := Lib.hid (HB.out.trans (hb4.mono HB.out.size))
      have HO4 := Lib.hid (HOW.out.below hb4)
      clear hc hb hb4 HB HOW HR
      have HTX := Lib.hid (dev_text15 y HFY.out.1 HFY.out.2 w4)
      obtain ⟨T, hT⟩ : ∃ T, entB y = T := ⟨_, rfl⟩
      rw [hT] at HTX HNX
      clear hT
      go_wp2_with (refine wpList_load_cells rfl 30 _ rfl wr.heap.size (entV y) 30 _ rfl HC4.out Try.underlying30 rfl HSV.out ?_)
      refine HTX.out.mono ?_
      rintro e w5 ⟨rfl, hb⟩
      have HB5 := Lib.hid (HB4.out.trans (hb.mono HB4.out.size))
      have HO5 := Lib.hid (HO4.out.below hb)
      clear hb HB4 HO4 HC4 HTX
      obtain ⟨t0, ht0, hf0⟩ := HO5.out.there (by rw [partTE_len (by rw [HNN.out]; omega), HNN.out]) hlt
      go_wp2_with fail
      exact ⟨⟨k + 1, by omega, by go_num, by rw [← HNX.out]; exact HO5.out.setT (by rw [partTE_len (by rw [HNN.out]; omega), HNN.out]) k T, below_set HB5.out (Nat.le_refl _) _ _⟩, by simp [intOf]; omega⟩
    · obtain rfl : k = n := by omega
      have HOF := Lib.hid (show StrsAt (some ⟨w.heap.size, 0, none⟩) (L.map entB) wr by
        have h := HOW.out
        rw [← HNN.out, partTE_full] at h
        exact strsAt_own (B := w.heap.size) (c := L.length) (by rw [List.length_map]; exact h))
      have HLF := Lib.hid (list_any (some ⟨w.heap.size, 0, none⟩) k (L.map entB) wr HOF.out (by rw [List.length_map, HNN.out]; omega) (by have := HLEN.out; rw [entsB] at this; omega))
      rw [List.length_map, HNN.out] at HLF
      go_wp2_with fail
      refine HLF.out.mono ?_
      rintro e w5 ⟨rfl, hb⟩
      have HB5 := Lib.hid (HB.out.trans (hb.mono HB.out.size))
      clear hb
      go_wp2_with fail
      go_ret
      exact ⟨rfl, HB5.out⟩
end Go.Proofs.Ytenmkfjgjemiiaa
namespace Go.Proofs.Ytenmkfjgjemiiaa
open Go.RowKit Go.BigFrame
theorem madeCells_rep (K n : Nat) (z : List Value) (hz : z.length = K) (hK : 0 < K) : (madeCells z.toArray (n * K)).toList = (List.replicate n z).flatten := by
  have hW : Wide K (List.replicate n z) := fun x hx => by rw [(List.mem_replicate.1 hx).2]; exact hz
  refine List.ext_getElem? fun j => ?_
  by_cases hj : j < n * K
  · have hd : j / K < n := (Nat.div_lt_iff_lt_mul hK).2 hj
    have hm : j % K < K := Nat.mod_lt _ hK
    have h1 := flat_get hW (i := j / K) (j := j % K) (by rw [List.length_replicate]; exact hd) hm
    rw [Nat.div_add_mod] at h1
    rw [h1, List.getD_eq_getElem?_getD, List.getElem?_replicate, if_pos hd]
    have hl : j < (madeCells z.toArray (n * K)).toList.length := by simp [madeCells]; omega
    rw [List.getElem?_eq_getElem hl]
    simp only [madeCells, Array.getElem_toList, Array.getElem_map, Array.getElem_range, List.size_toArray, hz]
    rw [getElem!_pos _ _ (by rw [List.size_toArray, hz]; exact hm), List.getElem_toArray]
    simp only [Option.getD_some]
    rw [List.getElem?_eq_getElem (by rw [hz]; exact hm)]
  · rw [List.getElem?_eq_none (by simp [madeCells]; omega), List.getElem?_eq_none (by rw [flat_len hW, List.length_replicate]; omega)]
theorem OwnR.made {B K g n : Nat} {e : TypeId} {w : World} (z : List Value) (hz : z.length = K) (hK : 0 < K) (h : w.ownsRow B e K (.slice (some ⟨g, 0, none⟩) n n) n (madeCells z.toArray (n * K)).toList) :
    OwnR B K e (.slice (some ⟨g, 0, none⟩) n n) (List.replicate n z) w := by
  rw [madeCells_rep K n z hz hK] at h
  unfold OwnR
  rw [List.length_replicate]
  exact h
theorem OwnR.set {B K g n c i : Nat} {e : TypeId} {C : List (List Value)} {w : World} (hK : 0 < K) (hn : n = C.length) (h : OwnR B K e (.slice (some ⟨g, 0, none⟩) n c) C w) (hW : Wide K C) (hi : i < n) (x : List Value) (hx : x.length = K) :
    OwnR B K e (.slice (some ⟨g, 0, none⟩) n c) (C.set i x) (w.setCells g (K * i) x) := by
  subst hn
  have h5 := ownsRow_layV x C.flatten (K * i) w h
  rw [← flat_set hK hW hi hx] at h5
  unfold OwnR
  rw [List.length_set]
  exact h5
theorem OwnR.there {B K g n c i : Nat} {e : TypeId} {C : List (List Value)} {w : World} (hn : n = C.length) (h : OwnR B K e (.slice (some ⟨g, 0, none⟩) n c) C w) (hW : Wide K C) (hi : i < n) : w.there g (K * i) K := by
  subst hn
  intro j hj
  have hlt : K * i + j < C.length * K := Nat.lt_of_lt_of_le (Nat.add_lt_add_left hj _) (by rw [← Nat.mul_succ, Nat.mul_comm]; exact Nat.mul_le_mul_right _ hi)
  exact ⟨by rw [World.ownsRow.cellAt h (K * i + j) hlt, List.getElem?_eq_getElem (by rw [flat_len hW]; exact hlt)]; rfl, World.ownsRow.frozenAt h (K * i + j)⟩
end Go.Proofs.Ytenmkfjgjemiiaa
namespace Go.Proofs.Ytenmkfjgjemiiaa
open Go.RowKit Go.BigFrame
def partE15 (L : List EntN) (n : Nat) : List EntN := L ++ List.replicate (n - L.length) noE
theorem partE15_len {L : List EntN} {n : Nat} (h : L.length ≤ n) : (partE15 L n).length = n := by
  rw [partE15, List.length_append, List.length_replicate]
  omega
theorem partE15_set {L : List EntN} {n : Nat} (h : L.length < n) (y : EntN) : (partE15 L n).set L.length y = partE15 (L ++ [y]) n := by
  rw [partE15, partE15, List.set_append_right _ _ (Nat.le_refl _), Nat.sub_self, show n - L.length = (n - (L ++ [y]).length) + 1 by rw [List.length_append, List.length_singleton]; omega, List.replicate_succ, List.set_cons_zero, List.append_assoc]
  rfl
theorem partE15_full (L : List EntN) : partE15 L L.length = L := by simp [partE15]
theorem OwnE15.made {B g n : Nat} {w : World} (h : w.ownsRow B 30 73 (.slice (some ⟨g, 0, none⟩) n n) n (madeCells (Value.agg (entV noE)).cells (n * 73)).toList) : OwnE15 B (.slice (some ⟨g, 0, none⟩) n n) (partE15 [] n) w := by
  refine ⟨?_, fun x hx => ?_⟩
  · have h1 := OwnR.made (entL noE) rfl (by decide) h
    rwa [show (partE15 [] n).map entL = List.replicate n (entL noE) by simp [partE15]]
  · rw [partE15, List.nil_append] at hx
    rw [(List.mem_replicate.1 hx).2]
    exact noE_ok
theorem OwnE15.set {B g n c i : Nat} {L : List EntN} {w : World} (hn : n = L.length) (h : OwnE15 B (.slice (some ⟨g, 0, none⟩) n c) L w) (hi : i < n) (y : EntN) (hy : y.Ok) :
    OwnE15 B (.slice (some ⟨g, 0, none⟩) n c) (L.set i y) (w.setCells g (73 * i) (entL y)) := by
  refine ⟨?_, fun x hx => ?_⟩
  · have h1 := OwnR.set (by decide) (by rw [List.length_map]; exact hn) h.1 (wide_map fun x hx => entL_len (h.2 x hx)) hi (entL y) (entL_len hy)
    rwa [List.map_set]
  · rcases List.mem_or_eq_of_mem_set hx with h1 | rfl
    · exact h.2 x h1
    · exact hy
theorem OwnE15.there {B g n c i : Nat} {L : List EntN} {w : World} (hn : n = L.length) (h : OwnE15 B (.slice (some ⟨g, 0, none⟩) n c) L w) (hi : i < n) : w.there g (73 * i) 73 :=
  OwnR.there (by rw [List.length_map]; exact hn) h.1 (wide_map fun x hx => entL_len (h.2 x hx)) hi
end Go.Proofs.Ytenmkfjgjemiiaa
namespace Go.Proofs.Ytenmkfjgjemiiaa
open Go.RowKit Go.BigFrame
def DrAE (B : Nat) (o : Option (List EntN)) (y : Ending) (w' : World) : Prop := ∃ v, y = .returned (.tuple #[v, .int .i64 (if o.isSome then 0 else 4)]) ∧ OwnE15 B v (o.getD []) w'
set_option maxHeartbeats 8000000 in
set_option maxRecDepth 100000 in
theorem dev_readAll15 (s : List UInt8) (w : World) (hm : s.length ≤ 1000000) :
    Calls Try.prog 20 #[.string ⟨s.toArray⟩] w fun e w' => DrAE w.heap.size (readAllE s) e w' ∧ Below w.heap.size w w' := by
  have HM := Lib.hid hm
  clear hm
  go_enter Try.func20, Try.ntmps20
  go_wp2_with fail
  obtain ⟨q, hq⟩ : ∃ q, splitB s = q := ⟨_, rfl⟩
  have HL := Shut.mk hq
  have hcc := split_any s w (by have := HM.out; omega)
  rw [hq] at hcc
  clear hq
  refine hcc.mono ?_
  rintro e w2 ⟨⟨v, rfl, ho⟩, hb⟩
  obtain ⟨ao, cq, rfl⟩ := ho.form
  have HB2 := Lib.hid hb
  have HSA := Lib.hid (strsAt_own ho)
  clear hcc ho hb
  cases q with
  | none =>
    simp only [Option.getD_none, List.length_nil, Option.isSome_none]
    have HR := Shut.mk (show readAllE s = none by rw [readAllE, HL.out])
    go_wp2_with fail
    go_ret2
    exact ⟨⟨_, by rw [HR.out]; rfl, by rw [HR.out]; exact OwnE15.nil _ _⟩, HB2.out⟩
  | some l =>
    simp only [Option.getD_some, Option.isSome_some] at HSA ⊢
    obtain ⟨n, hn⟩ : ∃ n, l.length = n := ⟨_, rfl⟩
    have HN := Shut.mk hn
    rw [hn]
    clear hn
    have HLR := Lib.hid (split_parts HL.out)
    have hcount : n ≤ 262144 := by
      have h1 := splitB_some HL.out
      have h2 := listB_length_ge l
      have h3 : s.length ≤ 262144 := by
        have h := HL.out
        unfold splitB at h
        split at h
        · cases h
        · omega
      rw [h1] at h2
      rw [← HN.out]
      omega
    have HR0 := Shut.mk (show readAllE s = readEs l by rw [readAllE, HL.out])
    have HZE := Lib.hid (show (Try.prog.info? 30).bind (·.zero) = some (.agg (entL noE).toArray) by kernel_rfl)
    obtain ⟨bytes, hby, hinfo⟩ := Try.infoE73
    obtain ⟨i0, hi, hz0, hz1, hz2⟩ := info_parts hinfo
    have HIF := Lib.hid hi
    have HZ0 := Lib.hid hz0
    have HZ1 := Lib.hid hz1
    have HZ2 := Lib.hid (show i0.bytes * n ≤ 281474976710656 by rw [hz2]; exact Nat.le_trans (Nat.mul_le_mul hby hcount) (by decide))
    have HCN := Lib.hid hcount
    clear hi hz0 hz1 hz2 hby hinfo
    go_wp2_with (at_make; refine wpList_make_full _ rfl _ _ 22 rfl w2.heap.size 30 i0 _ 73 Try.underlying22 HIF.out HZ0.out HZ1.out .i64 .i64 _ _ n rfl rfl rfl rfl HZ2.out (by have := HCN.out; unfold maxLen; omega) (Nat.le_refl _) ?_)
    intro w3 ho3 hg3
    have hb3 : Below w2.heap.size w2 w3 := (Below.refl w2.heap.size w2).grown hg3 (Nat.le_refl _) (by intro g hg; cases hg)
    have HO3 := Lib.hid (show OwnE15 w2.heap.size (.slice (some ⟨w2.heap.size, 0, none⟩) n n) (partE15 [] n) w3 from OwnE15.made ho3)
    have HB3 := Lib.hid hb3
    obtain ⟨g, hg⟩ : ∃ g, g = w2.heap.size := ⟨_, rfl⟩
    rw [← hg] at HO3 ⊢
    have HGE := Shut.mk hg
    clear ho3 hg3 hb3 hg
    go_wp2_with fail
    go_loopw [24] (fun i wr => ∃ (k : Nat) (L : List EntN), k ≤ n ∧ i = .int .i64 k ∧ L.length = k ∧ (l.take k).map readE = L.map some ∧ OwnE15 g (.slice (some ⟨g, 0, none⟩) n n) (partE15 L n) wr ∧ Below w2.heap.size w2 wr) (fun i _ => n - (intOf i).toNat)
    case atStart => exact ⟨0, [], Nat.zero_le _, rfl, rfl, by rfl, HO3.out, HB3.out⟩
    case round =>
      clear HO3 HB3
      obtain ⟨k, L, hk, rfl, hLk, hmap, hown, hb⟩ := hrel
      have HLK := Shut.mk hLk
      have HMP := Shut.mk hmap
      have HO := Lib.hid hown
      have HBW := Lib.hid hb
      have HSW := Lib.hid (HSA.out.below hb)
      clear hLk hmap hown hb
      by_cases hkn : k < n
      · obtain ⟨t, ht⟩ : ∃ t, l[k]'(by rw [HN.out]; exact hkn) = t := ⟨_, rfl⟩
        obtain ⟨gs, og, rfl, c0⟩ := HSW.out.cell (q := k) (by rw [HN.out]; exact hkn)
        rw [ht] at c0
        have HT := Shut.mk ht
        have HTL := Lib.hid (show t.length ≤ 262144 from HLR.out t (by rw [← ht]; exact List.getElem_mem _))
        clear ht
        have HRD := Lib.hid (dev_read15 t wr (by have := HTL.out; omega))
        obtain ⟨o, hor⟩ : ∃ o, readE t = o := ⟨_, rfl⟩
        have HOR := Shut.mk hor
        rw [hor] at HRD
        clear hor
        obtain ⟨y, hy⟩ : ∃ y, o.getD noE = y := ⟨_, rfl⟩
        have HY := Shut.mk hy
        have HOK := Lib.hid (show y.Ok by
          rw [← hy]
          cases o with
          | none => exact noE_ok
          | some o => exact (readE_some HOR.out).2.2)
        have HSV := Lib.hid (sizeEV HOK.out)
        have HSZ := Lib.hid (show (entV noE).size = (entV y).size by rw [entV_size HOK.out]; rfl)
        unfold DrE at HRD
        rw [hy] at HRD
        clear hy
        go_wp2_with fail
        refine HRD.out.mono ?_
        rintro e w4 ⟨rfl, hb⟩
        have HB4 := Lib.hid hb
        clear hb c0 HRD
        cases o with
        | none =>
          simp only [Option.isSome_none]
          have HR := Shut.mk (show readAllE s = none by
            rw [HR0.out]
            refine readEs_bad (k := k) (by rw [HN.out]; exact hkn) ?_
            rw [HT.out, HOR.out])
          go_wp2_with (first
            | (refine wpList_alloc_of rfl 30 rfl (entL noE) HZE.out ?_)
            | (refine wpList_store_cells rfl 30 _ _ rfl rfl w4.heap.size (entV noE) (entV y) 30 rfl rfl (heap_alloc_new w4 _) HSV.out HSZ.out (entV_all y) ?_))
          intro w5 hc hb
          have hb5 : Below w4.heap.size w4 w5 := But.toBelow ((Below.refl _ w4).alloc (Nat.le_refl _) _) hb.out (Nat.le_refl _) (by rw [World.size_alloc]; exact Nat.le_succ _)
          have HB5 := Lib.hid (HB4.out.trans (hb5.mono HB4.out.size))
          clear hc hb hb5 HB4
          go_wp2_with fail
          go_ret2
          exact ⟨⟨_, by rw [HR.out]; rfl, by rw [HR.out]; exact OwnE15.nil _ _⟩, HB2.out.trans ((HBW.out.trans (HB5.out.mono HBW.out.size)).mono HB2.out.size)⟩
        | some oo =>
          simp only [Option.isSome_some]
          obtain rfl : oo = y := HY.out
          go_wp2_with (first
            | (refine wpList_alloc_of rfl 30 rfl (entL noE) HZE.out ?_)
            | (refine wpList_store_cells rfl 30 _ _ rfl rfl w4.heap.size (entV noE) (entV oo) 30 rfl rfl (heap_alloc_new w4 _) HSV.out HSZ.out (entV_all oo) ?_))
          intro w5 hc hb
          have hb5 : Below w4.heap.size w4 w5 := But.toBelow ((Below.refl _ w4).alloc (Nat.le_refl _) _) hb.out (Nat.le_refl _) (by rw [World.size_alloc]; exact Nat.le_succ _)
          have HC5 := Lib.hid hc.out
          have HB5 := Lib.hid (HB4.out.trans (hb5.mono HB4.out.size))
          have HO5 := Lib.hid (HO.out.below HB5.out)
          have HPL := Lib.hid (show n = (partE15 L n).length from (partE15_len (by rw [HLK.out]; omega)).symm)
          have HTH := Lib.hid (HO5.out.there HPL.out hkn)
          have HPS := Shut.mk (show (partE15 L n).set k oo = partE15 (L ++ [oo]) n by rw [← HLK.out]; exact partE15_set (by rw [HLK.out]; exact hkn) oo)
          have HV73 := Lib.hid (show (entV oo).size = 73 from entV_size HOK.out)
          clear hc hb hb5 HB4 HO
          go_wp2_with (first
            | (refine wpList_load_cells rfl 30 _ rfl w4.heap.size (entV oo) 30 _ rfl HC5.out Try.underlying30 rfl HSV.out ?_)
            | (refine wpList_store_mid rfl 30 _ _ rfl g (k * 73) _ rfl rfl (by rw [HV73.out, Nat.mul_comm]; exact HTH.out) HSV.out (entV_all oo) ?_))
          have hset := HO5.out.set HPL.out hkn oo HOK.out
          rw [HPS.out, show entL oo = (entV oo).toList from rfl, Nat.mul_comm 73 k] at hset
          have hbw := But.cells (entV oo).toList (k * 73) w5 (But.refl g w5)
          refine ⟨⟨k + 1, L ++ [oo], by omega, by go_num, by rw [List.length_append, HLK.out]; rfl, ?_, hset, But.toBelow (HBW.out.trans (HB5.out.mono HBW.out.size)) hbw (by rw [HGE.out]; exact Nat.le_refl _) (Nat.le_trans HBW.out.size HB5.out.size)⟩, by simp [intOf]; omega⟩
          rw [List.take_succ_eq_append_getElem (by rw [HN.out]; exact hkn), List.map_append, List.map_append, HMP.out, HT.out]
          simp only [List.map_cons, List.map_nil]
          rw [HOR.out]
      · obtain rfl : k = n := by omega
        have HR := Shut.mk (show readAllE s = some L by
          rw [HR0.out]
          refine (readEs_iff l L).2 ?_
          rw [← HMP.out, List.take_of_length_le (by rw [HN.out]; exact Nat.le_refl _)])
        have HPF := Shut.mk (show partE15 L k = L by rw [← HLK.out]; exact partE15_full L)
        rw [HPF.out] at HO
        have HGB := Lib.hid (show w.heap.size ≤ g by rw [HGE.out]; exact HB2.out.size)
        go_wp2_with fail
        go_ret2
        exact ⟨⟨_, by rw [HR.out]; rfl, by rw [HR.out]; exact HO.out.mono HGB.out⟩, HB2.out.trans (HBW.out.mono HB2.out.size)⟩
end Go.Proofs.Ytenmkfjgjemiiaa
namespace Go.Proofs.Ytenmkfjgjemiiaa
open Go.RowKit Go.BigFrame
def outOV (m : Int) (p : List UInt8) : Array Value := #[.int .i64 m, .string ⟨p.toArray⟩]
theorem outOV_at (m : Int) (p : List UInt8) {g : Nat} {w : World} (h : Cells g 35 (outOV m p) w) : w.cell? ⟨g, 0, none⟩ = some (.int .i64 m) ∧ w.cell? ⟨g, 1, none⟩ = some (.string ⟨p.toArray⟩) := ⟨h.at 0, h.at 1⟩
set_option maxHeartbeats 4000000 in
set_option maxRecDepth 100000 in
theorem dev_out15 (m : Int) (p : List UInt8) (w : World) :
    Calls Try.prog 15 #[.agg #[.int .i64 m, .string ⟨p.toArray⟩]] w fun e w' => e = .returned (.agg (entV (outE m p))) ∧ Below w.heap.size w w' := by
  have HZE := Lib.hid (show (Try.prog.info? 30).bind (·.zero) = some (.agg (entL noE).toArray) by kernel_rfl)
  have HSZ := Lib.hid (show (entV noE).size = (entV (outE m p)).size by rw [entV_size (outE_ok _ _)]; rfl)
  have HSN := Lib.hid (fun w' => dev_send15 m p w')
  have hx : Cells w.heap.size 35 (outOV m p) (w.alloc (.cells (outOV m p) 35)) := heap_alloc_new w _
  have hb : Below w.heap.size w (w.alloc (.cells (outOV m p) 35)) := (Below.refl _ _).alloc (Nat.le_refl _) _
  have HX := Lib.hid hx
  have HB := Lib.hid hb
  clear hx hb
  go_enter Try.func15, Try.ntmps15
  go_upto_region 1 with (first | (refine wpList_alloc_of rfl 30 rfl (entL noE) HZE.out ?_))
  rw [show (#[.int .i64 m, .string ⟨p.toArray⟩] : Array Value) = outOV m p from rfl]
  obtain ⟨w1, hw1⟩ : ∃ x, x = w.alloc (.cells (outOV m p) 35) := ⟨_, rfl⟩
  rw [← hw1] at HX HB ⊢
  clear hw1
  have hx : Cells w1.heap.size 30 (entV noE) (w1.alloc (.cells (entV noE) 30)) := heap_alloc_new w1 _
  have hb : Below w1.heap.size w1 (w1.alloc (.cells (entV noE) 30)) := (Below.refl _ _).alloc (Nat.le_refl _) _
  change Code.wp _ _ _ _ (w1.alloc (.cells (entV noE) 30))
  have HX2 := Lib.hid (HX.out.below hb)
  have HB2 := Lib.hid (HB.out.trans (hb.mono HB.out.size))
  have HG := Lib.hid HB.out.size
  obtain ⟨w2, hw2⟩ : ∃ x, x = w1.alloc (.cells (entV noE) 30) := ⟨_, rfl⟩
  obtain ⟨g, hg⟩ : ∃ x, w1.heap.size = x := ⟨_, rfl⟩
  rw [← hw2] at hx HX2 HB2 ⊢
  rw [hg] at hx HG ⊢
  have HE := Lib.hid hx
  clear hw2 hg hx hb HX HB
  obtain ⟨c0, c1⟩ := outOV_at m p HX2.out
  go_wp2_with fail
  refine (HSN.out w2).mono ?_
  rintro e w3 ⟨rfl, hb⟩
  have HE3 := Lib.hid (HE.out.below hb)
  have HB3 := Lib.hid (HB2.out.trans (hb.mono HB2.out.size))
  clear hb HE HB2 HX2 c0 c1
  go_wp2_with (first | (refine wpList_store_cells rfl 30 _ _ rfl rfl g (entV noE) (entV (outE m p)) 30 rfl rfl HE3.out (sizeEV (outE_ok _ _)) HSZ.out (entV_all _) ?_))
  intro w9 hc hb
  have HC9 := Lib.hid hc.out
  have HB9 := Lib.hid (show Below w.heap.size w w9 from But.toBelow HB3.out hb.out HG.out HB3.out.size)
  clear hc hb HE3 HB3
  go_wp2_with fail
  refine bodyPost_ret (results_cells rfl _ _ g (entV (outE m p)) 30 _ rfl HC9.out Try.underlying30 rfl (sizeEV (outE_ok _ _))) rfl ?_
  exact ⟨rfl, HB9.out⟩
end Go.Proofs.Ytenmkfjgjemiiaa
namespace Go.Proofs.Ytenmkfjgjemiiaa
open Go.RowKit Go.BigFrame
theorem built_out1 : Try.prog.built 35 [(0, .int .i64 1)] = some #[.int .i64 1, .string ⟨#[]⟩] := by kernel_rfl
theorem built_out0 : Try.prog.built 35 [] = some #[.int .i64 0, .string ⟨#[]⟩] := by kernel_rfl
theorem alive_out1 : decide (GoodE (outE 1 [])) = true := decide_eq_true (.inr (.inr ⟨rfl, ⟨by decide, by decide, by decide⟩, rfl, rfl, rfl, rfl, rfl⟩))
theorem alive_out0 : decide (GoodE (outE 0 [])) = false := decide_eq_false (by
  rintro (h | h | h)
  · exact absurd h.1 (by decide)
  · exact absurd h.1 (by decide)
  · exact absurd h.2.1.1 (by decide))
theorem outE_len (m : Int) (p : List UInt8) (h : p.length ≤ 140737488351232) : (outE m p).Len := ⟨outE_ok m p, Nat.zero_le _, Nat.zero_le _, h, Nat.zero_le _⟩
set_option maxHeartbeats 4000000 in
set_option maxRecDepth 100000 in
theorem alive15_any (w : World) : Calls Try.prog 8 #[] w fun e w' => e = .returned (.bool true) ∧ Below w.heap.size w w' := by
  have HO1 := Lib.hid (fun w' => dev_out15 1 [] w')
  have HO0 := Lib.hid (fun w' => dev_out15 0 [] w')
  have HG1 := Lib.hid (fun w' => dev_good15 (outE 1 []) (outE_len 1 [] (Nat.zero_le _)) w')
  have HG0 := Lib.hid (fun w' => dev_good15 (outE 0 []) (outE_len 0 [] (Nat.zero_le _)) w')
  rw [alive_out1] at HG1
  rw [alive_out0] at HG0
  go_enter Try.func8, Try.ntmps8
  go_wp2_with (refine wpList_build_val rfl 35 _ rfl [(0, .int .i64 1)] _ (by rw [List.map_toArray]; rfl) built_out1 ?_)
  refine (HO1.out w).mono ?_
  rintro e w1 ⟨rfl, hb⟩
  have HB1 := Lib.hid hb
  clear hb
  go_wp2_with fail
  refine (HG1.out w1).mono ?_
  rintro e w2 ⟨rfl, hb⟩
  have HB2 := Lib.hid (HB1.out.trans (hb.mono HB1.out.size))
  clear hb
  go_wp2_with (refine wpList_build_want (by rfl) 35 _ rfl [] _ (by rfl) built_out0 ?_)
  refine (HO0.out w2).mono ?_
  rintro e w3 ⟨rfl, hb⟩
  have HB3 := Lib.hid (HB2.out.trans (hb.mono HB2.out.size))
  clear hb
  go_wp2_with fail
  refine (HG0.out w3).mono ?_
  rintro e w4 ⟨rfl, hb⟩
  have HB4 := Lib.hid (HB3.out.trans (hb.mono HB3.out.size))
  clear hb
  go_wp2_with fail
  go_ret
  exact ⟨rfl, HB4.out⟩
end Go.Proofs.Ytenmkfjgjemiiaa
