/-
  What the laws of layer 9 ask first: alive.
-/
import Derived.Test.YthgfpojfnhkckaaDoorOpTxt
import Derived.Test.YthgfpojfnhkckaaDoorOpGoodO
import Derived.Test.YthgfpojfnhkckaaDoorFlat
namespace Go.Proofs.YthgfpojfnhkckaaDoor
open Go.RowKit Go.BigFrame

def aliveD : DraftN := ⟨1, [107], [118], zeroI⟩
def aliveO (b : Int) : OpN := ⟨aliveD, 0, b, []⟩
theorem built_alive (b : Int) : Tryd.prog.built 30 [(0, .agg (draftV aliveD)), (2, .int .i64 b)] = some (opV (aliveO b) none 0) := by
  rw [op_fill]
  refine (fill_lay placeO 0 0 35 _ _ [] (draftL zeroD) [.int .i64 0, .int .i64 0, .slice none 0 0] (draftL aliveD) rfl rfl (draftL_len rfl) rfl rfl).trans ?_
  show Instr.fill _ (draftL aliveD ++ ([Value.int .i64 0] ++ ([Value.int .i64 0] ++ [Value.slice none 0 0]))).toArray _ = _
  rw [← List.append_assoc]
  refine ((fill_lay placeO 2 36 1 (.int .i64 b) [] (draftL aliveD ++ [.int .i64 0]) [.int .i64 0] [.slice none 0 0] [.int .i64 b] rfl rfl rfl rfl (by rw [List.length_append, draftL_len rfl]; rfl)).trans ?_)
  rw [fill_end, opV, opL, aliveO]
  simp
theorem built_aliveD : Tryd.prog.built 27 [(0, .int .i64 1), (1, .string ⟨#[107]⟩), (2, .string ⟨#[118]⟩)] = some (draftV aliveD) := by
  rw [draft_fill]
  refine (fill_lay placeD 0 0 1 _ _ [] [.int .i64 0] (.string ⟨#[]⟩ :: .string ⟨#[]⟩ :: nums .u8 zeroI) [.int .i64 1] rfl rfl rfl rfl rfl).trans ?_
  refine (fill_lay placeD 1 1 1 _ _ [.int .i64 1] [.string ⟨#[]⟩] (.string ⟨#[]⟩ :: nums .u8 zeroI) [.string ⟨#[107]⟩] rfl rfl rfl rfl rfl).trans ?_
  refine (fill_lay placeD 2 2 1 (.string ⟨#[118]⟩) [] [.int .i64 1, .string ⟨#[107]⟩] [.string ⟨#[]⟩] (nums .u8 zeroI) [.string ⟨#[118]⟩] rfl rfl rfl rfl rfl).trans ?_
  rw [fill_end]
  rfl
theorem aliveD_fit : aliveD.Fit := ⟨zeroI_ok, by decide, by decide, by decide, by decide⟩
theorem aliveO_ok (b : Int) : (aliveO b).Ok := ⟨zeroI_ok, fun p hp => by cases hp⟩
theorem alive_good : decide (GoodO (aliveO 1)) = true := decide_eq_true ⟨fun i hi => (by cases hi), fun _ => rfl, fun h => absurd rfl h, by decide, ⟨by decide, by decide, by decide, by decide, by decide, fun _ => rfl, fun h => (by cases h)⟩, by decide, by decide⟩
theorem alive_bad : decide (GoodO (aliveO 2)) = false := decide_eq_false fun h => by have := h.2.1 rfl; cases this
theorem alive_len : 40 < (draftB aliveD).length := by decide +kernel
set_option maxHeartbeats 4000000 in
set_option maxRecDepth 100000 in
theorem alive9_any (w : World) : Calls Tryd.prog 5 #[] w fun e w' => e = .returned (.bool true) ∧ Below w.heap.size w w' := by
  have HZD := Lib.hid (show (Tryd.prog.info? 27).bind (·.zero) = some (.agg (draftL zeroD).toArray) by kernel_rfl)
  have HSD := Lib.hid (show (Tryd.prog.info? 27).map (·.size) = some (draftV aliveD).size from Tryd.sizeD)
  have HG1 := Lib.hid (fun w' => dev_goodOp (aliveO 1) none 0 w' (aliveO_ok 1) (.inl rfl) (by decide) (by decide) (by decide))
  have HG2 := Lib.hid (fun w' => dev_goodOp (aliveO 2) none 0 w' (aliveO_ok 2) (.inl rfl) (by decide) (by decide) (by decide))
  have HTX := Lib.hid (fun w' => dev_draftText aliveD aliveD_fit w')
  obtain ⟨T, hT⟩ : ∃ T, draftB aliveD = T := ⟨_, rfl⟩
  have hTl := alive_len
  rw [hT] at HTX hTl
  obtain ⟨tl, htl⟩ : ∃ n, T.length = n := ⟨_, rfl⟩
  rw [htl] at hTl
  have hTi : (40 : Int) < (tl : Int) := by omega
  rw [alive_good] at HG1
  rw [alive_bad] at HG2
  clear hT
  go_enter Tryd.func5, Tryd.ntmps5
  go_upto_region 1 with (fail)
  go_wp2_with (first
    | (refine wpList_build_val rfl 27 _ rfl [(0, .int .i64 1), (1, .string ⟨#[107]⟩), (2, .string ⟨#[118]⟩)] _ (by rw [List.map_toArray]; rfl) built_aliveD ?_)
    | (refine wpList_alloc_of rfl 27 rfl (draftL zeroD) HZD.out ?_)
    | (refine wpList_store_cells rfl 27 _ _ rfl rfl w.heap.size (draftV zeroD) (draftV aliveD) 27 rfl rfl (heap_alloc_new w _) HSD.out rfl (draftV_all aliveD) ?_))
  intro w1 hc hb
  have HC := Lib.hid hc.out
  have HB := Lib.hid (show Below w.heap.size w w1 from But.toBelow ((Below.refl _ w).alloc (Nat.le_refl _) _) hb.out (Nat.le_refl _) (by rw [World.size_alloc]; exact Nat.le_succ _))
  clear hc hb
  go_wp2_with (first
    | (refine wpList_load_cells rfl 27 _ rfl w.heap.size (draftV aliveD) 27 _ rfl HC.out Tryd.underlying27 rfl HSD.out ?_)
    | (refine wpList_build_val rfl 30 _ rfl [(0, .agg (draftV aliveD)), (2, .int .i64 1)] _ (by rw [List.map_toArray]; rfl) (built_alive 1) ?_))
  refine (HG1.out w1).mono ?_
  rintro e w2 ⟨rfl, hb⟩
  have HC2 := Lib.hid (HC.out.below hb)
  have HB2 := Lib.hid (HB.out.trans (hb.mono HB.out.size))
  clear hb HC HB HG1
  go_wp2_with (first
    | (refine wpList_load_cells_want (by rfl) 27 _ rfl w.heap.size (draftV aliveD) 27 _ rfl HC2.out Tryd.underlying27 rfl HSD.out ?_)
    | (refine wpList_build_want (by rfl) 30 _ rfl [(0, .agg (draftV aliveD)), (2, .int .i64 2)] _ (by rw [List.map_toArray]; rfl) (built_alive 2) ?_))
  refine (HG2.out w2).mono ?_
  rintro e w3 ⟨rfl, hb⟩
  have HC3 := Lib.hid (HC2.out.below hb)
  have HB3 := Lib.hid (HB2.out.trans (hb.mono HB2.out.size))
  clear hb HC2 HB2 HG2
  go_wp2_with (refine wpList_load_cells_want (by rfl) 27 _ rfl w.heap.size (draftV aliveD) 27 _ rfl HC3.out Tryd.underlying27 rfl HSD.out ?_)
  refine (HTX.out w3).mono ?_
  rintro e w4 ⟨rfl, hb⟩
  have HB4 := Lib.hid (HB3.out.trans (hb.mono HB3.out.size))
  clear hb HC3 HB3 HTX
  go_wp2_with fail
  go_ret
  exact ⟨rfl, HB4.out⟩
end Go.Proofs.YthgfpojfnhkckaaDoor
