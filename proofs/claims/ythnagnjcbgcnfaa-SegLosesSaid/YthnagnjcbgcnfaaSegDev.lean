/-
  The developers' seg: Append.
-/
import Derived.Test.YthnagnjcbgcnfaaSegStore
namespace Go.Proofs.Ythnagnjcbgcnfaa
open Go.RowKit Go.BigFrame

def OrO (O P : Nat → Prop) : Nat → Prop := fun b => O b ∨ P b
/-- What becomes of a disk by an Append. -/
def AppR (s : DS) (e : Nat) (S S' : List UInt8) (E : Nat) (s' : DS) (g : Prop) : Prop :=
  (E = 0 ∧ Live s' (e + 1) S' ∧ g ∧ (s.fuse = 0 → s'.fuse = 0)) ∨ (E = 7 ∧ s.fuse ≠ 0 ∧ (Down s' e S ∨ Down s' (e + 1) S'))

set_option maxHeartbeats 4000000 in
set_option maxRecDepth 100000 in
theorem dev8_append_long (O P : Nat → Prop) (vs vd : Value) (s : DS) (e : Nat) (S : List UInt8) (t : List UInt8) (lo : Option Addr) (lc : Nat) (w : World) (_h : DiskIs O vd s w) (hs : SegIs P vs vd e S w) (hL : StrsAt lo [t] w) (ht : 250000 < t.length) (htl : t.length ≤ 260000) :
    Calls Try.prog 10 #[vs, .slice lo 1 lc] w fun x w' => x = .returned (.int .i64 3) ∧ Below w.heap.size w w' := by
  obtain ⟨b, rfl, _, _⟩ := hs
  have HC := Lib.hid (dev8_contains lo lc 1 0 true (by decide) w (index_long lo lc t w hL ht (by omega)))
  clear hL ht htl
  go_enter Try.func10, Try.ntmps10
  go_wp2_with fail
  refine HC.out.mono ?_
  rintro x w1 ⟨rfl, rfl⟩
  go_wp2_with fail
  go_ret
  exact ⟨rfl, Below.refl _ _⟩

set_option maxHeartbeats 4000000 in
set_option maxRecDepth 100000 in
theorem dev8_append (O P : Nat → Prop) (vs vd : Value) (s : DS) (e : Nat) (S : List UInt8) (L : List (List UInt8)) (lo : Option Addr) (lc n : Nat) (w : World) (h : DiskIs O vd s w) (hs : SegIs P vs vd e S w) (hap : ∀ b, O b → ¬ P b) (hl : Live s e S) (hf : Fit s n) (hn : n + s.safe.length + 4 ≤ 900000)
    (hL : StrsAt lo L w) (hLO : L ≠ [] → ∀ a, lo = some a → ¬ OrO O P a.block) (hLl : ∀ t ∈ L, t.length ≤ 250000) (hfit : (S ++ textsB L).length ≤ 128 * (s.safe.length - 2)) (he : e + 1 ≤ 4611686018427387904) :
    Calls Try.prog 10 #[vs, .slice lo L.length lc] w fun x w' => ∃ E s' O' P', x = .returned (.int .i64 (E : Nat)) ∧ DiskIs O' vd s' w' ∧ Turn (OrO O P) (OrO O' P') w w' ∧ (∀ b, O' b → ¬ P' b) ∧ Fit s' (n + s.safe.length + 4) ∧ s'.safe.length = s.safe.length ∧
      AppR s e S (S ++ textsB L) E s' (SegIs P' vs vd (e + 1) (S ++ textsB L) w') := by
  obtain ⟨ad, rfl⟩ := h.ptr
  have hs' := hs
  obtain ⟨b, rfl, hPe, hc⟩ := hs
  have hkeep : ∀ w', Below w.heap.size w w' → DiskIs O (.pointer (some ad)) s w' ∧ SegIs P (.pointer (some ⟨b, 0, none⟩)) (.pointer (some ad)) e S w' ∧ StrsAt lo L w' := fun w' k => ⟨h.only (Only.of (O := fun _ => False) k) (fun _ _ => id), hs'.only (Only.of (O := fun _ => False) k) (fun _ _ => id), hL.below k⟩
  have h16 := hf.safe
  have hf9 := hf.mono (show n ≤ 999999 by omega)
  have htw := hl.opens.two
  have hfs := hl.opens.fits
  have hcnt := textsB_count L
  have hsum : S.length + (textsB L).length ≤ 128 * (s.safe.length - 2) := by rw [← List.length_append]; exact hfit
  have HC := Lib.hid (dev8_contains lo lc L.length (-1) false (by decide) w (index_none lo lc L w hL hLl (by omega)))
  have HNE := Lib.hid (fun w' k => dev8_needed lo lc L w' (hkeep w' k).2.2 (by omega))
  have HRO := Lib.hid (fun w' k => dev8_room O P (.pointer (some ⟨b, 0, none⟩)) (.pointer (some ad)) s e S w' (hkeep w' k).1 (hkeep w' k).2.1 hf9 htw hfs)
  have HST := Lib.hid (fun w' k => dev8_store O P (.pointer (some ⟨b, 0, none⟩)) (.pointer (some ad)) s e S L lo lc n w' (hkeep w' k).1 (hkeep w' k).2.1 hap hl hf hn (hkeep w' k).2.2 (fun h a ha hO => hLO h a ha (.inl hO)) hLl hfit he)
  have HCB := Lib.hid hc
  have hblt := hc.lt
  have HPE := Shut.mk hPe
  have HAP := Lib.hid hap
  have HLT := Lib.hid h.lt
  have c1 := hc.at 1
  have c2 := hc.at 2
  have c3 := hc.at 3
  simp only [segV, List.getElem?_toArray, List.getElem?_cons_zero, List.getElem?_cons_succ] at c1 c2 c3
  obtain ⟨T, hT⟩ : ∃ T, S ++ textsB L = T := ⟨_, rfl⟩
  have hTl : T.length = S.length + (textsB L).length := by rw [← hT, List.length_append]
  rw [hT] at HST ⊢
  obtain ⟨nd, hnd⟩ : ∃ x, (textsB L).length = x := ⟨_, rfl⟩
  obtain ⟨sl, hsl⟩ : ∃ x, S.length = x := ⟨_, rfl⟩
  obtain ⟨rm, hrm⟩ : ∃ x, 128 * (s.safe.length - 2) - S.length = x := ⟨_, rfl⟩
  rw [hrm] at HRO
  rw [hnd] at HNE
  have hroom : (nd : Int) ≤ (rm : Int) := by omega
  have hrm3 : rm ≤ 3000000 := by omega
  have hnd3 : nd ≤ 3000000 := by omega
  have hsl3 : sl ≤ 3000000 := by omega
  rw [hTl, hnd, hsl] at HST
  rw [hsl] at c2
  have HTL := Shut.mk (show T.length = sl + nd by omega)
  have HSL := Shut.mk hsl
  have HE := Lib.hid he
  have H0 := Lib.hid (show Below w.heap.size w w from Below.refl _ _)
  have hei : ((e : Int) == 4611686018427387904) = false := by simp; omega
  clear h hs' hPe hc hap hl hf hn hL hLO hLl hfit he hkeep h16 hf9 htw hfs hcnt hsum hT hTl hnd hsl hrm
  go_enter Try.func10, Try.ntmps10
  go_wp2_with fail
  refine HC.out.mono ?_
  rintro x w1 ⟨rfl, rfl⟩
  clear HC
  go_wp2_with fail
  refine (HNE.out w1 H0.out).mono ?_
  rintro x w2 ⟨rfl, hb2⟩
  have HB2 := Lib.hid hb2
  clear hb2
  go_wp2_with fail
  refine (HRO.out w2 HB2.out).mono ?_
  rintro x w3 ⟨rfl, hb3⟩
  have hgt : decide (rm < nd) = false := decide_eq_false (by omega)
  have HB3 := Lib.hid (HB2.out.trans (hb3.mono HB2.out.size))
  have hc3 := HCB.out.below HB3.out
  have d1 := hc3.at 1
  have d2 := hc3.at 2
  simp only [segV, List.getElem?_toArray, List.getElem?_cons_zero, List.getElem?_cons_succ] at d1 d2
  rw [HSL.out] at d2
  have HC3 := Lib.hid hc3
  have hbl3 := hc3.lt
  clear hb3 HB2 HRO c1 c2 c3 hc3 hroom
  go_wp2_with fail
  have HCF := Lib.hid (fun (w' : World) (k : Below w3.heap.size w3 w') => show w'.cell? ⟨b, 1, none⟩ = some (.int .i64 (e : Int)) ∧ w'.cell? ⟨b, 2, none⟩ = some (.int .i64 (sl : Int)) from ⟨(k.cell (p := ⟨b, 1, none⟩) hbl3).trans d1, (k.cell (p := ⟨b, 2, none⟩) hbl3).trans d2⟩)
  have HNX := Lib.hid (fun (w' : World) (k : Below w3.heap.size w3 w') => HNE.out w' (HB3.out.trans (k.mono HB3.out.size)))
  have hsn : (sl : Int) + (nd : Int) ≤ 6000000 := by omega
  have hei2 : (e : Int) ≤ 4611686018427387903 := by have := HE.out; omega
  obtain ⟨e1, he1⟩ : ∃ x, e + 1 = x := ⟨_, rfl⟩
  obtain ⟨tl, htl⟩ : ∃ x, sl + nd = x := ⟨_, rfl⟩
  have he1i : (e : Int) + 1 = (e1 : Int) := by omega
  have htli : (sl : Int) + (nd : Int) = (tl : Int) := by omega
  rw [he1, htl] at HST
  rw [htl] at HTL
  have HE1 := Shut.mk he1
  have HFA := Lib.hid (show ∀ w, (Instr.fieldAt 57 (.pointer (some ⟨b, 0, none⟩)) 1).run Try.prog w = .ok (.pointer (some ⟨b, 1, none⟩)) w from fun w => by go_simp)
  have HFB := Lib.hid (show ∀ w, (Instr.fieldAt 49 (.pointer (some ⟨b, 1, none⟩)) 0).run Try.prog w = .ok (.pointer (some ⟨b, 1, none⟩)) w from fun w => by go_simp)
  have HFC := Lib.hid (show ∀ w, (Instr.fieldAt 49 (.pointer (some ⟨b, 1, none⟩)) 1).run Try.prog w = .ok (.pointer (some ⟨b, 2, none⟩)) w from fun w => by go_simp)
  have HG1 := Lib.hid (show ∀ w, (eqGuard .add 3 (.tmp 41) (.const (.int .i64 1)) (.int .i64 (e : Int)) (.int .i64 1)).run Try.prog w = .ok () w from fun w => by go_simp)
  have HG2 := Lib.hid (show ∀ w, (binOp .add 3 (.int .i64 (e : Int)) (.int .i64 1)).run Try.prog w = .ok (.int .i64 (e1 : Int)) w from fun w => by
    go_simp
    rw [IntKind.wrap_i64]
    omega)
  have HG3 := Lib.hid (show ∀ w, (eqGuard .add 3 (.tmp 47) (.tmp 49) (.int .i64 (sl : Int)) (.int .i64 (nd : Int))).run Try.prog w = .ok () w from fun w => by go_simp)
  have HG4 := Lib.hid (show ∀ w, (binOp .add 3 (.int .i64 (sl : Int)) (.int .i64 (nd : Int))).run Try.prog w = .ok (.int .i64 (tl : Int)) w from fun w => by
    go_simp
    rw [IntKind.wrap_i64]
    omega)
  have HBD := Lib.hid (show ∀ w, (Instr.build 49 ([(0, .int .i64 (e1 : Int)), (1, .int .i64 (tl : Int))] : List (Nat × Value)).toArray).run Try.prog w = .ok (.agg (slotV e1 tl)) w from fun w => by
    unfold slotV
    go_simp)
  have HAL := Lib.hid (show ∀ w : World, (Instr.alloc 49 true (.tuple #[])).run Try.prog w = .ok (.pointer (some ⟨w.heap.size, 0, none⟩)) (w.alloc (.cells (nums .i64 [0, 0]).toArray 49)) from fun w => by kernel_rfl)
  have HIS := Lib.hid (show (Try.prog.info? 49).map (·.size) = some (slotV e1 tl).size by kernel_rfl)
  have HD0 := Lib.hid (show Below w3.heap.size w3 w3.drew from (Below.refl _ _).drew)
  clear HNE hei hgt d1 d2 he1 htl
  refine wp_region_free 16 (fun q V w' => Val q V 0 (.pointer (some ⟨b, 0, none⟩)) ∧ Val q V 1 (.pointer (some ⟨b, 0, none⟩)) ∧ Val q V 2 (.pointer (some ⟨b, 1, none⟩)) ∧ Val q V 3 (.pointer (some ⟨b, 1, none⟩)) ∧ Val q V 4 (.int .i64 (e : Int)) ∧ Val q V 5 (.int .i64 (e1 : Int)) ∧ Val q V 6 (.pointer (some ⟨b, 0, none⟩)) ∧ Val q V 7 (.pointer (some ⟨b, 0, none⟩)) ∧ Val q V 8 (.pointer (some ⟨b, 1, none⟩)) ∧ Val q V 9 (.pointer (some ⟨b, 2, none⟩)) ∧ Val q V 10 (.int .i64 (sl : Int)) ∧ Val q V 11 (.slice lo L.length lc) ∧ Val q V 12 (.int .i64 (nd : Int)) ∧ Val q V 13 (.int .i64 (tl : Int)) ∧ Val q V 14 (.agg (slotV e1 tl)) ∧ New q V w3.heap.size 15 49 .i64 [0, 0] w' ∧ Below w3.heap.size w3 w') (fun _ => undef) (by kernel_rfl) (by kernel_rfl) (by kernel_rfl) (by simp only [List.take_succ_cons, List.take_zero, putAll, Act.put, List.setIfInBounds_toArray, List.set_cons_zero, List.set_cons_succ]) ⟨Val.none, Val.none, Val.none, Val.none, Val.none, Val.none, Val.none, Val.none, Val.none, Val.none, Val.none, Val.none, Val.none, Val.none, Val.none, New.none, HD0.out⟩ ?_ ?_
  · simp only [List.take_succ_cons, List.take_zero, putAll, Nat.zero_add, Nat.reduceAdd, Act.put, List.setIfInBounds_toArray, List.set_cons_zero, List.set_cons_succ]
    refine FreeSteps.cons ?_ (FreeSteps.cons ?_ (FreeSteps.cons ?_ (FreeSteps.cons ?_ (FreeSteps.cons ?_ (FreeSteps.cons ?_ (FreeSteps.cons ?_ (FreeSteps.cons ?_ (FreeSteps.cons ?_ (FreeSteps.cons ?_ (FreeSteps.cons ?_ (FreeSteps.cons ?_ (FreeSteps.cons ?_ (FreeSteps.cons ?_ (FreeSteps.cons ?_ (FreeSteps.cons ?_ FreeSteps.nil)))))))))))))))
    all_goals (refine FreeStep.fresh rfl ?_; rintro q V wq hr hu ⟨h0, h1, h2, h3, h4, h5, h6, h7, h8, h9, h10, h11, h12, h13, h14, h15, hb⟩ K hK)
    · exact op_move (.tmp 0) rfl _ rfl (hK _ _ ⟨.same, h1.ne (by decide), h2.ne (by decide), h3.ne (by decide), h4.ne (by decide), h5.ne (by decide), h6.ne (by decide), h7.ne (by decide), h8.ne (by decide), h9.ne (by decide), h10.ne (by decide), h11.ne (by decide), h12.ne (by decide), h13.ne (by decide), h14.ne (by decide), h15.ne (by decide) (Below.refl _ _), hb⟩)
    · exact op_nilCheck (.tmp 37) rfl _ (h0 (hr { on := 0, ground := .data } (by simp) rfl)) (hK _ _ ⟨h0.ne (by decide), .same, h2.ne (by decide), h3.ne (by decide), h4.ne (by decide), h5.ne (by decide), h6.ne (by decide), h7.ne (by decide), h8.ne (by decide), h9.ne (by decide), h10.ne (by decide), h11.ne (by decide), h12.ne (by decide), h13.ne (by decide), h14.ne (by decide), h15.ne (by decide) (Below.refl _ _), hb⟩)
    · exact op_fieldAt 57 (.tmp 38) 1 rfl _ _ (h1 (hr { on := 1, ground := .data } (by simp) rfl)) HFA.out (hK _ _ ⟨h0.ne (by decide), h1.ne (by decide), .same, h3.ne (by decide), h4.ne (by decide), h5.ne (by decide), h6.ne (by decide), h7.ne (by decide), h8.ne (by decide), h9.ne (by decide), h10.ne (by decide), h11.ne (by decide), h12.ne (by decide), h13.ne (by decide), h14.ne (by decide), h15.ne (by decide) (Below.refl _ _), hb⟩)
    · exact op_fieldAt 49 (.tmp 39) 0 rfl _ _ (h2 (hr { on := 2, ground := .data } (by simp) rfl)) HFB.out (hK _ _ ⟨h0.ne (by decide), h1.ne (by decide), h2.ne (by decide), .same, h4.ne (by decide), h5.ne (by decide), h6.ne (by decide), h7.ne (by decide), h8.ne (by decide), h9.ne (by decide), h10.ne (by decide), h11.ne (by decide), h12.ne (by decide), h13.ne (by decide), h14.ne (by decide), h15.ne (by decide) (Below.refl _ _), hb⟩)
    · exact op_load_cell 3 (.tmp 40) rfl _ _ (h3 (hr { on := 3, ground := .data } (by simp) rfl)) (HCF.out wq hb).1 Try.isAgg3 (hK _ _ ⟨h0.ne (by decide), h1.ne (by decide), h2.ne (by decide), h3.ne (by decide), .same, h5.ne (by decide), h6.ne (by decide), h7.ne (by decide), h8.ne (by decide), h9.ne (by decide), h10.ne (by decide), h11.ne (by decide), h12.ne (by decide), h13.ne (by decide), h14.ne (by decide), h15.ne (by decide) (Below.refl _ _), hb⟩)
    · exact op_bin .add 3 3 (.tmp 41) (.const (.int .i64 1)) rfl _ _ _ (h4 (hr { on := 4, ground := .data } (by simp) rfl)) rfl HG1.out HG2.out (hK _ _ ⟨h0.ne (by decide), h1.ne (by decide), h2.ne (by decide), h3.ne (by decide), h4.ne (by decide), .same, h6.ne (by decide), h7.ne (by decide), h8.ne (by decide), h9.ne (by decide), h10.ne (by decide), h11.ne (by decide), h12.ne (by decide), h13.ne (by decide), h14.ne (by decide), h15.ne (by decide) (Below.refl _ _), hb⟩)
    · exact op_move (.tmp 0) rfl _ rfl (hK _ _ ⟨h0.ne (by decide), h1.ne (by decide), h2.ne (by decide), h3.ne (by decide), h4.ne (by decide), h5.ne (by decide), .same, h7.ne (by decide), h8.ne (by decide), h9.ne (by decide), h10.ne (by decide), h11.ne (by decide), h12.ne (by decide), h13.ne (by decide), h14.ne (by decide), h15.ne (by decide) (Below.refl _ _), hb⟩)
    · exact op_nilCheck (.tmp 43) rfl _ (h6 (hr { on := 6, ground := .data } (by simp) rfl)) (hK _ _ ⟨h0.ne (by decide), h1.ne (by decide), h2.ne (by decide), h3.ne (by decide), h4.ne (by decide), h5.ne (by decide), h6.ne (by decide), .same, h8.ne (by decide), h9.ne (by decide), h10.ne (by decide), h11.ne (by decide), h12.ne (by decide), h13.ne (by decide), h14.ne (by decide), h15.ne (by decide) (Below.refl _ _), hb⟩)
    · exact op_fieldAt 57 (.tmp 44) 1 rfl _ _ (h7 (hr { on := 7, ground := .data } (by simp) rfl)) HFA.out (hK _ _ ⟨h0.ne (by decide), h1.ne (by decide), h2.ne (by decide), h3.ne (by decide), h4.ne (by decide), h5.ne (by decide), h6.ne (by decide), h7.ne (by decide), .same, h9.ne (by decide), h10.ne (by decide), h11.ne (by decide), h12.ne (by decide), h13.ne (by decide), h14.ne (by decide), h15.ne (by decide) (Below.refl _ _), hb⟩)
    · exact op_fieldAt 49 (.tmp 45) 1 rfl _ _ (h8 (hr { on := 8, ground := .data } (by simp) rfl)) HFC.out (hK _ _ ⟨h0.ne (by decide), h1.ne (by decide), h2.ne (by decide), h3.ne (by decide), h4.ne (by decide), h5.ne (by decide), h6.ne (by decide), h7.ne (by decide), h8.ne (by decide), .same, h10.ne (by decide), h11.ne (by decide), h12.ne (by decide), h13.ne (by decide), h14.ne (by decide), h15.ne (by decide) (Below.refl _ _), hb⟩)
    · exact op_load_cell 3 (.tmp 46) rfl _ _ (h9 (hr { on := 9, ground := .data } (by simp) rfl)) (HCF.out wq hb).2 Try.isAgg3 (hK _ _ ⟨h0.ne (by decide), h1.ne (by decide), h2.ne (by decide), h3.ne (by decide), h4.ne (by decide), h5.ne (by decide), h6.ne (by decide), h7.ne (by decide), h8.ne (by decide), h9.ne (by decide), .same, h11.ne (by decide), h12.ne (by decide), h13.ne (by decide), h14.ne (by decide), h15.ne (by decide) (Below.refl _ _), hb⟩)
    · exact op_move (.tmp 1) rfl _ rfl (hK _ _ ⟨h0.ne (by decide), h1.ne (by decide), h2.ne (by decide), h3.ne (by decide), h4.ne (by decide), h5.ne (by decide), h6.ne (by decide), h7.ne (by decide), h8.ne (by decide), h9.ne (by decide), h10.ne (by decide), .same, h12.ne (by decide), h13.ne (by decide), h14.ne (by decide), h15.ne (by decide) (Below.refl _ _), hb⟩)
    · refine op_call Try.func23 rfl rfl rfl [.slice lo L.length lc] (congrArg (fun x => [x]) (h11 (hr { on := 11, ground := .data } (by simp) rfl))) (HNX.out wq hb) ?_
      rintro y w5 ⟨rfl, hbb⟩
      exact ⟨_, rfl, hK _ _ ⟨h0.ne (by decide), h1.ne (by decide), h2.ne (by decide), h3.ne (by decide), h4.ne (by decide), h5.ne (by decide), h6.ne (by decide), h7.ne (by decide), h8.ne (by decide), h9.ne (by decide), h10.ne (by decide), h11.ne (by decide), .same, h13.ne (by decide), h14.ne (by decide), h15.ne (by decide) hbb, hb.trans (hbb.mono hb.size)⟩⟩
    · exact op_bin .add 3 3 (.tmp 47) (.tmp 49) rfl _ _ _ (h10 (hr { on := 10, ground := .data } (by simp) rfl)) (h12 (hr { on := 12, ground := .data } (by simp) rfl)) HG3.out HG4.out (hK _ _ ⟨h0.ne (by decide), h1.ne (by decide), h2.ne (by decide), h3.ne (by decide), h4.ne (by decide), h5.ne (by decide), h6.ne (by decide), h7.ne (by decide), h8.ne (by decide), h9.ne (by decide), h10.ne (by decide), h11.ne (by decide), h12.ne (by decide), .same, h14.ne (by decide), h15.ne (by decide) (Below.refl _ _), hb⟩)
    · exact op_build 49 #[(0, .tmp 42), (1, .tmp 50)] rfl [(0, .int .i64 (e1 : Int)), (1, .int .i64 (tl : Int))] (slotV e1 tl) (by
        have v5 := (h5 (hr { on := 5, ground := .data } (by simp) rfl))
        have v13 := (h13 (hr { on := 13, ground := .data } (by simp) rfl))
        rw [List.map_toArray]
        show [((0 : Nat), V 5), (1, V 13)].toArray = _
        rw [v5, v13]) HBD.out (hK _ _ ⟨h0.ne (by decide), h1.ne (by decide), h2.ne (by decide), h3.ne (by decide), h4.ne (by decide), h5.ne (by decide), h6.ne (by decide), h7.ne (by decide), h8.ne (by decide), h9.ne (by decide), h10.ne (by decide), h11.ne (by decide), h12.ne (by decide), h13.ne (by decide), .same, h15.ne (by decide) (Below.refl _ _), hb⟩)
    · exact op_alloc 49 rfl (nums .i64 [0, 0]).toArray HAL.out (hK _ _ ⟨h0.ne (by decide), h1.ne (by decide), h2.ne (by decide), h3.ne (by decide), h4.ne (by decide), h5.ne (by decide), h6.ne (by decide), h7.ne (by decide), h8.ne (by decide), h9.ne (by decide), h10.ne (by decide), h11.ne (by decide), h12.ne (by decide), h13.ne (by decide), h14.ne (by decide), .same hb.size, hb.alloc hb.size _⟩)
  rintro q V w5 hall ⟨h0, h1, h2, h3, h4, h5, h6, h7, h8, h9, h10, h11, h12, h13, h14, h15, hb5⟩
  have v0 := h0 (hall 0 (by decide))
  have v1 := h1 (hall 1 (by decide))
  have v2 := h2 (hall 2 (by decide))
  have v3 := h3 (hall 3 (by decide))
  have v4 := h4 (hall 4 (by decide))
  have v5 := h5 (hall 5 (by decide))
  have v6 := h6 (hall 6 (by decide))
  have v7 := h7 (hall 7 (by decide))
  have v8 := h8 (hall 8 (by decide))
  have v9 := h9 (hall 9 (by decide))
  have v10 := h10 (hall 10 (by decide))
  have v11 := h11 (hall 11 (by decide))
  have v12 := h12 (hall 12 (by decide))
  have v13 := h13 (hall 13 (by decide))
  have v14 := h14 (hall 14 (by decide))
  obtain ⟨g, v15, hgb, hblk⟩ := h15 (hall 15 (by decide))
  simp only [List.take_succ_cons, List.take_zero, List.drop_succ_cons, List.drop_zero, putAll, Nat.zero_add, Nat.reduceAdd, v0, v1, v2, v3, v4, v5, v6, v7, v8, v9, v10, v11, v12, v13, v14, v15, Act.put, List.setIfInBounds_toArray, List.set_cons_zero, List.set_cons_succ]
  have HB5 := Lib.hid hb5
  have HBK := Lib.hid hblk
  have HGB := Lib.hid hgb
  clear HFA HFB HFC HG1 HG2 HG3 HG4 HBD HAL HD0 HNX h0 h1 h2 h3 h4 h5 h6 h7 h8 h9 h10 h11 h12 h13 h14 h15 v0 v1 v2 v3 v4 v5 v6 v7 v8 v9 v10 v11 v12 v13 v14 v15 hall hb5 hblk hgb
  refine wpList_store_cells rfl 49 (.tmp 5) (.tmp 51) rfl rfl g _ (slotV e1 tl) 49 rfl rfl HBK.out HIS.out rfl (by unfold slotV; simp [Value.oneCell']) ?_
  intro w6 hs6 hb6
  have hw6 := But.toBelow HB5.out hb6.out HGB.out HB5.out.size
  have HB6 := Lib.hid (HB3.out.trans (hw6.mono HB3.out.size))
  have z0 := hs6.out.at 0
  have z1 := hs6.out.at 1
  simp only [slotV, List.getElem?_toArray, List.getElem?_cons_zero, List.getElem?_cons_succ] at z0 z1
  have HS6 := Lib.hid hs6.out
  clear hs6 hb6 hw6 HBK HB5
  go_wp2_with fail
  refine (HST.out w6 HB6.out).mono ?_
  rintro x w7 ⟨E, s', O', rfl, hd7, ht7, hf7, hl7, hr7⟩
  have hnb : ¬ O b := fun h => HAP.out b h (by rw [HPE.out])
  have hng : ¬ O g := fun h => by
    have := HLT.out g h
    have := HB3.out.size
    have := HGB.out
    omega
  have hb6 := HCB.out.below HB6.out
  have hkb := turn_keeps ht7 hb6.lt hnb
  have hkg := turn_keeps ht7 HS6.out.lt hng
  have hb7 : Cells b 57 (segV (.pointer (some ad)) e S.length 0) w7 := hkb.1.trans hb6
  have hg7 : Cells g 49 (slotV e1 tl) w7 := hkg.1.trans HS6.out
  have HOB := Lib.hid hkb.2
  have HD7 := Lib.hid hd7
  have HF7 := Lib.hid hf7
  have HL7 := Shut.mk hl7
  have HT7 := Lib.hid (show Only (OrO O P) w1 w7 from (Only.of HB6.out).trans ht7.only (fun k hk => .inl (.inl hk)))
  have HO7 := Lib.hid (show ∀ k, O' k → O k ∨ w1.heap.size ≤ k from fun k hk => (ht7.own k hk).elim .inl (fun h => .inr (Nat.le_trans HB6.out.size h)))
  have HB7 := Lib.hid hb7
  have g0 := hg7.at 0
  have g1 := hg7.at 1
  have b1 := hb7.at 1
  have b2 := hb7.at 2
  have b3 := hb7.at 3
  simp only [segV, slotV, List.getElem?_toArray, List.getElem?_cons_zero, List.getElem?_cons_succ] at g0 g1 b1 b2 b3
  have f1 := hb7.frozen 1
  have f2 := hb7.frozen 2
  have f3 := hb7.frozen 3
  clear hd7 ht7 hf7 hl7 hnb hng hb6 hkb hkg hb7 hg7 z0 z1 HS6 HST HCB H0 HC3 HIS HGB
  rcases hr7 with ⟨rfl, hlv, hfu⟩ | ⟨rfl, hfu, hdn⟩
  · have HLV := Lib.hid hlv
    have HFU := Lib.hid hfu
    clear hlv hfu
    go_wp2_with fail
    go_ret
    have hs8 := (HB7.out.set 1 (.int .i64 (e1 : Int))).set 2 (.int .i64 (tl : Int))
    refine ⟨0, s', O', P, rfl, HD7.out.only (((Only.refl (fun k => k = b) w7).setCell 1 (.int .i64 (e1 : Int)) (.inl rfl)).setCell 2 (.int .i64 (tl : Int)) (.inl rfl)) (fun k hk h => HOB.out (by rw [← h]; exact hk)),
      ⟨(HT7.out.setCell 1 _ (.inl (.inr (by rw [HPE.out])))).setCell 2 _ (.inl (.inr (by rw [HPE.out]))), fun k hk => ?_⟩, fun k hk hp => ?_, HF7.out, HL7.out, .inl ⟨rfl, HLV.out, ⟨b, rfl, HPE.out, ?_⟩, HFU.out⟩⟩
    · rcases hk with h | h
      · exact (HO7.out k h).elim (fun h => .inl (.inl h)) .inr
      · exact .inl (.inr h)
    · rw [HPE.out] at hp
      exact HOB.out (by rw [← show k = b from hp]; exact hk)
    · rw [HTL.out, HE1.out]
      exact hs8
  · have HDN := Lib.hid hdn
    have HFU := Lib.hid hfu
    clear hdn hfu
    go_wp2_with fail
    go_ret
    refine ⟨7, s', O', P, rfl, HD7.out.only ((Only.refl (fun k => k = b) w7).setCell 3 (.int .i64 7) (.inl rfl)) (fun k hk h => HOB.out (by rw [← h]; exact hk)),
      ⟨HT7.out.setCell 3 _ (.inl (.inr (by rw [HPE.out]))), fun k hk => ?_⟩, fun k hk hp => ?_, HF7.out, HL7.out, .inr ⟨rfl, HFU.out, HDN.out⟩⟩
    · rcases hk with h | h
      · exact (HO7.out k h).elim (fun h => .inl (.inl h)) .inr
      · exact .inl (.inr h)
    · rw [HPE.out] at hp
      exact HOB.out (by rw [← show k = b from hp]; exact hk)
end Go.Proofs.Ythnagnjcbgcnfaa
