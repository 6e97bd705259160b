/-
  The document's disk: Write.
-/
import Derived.Test.YtmkelboncapkpaaDiskAct
import Derived.Test.YtmkelboncapkpaaOps
namespace Go.Proofs.Ytmkelboncapkpaa
open Go.RowKit Go.BigFrame

theorem Try.infoInt7 : (Try.prog.info? 3).map (fun i => (i.zero, i.size, i.bytes)) = some (some (.int .i64 0), 1, 8) := by kernel_rfl
/-- The document's disk, its rows apart from one another. -/
structure RefAll (g : Nat) (vS vA vD : Value) (S : List (List UInt8)) (A : List Nat) (D : List (List UInt8)) (off : Bool) (acts fuse keep : Nat) (w : World) : Prop where
  cells : Cells g 54 (refV vS vA vD off acts fuse keep) w
  safe : RowV 9 vS (strs S) w
  at' : RowV 3 vA (nums .i64 A) w
  data : RowV 9 vD (strs D) w
  apart : ∀ b, vS.ownBlock = some b → vD.ownBlock ≠ some b
theorem RefAt.all {g : Nat} {vS vA vD : Value} {s : DS} {w : World} (h : RefAt g vS vA vD s w) : RefAll g vS vA vD s.safe (s.pend.map (·.1)) (s.pend.map (·.2)) s.off s.acts s.fuse s.keep w := ⟨h.cells, h.safe, h.at', h.data, h.apart⟩
theorem RefAll.put {g : Nat} {vS vA vD : Value} {s : DS} {w : World} {a : Nat} {b : List UInt8} (h : RefAll g vS vA vD s.safe (s.pend.map (·.1) ++ [a]) (s.pend.map (·.2) ++ [padN b]) s.off s.acts s.fuse s.keep w) : RefAt g vS vA vD (putS s a b) w :=
  ⟨h.cells, h.safe, by rw [putS, List.map_append]; exact h.at', by rw [putS, List.map_append]; exact h.data, h.apart⟩
theorem RefAll.below {g : Nat} {vS vA vD : Value} {S : List (List UInt8)} {A : List Nat} {D : List (List UInt8)} {off : Bool} {acts fuse keep : Nat} {w w' : World} (h : RefAll g vS vA vD S A D off acts fuse keep w) (k : Below w.heap.size w w') : RefAll g vS vA vD S A D off acts fuse keep w' :=
  ⟨h.cells.below k, h.safe.below k, h.at'.below k, h.data.below k, h.apart⟩
/-- A number was pushed onto the second row, and laid back. -/
theorem RefAll.pushA {g x : Nat} {vS vA vD v' : Value} {S : List (List UInt8)} {A : List Nat} {D : List (List UInt8)} {off : Bool} {acts fuse keep : Nat} {w w' : World} (h : RefAll g vS vA vD S A D off acts fuse keep w)
    (hr : RowV 3 v' (nums .i64 A ++ [.int .i64 (x : Int)]) w') (hg : w.grownBy w' vA.ownBlock) :
    RefAll g vS v' vD S (A ++ [x]) D off acts fuse keep (w'.setCell ⟨g, 1, none⟩ v') := by
  have hc : Cells g 54 (refV vS vA vD off acts fuse keep) w' := (hg.block g h.cells.lt (fun e => h.at'.notCells h.cells (by decide) e.symm)).trans h.cells
  have h1 := h.safe.grown hg (fun b hb e => h.safe.notRow h.at' (by decide) hb e)
  have h3 := h.data.grown hg (fun b hb e => h.data.notRow h.at' (by decide) hb e)
  have hb := (But.refl g w').setCell 1 v'
  rw [← nums_snoc] at hr
  exact ⟨hc.set 1 v', h1.but hb (fun e => h1.notCells hc (by decide) e), hr.but hb (fun e => hr.notCells hc (by decide) e), h3.but hb (fun e => h3.notCells hc (by decide) e), h.apart⟩
/-- A text was pushed onto the third row, and laid back. -/
theorem RefAll.pushD {g : Nat} {x : List UInt8} {vS vA vD v' : Value} {S : List (List UInt8)} {A : List Nat} {D : List (List UInt8)} {off : Bool} {acts fuse keep : Nat} {w w' : World} (h : RefAll g vS vA vD S A D off acts fuse keep w)
    (hr : RowV 9 v' (strs D ++ [.string ⟨x.toArray⟩]) w') (hg : w.grownBy w' vD.ownBlock) (hv : v'.ownBlock = vD.ownBlock ∨ v'.ownBlock = some w.heap.size) :
    RefAll g vS vA v' S A (D ++ [x]) off acts fuse keep (w'.setCell ⟨g, 2, none⟩ v') := by
  have hc : Cells g 54 (refV vS vA vD off acts fuse keep) w' := (hg.block g h.cells.lt (fun e => h.data.notCells h.cells (by decide) e.symm)).trans h.cells
  have h1 := h.safe.grown hg (fun b hb e => h.apart b hb e)
  have h2 := h.at'.grown hg (fun b hb e => h.at'.notRow h.data (by decide) hb e)
  have hb := (But.refl g w').setCell 2 v'
  rw [← strs_snoc] at hr
  refine ⟨hc.set 2 v', h1.but hb (fun e => h1.notCells hc (by decide) e), h2.but hb (fun e => h2.notCells hc (by decide) e), hr.but hb (fun e => hr.notCells hc (by decide) e), fun b hb e => ?_⟩
  rcases hv with hv | hv
  · exact h.apart b hb (by rw [← hv]; exact e)
  · have hlt := h.safe.lt hb
    rw [hv] at e
    simp only [Option.some.injEq] at e
    omega
/-- A text was pushed onto the first row, and laid back. -/
theorem RefAll.pushS {g : Nat} {x : List UInt8} {vS vA vD v' : Value} {S : List (List UInt8)} {A : List Nat} {D : List (List UInt8)} {off : Bool} {acts fuse keep : Nat} {w w' : World} (h : RefAll g vS vA vD S A D off acts fuse keep w)
    (hr : RowV 9 v' (strs S ++ [.string ⟨x.toArray⟩]) w') (hg : w.grownBy w' vS.ownBlock) (hv : v'.ownBlock = vS.ownBlock ∨ v'.ownBlock = some w.heap.size) :
    RefAll g v' vA vD (S ++ [x]) A D off acts fuse keep (w'.setCell ⟨g, 0, none⟩ v') := by
  have hc : Cells g 54 (refV vS vA vD off acts fuse keep) w' := (hg.block g h.cells.lt (fun e => h.safe.notCells h.cells (by decide) e.symm)).trans h.cells
  have h2 := h.at'.grown hg (fun b hb e => h.at'.notRow h.safe (by decide) hb e)
  have h3 := h.data.grown hg (fun b hb e => h.apart b e hb)
  have hb := (But.refl g w').setCell 0 v'
  rw [← strs_snoc] at hr
  refine ⟨hc.set 0 v', hr.but hb (fun e => hr.notCells hc (by decide) e), h2.but hb (fun e => h2.notCells hc (by decide) e), h3.but hb (fun e => h3.notCells hc (by decide) e), fun b hb e => ?_⟩
  rcases hv with hv | hv
  · exact h.apart b (by rw [← hv]; exact hb) e
  · have hlt := h.data.lt e
    rw [hv] at hb
    simp only [Option.some.injEq] at hb
    omega
theorem refO_turn {g : Nat} {vS vA vD vS' vA' vD' : Value} {N : Nat} (h1 : ∀ b, vS'.ownBlock = some b → vS.ownBlock = some b ∨ N ≤ b) (h2 : ∀ b, vA'.ownBlock = some b → vA.ownBlock = some b ∨ N ≤ b) (h3 : ∀ b, vD'.ownBlock = some b → vD.ownBlock = some b ∨ N ≤ b) :
    ∀ b, refO g vS' vA' vD' b → refO g vS vA vD b ∨ N ≤ b := by
  rintro b (hb | hb | hb | hb)
  · exact .inl (.inl hb)
  · exact (h1 b hb).imp (fun h => .inr (.inl h)) id
  · exact (h2 b hb).imp (fun h => .inr (.inr (.inl h))) id
  · exact (h3 b hb).imp (fun h => .inr (.inr (.inr h))) id

set_option maxHeartbeats 4000000 in
set_option maxRecDepth 100000 in
theorem ref_write (g : Nat) (vS vA vD : Value) (s : DS) (at' : Int) (b : List UInt8) (bo : Option Addr) (bc : Nat) (w : World) (h : RefAt g vS vA vD s w) (hb : NumsAt bo .u8 (byteNs b) w) (hbo : byteNs b ≠ [] → ∀ a, bo = some a → ¬ refO g vS vA vD a.block) (hbl : b.length ≤ 1000000)
    (ha : s.acts ≤ 1000000) (hf : s.fuse ≤ 9223372036854775807) (hk : s.keep < 18446744073709551616) (hp : s.pend.length ≤ 999999) (hok : s.Ok) :
    Calls Try.prog 24 #[.pointer (some ⟨g, 0, none⟩), .int .i64 at', .slice bo b.length bc] w fun e w' => e = .returned (.int .i64 (writeE s at' b : Nat)) ∧ (∃ vA' vD', RefAt g vS vA' vD' (writeS s at' b) w' ∧ Turn (refO g vS vA vD) (refO g vS vA' vD') w w') := by
  have HW := Lib.hid (ref_why g vS vA vD s at' w h)
  have H := Lib.hid h
  have HNB := Lib.hid hb
  by_cases hy : whyS s at' = 0
  · obtain ⟨y0, y1, y2⟩ := whyS_zero hy
    obtain ⟨a, rfl⟩ : ∃ a : Nat, at' = a := ⟨at'.toNat, by omega⟩
    rw [Int.toNat_natCast] at y1
    rw [hy] at HW
    by_cases hlong : 128 < b.length
    · have HE := Shut.mk (show writeE s a b = 1 by rw [writeE, if_pos hy, if_pos hlong])
      have HS := Shut.mk (show writeS s a b = s by rw [writeS, if_neg (by omega)])
      have hl2 : (128 : Int) < (b.length : Int) := by omega
      clear h hb hok hy hlong
      go_enter Try.func24, Try.ntmps24
      go_wp2_with fail
      refine HW.out.mono ?_
      rintro e w1 ⟨rfl, rfl⟩
      go_wp2_with fail
      go_ret
      exact ⟨by rw [HE.out]; rfl, vA, vD, by rw [HS.out]; exact H.out, Turn.refl _ _⟩
    · have HE := Shut.mk (show writeE s a b = if failS s then 7 else 0 by rw [writeE, if_pos hy, if_neg hlong])
      have HS := Shut.mk (show writeS s a b = actS (putS s a b) by rw [writeS, if_pos ⟨hy, by omega⟩, Int.toNat_natCast])
      have hl2 : ¬ (128 : Int) < (b.length : Int) := by omega
      go_enter Try.func24, Try.ntmps24
      go_wp2_with fail
      refine HW.out.mono ?_
      rintro e w1 ⟨rfl, rfl⟩
      have c1 := H.out.field 1
      simp only [refV, List.getElem?_toArray, List.getElem?_cons_zero, List.getElem?_cons_succ] at c1
      have hba : Below w1.heap.size w1 (w1.alloc (.cells #[.int .i64 (a : Int)] 3)) := (Below.refl _ _).alloc (Nat.le_refl _) _
      have HRA := Lib.hid (H.out.all.below hba)
      have HCA := Lib.hid (show (w1.alloc (.cells #[.int .i64 (a : Int)] 3)).cell? ((⟨w1.heap.size, 0, none⟩ : Addr).add 0) = some (.int .i64 (a : Int)) by rw [Addr.add_lit, Lib.cell_of_heap (heap_alloc_new w1 _)]; rfl)
      have HBA := Lib.hid hba
      have HSL := Lib.hid (show (nums .i64 (s.pend.map (·.1))).length ≤ 1000000 by rw [nums_len, List.length_map]; omega)
      have HOA := Lib.hid (show ∀ x, vA.ownBlock = some x → refO g vS vA vD x from fun x hx => .inr (.inr (.inl hx)))
      clear h hb hlong hba
      go_wp2_with (at_builtin; refine wpList_push_val rfl (.tmp 21) (.tmp 23) 52 3 rfl (.int .i64 0) 8 rfl (by decide) Try.underlying52 Try.infoInt7 vA (nums .i64 (s.pend.map (·.1))) (.int .i64 (a : Int)) rfl ⟨w1.heap.size, 0, none⟩ 1 rfl HRA.out.at' rfl HCA.out HSL.out ?_)
      intro v2 w2 hr2 hg2 hv2
      obtain ⟨p2, q2, hq2⟩ := hr2.out.form
      obtain ⟨n2, hn2⟩ : ∃ n, (nums .i64 (s.pend.map fun x => x.1) ++ [Value.int .i64 (a : Int)]).length = n := ⟨_, rfl⟩
      rw [hn2] at hq2
      subst hq2
      clear hn2
      obtain ⟨wa, hwa⟩ : ∃ x, x = (w1.alloc (.cells #[.int .i64 (a : Int)] 3)) := ⟨_, rfl⟩
      rw [← hwa] at HRA HBA hg2
      have HR2 := Lib.hid (HRA.out.pushA hr2.out hg2.out)
      have HV2 := Lib.hid (show ∀ x, (Value.slice p2 n2 q2).ownBlock = some x → vA.ownBlock = some x ∨ w1.heap.size ≤ x from fun x hx => by
        rcases hv2.out with h | h
        · exact .inl (by rw [← h]; exact hx)
        · rw [h] at hx
          simp only [Option.some.injEq] at hx
          exact .inr (by omega))
      have ho2 : Only (refO g vS vA vD) w1 w2 := ((Only.of HBA.out).grown hg2.out (fun x hx => .inl (HOA.out x hx)))
      have hc2 : Cells g 54 (refV vS vA vD s.off s.acts s.fuse s.keep) w2 := (hg2.out.block g HRA.out.cells.lt (fun e => HRA.out.at'.notCells HRA.out.cells (by decide) e.symm)).trans HRA.out.cells
      have c12 : w2.cell? ⟨g, 1, none⟩ = some vA := hc2.at 1
      have f12 := hc2.frozen 1
      have HO3 := Lib.hid (ho2.setCell 1 (.slice p2 n2 q2) (.inl (.inl rfl)))
      clear hr2 hg2 hv2 ho2 hc2 HRA HCA HBA HSL HOA c1 hwa
      go_upto_region 7 with (fail)
      obtain ⟨w3, hw3⟩ : ∃ x, x = w2.setCell ⟨g, 1, none⟩ (.slice p2 n2 q2) := ⟨_, rfl⟩
      rw [← hw3] at HR2 HO3 ⊢
      clear hw3 c12 f12
      have HNB3 := Lib.hid (HNB.out.only HO3.out hbo)
      have HC2 := Lib.hid (fun (w' : World) (h : Below w3.heap.size w3 w') => show w'.cell? ⟨g, 2, none⟩ = some vD from (HR2.out.cells.below h).at 2)
      have HSL := Lib.hid (show (strs (s.pend.map fun x => x.2)).length ≤ 1000000 by rw [strs_length, List.length_map]; omega)
      have HPD := Lib.hid (fun w' => ref_pad b w' hbl)
      have HCV := Lib.hid (fun (w' : World) (h : NumsAt bo .u8 (byteNs b) w') => conv_in (P := Try.prog) Try.underlying29 Try.underlying5 Try.underlying9 (c := bc) h)
      obtain ⟨Z, hZ⟩ : ∃ Z, padN b = Z := ⟨_, rfl⟩
      rw [hZ] at HPD
      have HFA := Lib.hid (show ∀ w, (Instr.fieldAt 54 (.pointer (some ⟨g, 0, none⟩)) 2).run Try.prog w = .ok (.pointer (some ⟨g, 2, none⟩)) w from fun w => by go_simp)
      have HBL := Lib.hid (show ∀ w : World, (Instr.buildSlice 45 1 #[(0, .string ⟨Z.toArray⟩)]).run Try.prog w = .ok (.slice (some ⟨w.heap.size, 0, none⟩) 1 1) (w.alloc (.cells #[.string ⟨Z.toArray⟩] 9)) from fun w => by go_simp)
      have HAB := Lib.hid (fun (w' w'' : World) (h : Below w'.heap.size w' w'') (ha : w'.cell? ⟨g, 2, none⟩ = some vD ∧ NumsAt bo .u8 (byteNs b) w') => show w''.cell? ⟨g, 2, none⟩ = some vD ∧ NumsAt bo .u8 (byteNs b) w'' from ⟨(h.cell (p := ⟨g, 2, none⟩) (block_lt_of_cell ha.1)).trans ha.1, ha.2.below h⟩)
      have HMB := Lib.hid (fun (w' w'' : World) (h : Below w'.heap.size w' w'') (ha : RefAll g vS (.slice p2 n2 q2) vD s.safe ((s.pend.map fun x => x.1) ++ [a]) (s.pend.map fun x => x.2) s.off s.acts s.fuse s.keep w' ∧ Only (refO g vS vA vD) w1 w') => show RefAll g vS (.slice p2 n2 q2) vD s.safe ((s.pend.map fun x => x.1) ++ [a]) (s.pend.map fun x => x.2) s.off s.acts s.fuse s.keep w'' ∧ Only (refO g vS vA vD) w1 w'' from ⟨ha.1.below h, ha.2.below h⟩)
      have HAP := Lib.hid (fun (w' w'' : World) (ha : RefAll g vS (.slice p2 n2 q2) vD s.safe ((s.pend.map fun x => x.1) ++ [a]) (s.pend.map fun x => x.2) s.off s.acts s.fuse s.keep w' ∧ Only (refO g vS vA vD) w1 w') (hal : w'.cell? ⟨g, 2, none⟩ = some vD ∧ NumsAt bo .u8 (byteNs b) w') (hg : w'.grownBy w'' vD.ownBlock) => show w''.cell? ⟨g, 2, none⟩ = some vD ∧ NumsAt bo .u8 (byteNs b) w'' from
        ⟨hg.cell hal.1 (fun e => ha.1.data.notCells ha.1.cells (by decide) e.symm), hal.2.only ((Only.refl (fun x => vD.ownBlock = some x) w').grown hg (fun _ h => .inl h)) (fun hne x hx e => hbo hne x hx (.inr (.inr (.inr e))))⟩)
      have HST := Lib.hid (show (w3.cell? ⟨g, 2, none⟩ = some vD ∧ NumsAt bo .u8 (byteNs b) w3) ∧ RefAll g vS (.slice p2 n2 q2) vD s.safe ((s.pend.map fun x => x.1) ++ [a]) (s.pend.map fun x => x.2) s.off s.acts s.fuse s.keep w3 ∧ Only (refO g vS vA vD) w1 w3 from ⟨⟨HR2.out.cells.at 2, HNB3.out⟩, HR2.out, HO3.out⟩)
      clear HC2 HNB3 HR2 HO3 HNB
      refine wp_region_free 10 (fun q V w' => Val q V 0 (.pointer (some ⟨g, 0, none⟩)) ∧ Val q V 1 (.pointer (some ⟨g, 0, none⟩)) ∧ Val q V 2 (.pointer (some ⟨g, 0, none⟩)) ∧ Val q V 3 (.pointer (some ⟨g, 2, none⟩)) ∧ Val q V 4 (vD) ∧ Val q V 5 (.slice bo b.length bc) ∧ Val q V 6 (.string ⟨b.toArray⟩) ∧ Val q V 7 (.string ⟨Z.toArray⟩) ∧ PushInv 8 9 (fun w' => w'.cell? ⟨g, 2, none⟩ = some vD ∧ NumsAt bo .u8 (byteNs b) w') (fun w' => RefAll g vS (.slice p2 n2 q2) vD s.safe ((s.pend.map fun x => x.1) ++ [a]) (s.pend.map fun x => x.2) s.off s.acts s.fuse s.keep w' ∧ Only (refO g vS vA vD) w1 w') (fun wa v w' => RowV 9 v (strs (s.pend.map fun x => x.2) ++ [.string ⟨Z.toArray⟩]) w' ∧ wa.grownBy w' vD.ownBlock ∧ (v.ownBlock = vD.ownBlock ∨ v.ownBlock = some wa.heap.size)) (.string ⟨Z.toArray⟩) q V w') (fun _ => undef) (by kernel_rfl) (by kernel_rfl) (by kernel_rfl) (by simp only [List.take_succ_cons, List.take_zero, putAll, Act.put, List.setIfInBounds_toArray, List.set_cons_zero, List.set_cons_succ]) ⟨Val.none, Val.none, Val.none, Val.none, Val.none, Val.none, Val.none, Val.none, PushInv.none (HAB.out _ _ (Below.refl _ _).drew HST.out.1) (HMB.out _ _ (Below.refl _ _).drew HST.out.2)⟩ ?_ ?_
      · simp only [List.take_succ_cons, List.take_zero, putAll, Nat.zero_add, Nat.reduceAdd, Act.put, List.setIfInBounds_toArray, List.set_cons_zero, List.set_cons_succ]
        refine FreeSteps.cons ?_ (FreeSteps.cons ?_ (FreeSteps.cons ?_ (FreeSteps.cons ?_ (FreeSteps.cons ?_ (FreeSteps.cons ?_ (FreeSteps.cons ?_ (FreeSteps.cons ?_ (FreeSteps.cons ?_ (FreeSteps.cons ?_ FreeSteps.nil)))))))))
        all_goals (refine FreeStep.fresh rfl ?_; rintro q V wq hr hu ⟨h0, h1, h2, h3, h4, h5, h6, h7, hp⟩ K hK)
        · exact op_move (.tmp 0) rfl _ rfl (hK _ _ ⟨.same, h1.ne (by decide), h2.ne (by decide), h3.ne (by decide), h4.ne (by decide), h5.ne (by decide), h6.ne (by decide), h7.ne (by decide), hp.ne (by decide) (by decide)⟩)
        · exact op_move (.tmp 0) rfl _ rfl (hK _ _ ⟨h0.ne (by decide), .same, h2.ne (by decide), h3.ne (by decide), h4.ne (by decide), h5.ne (by decide), h6.ne (by decide), h7.ne (by decide), hp.ne (by decide) (by decide)⟩)
        · exact op_nilCheck (.tmp 28) rfl _ (h1 (hr { on := 1, ground := .data } (by simp) rfl)) (hK _ _ ⟨h0.ne (by decide), h1.ne (by decide), .same, h3.ne (by decide), h4.ne (by decide), h5.ne (by decide), h6.ne (by decide), h7.ne (by decide), hp.ne (by decide) (by decide)⟩)
        · exact op_fieldAt 54 (.tmp 29) 2 rfl _ _ (h2 (hr { on := 2, ground := .data } (by simp) rfl)) HFA.out (hK _ _ ⟨h0.ne (by decide), h1.ne (by decide), h2.ne (by decide), .same, h4.ne (by decide), h5.ne (by decide), h6.ne (by decide), h7.ne (by decide), hp.ne (by decide) (by decide)⟩)
        · exact op_load_cell 45 (.tmp 30) rfl _ vD (h3 (hr { on := 3, ground := .data } (by simp) rfl)) hp.always.1 Try.isAgg45 (hK _ _ ⟨h0.ne (by decide), h1.ne (by decide), h2.ne (by decide), h3.ne (by decide), .same, h5.ne (by decide), h6.ne (by decide), h7.ne (by decide), hp.ne (by decide) (by decide)⟩)
        · exact op_move (.tmp 2) rfl _ rfl (hK _ _ ⟨h0.ne (by decide), h1.ne (by decide), h2.ne (by decide), h3.ne (by decide), h4.ne (by decide), .same, h6.ne (by decide), h7.ne (by decide), hp.ne (by decide) (by decide)⟩)
        · exact op_conv 29 9 (.tmp 32) rfl _ _ (h5 (hr { on := 5, ground := .data } (by simp) rfl)) (HCV.out wq hp.always.2) (hK _ _ ⟨h0.ne (by decide), h1.ne (by decide), h2.ne (by decide), h3.ne (by decide), h4.ne (by decide), h5.ne (by decide), .same, h7.ne (by decide), hp.ne (by decide) (by decide)⟩)
        · refine op_call Try.func23 rfl rfl rfl [.string ⟨b.toArray⟩] (cons_eq (h6 (hr { on := 6, ground := .data } (by simp) rfl)) rfl) (HPD.out wq) ?_
          rintro e w' ⟨rfl, rfl⟩
          exact ⟨_, rfl, hK _ _ ⟨h0.ne (by decide), h1.ne (by decide), h2.ne (by decide), h3.ne (by decide), h4.ne (by decide), h5.ne (by decide), h6.ne (by decide), .same, hp.ne (by decide) (by decide)⟩⟩
        · have hba : Below wq.heap.size wq (wq.alloc (.cells #[.string ⟨Z.toArray⟩] 9)) := (Below.refl _ _).alloc (Nat.le_refl _) _
          exact op_build1 45 9 (.tmp 34) rfl (.string ⟨Z.toArray⟩) (h7 (hr { on := 7, ground := .data } (by simp) rfl)) HBL.out (hK _ _ ⟨h0.ne (by decide), h1.ne (by decide), h2.ne (by decide), h3.ne (by decide), h4.ne (by decide), h5.ne (by decide), h6.ne (by decide), h7.ne (by decide), hp.build hu (by decide) (HAB.out _ _ hba hp.always) (fun h => HMB.out _ _ hba h)⟩)
        · have h8 := hr { on := 8, ground := .data } (by simp) rfl
          obtain ⟨gl, hv8, hc8⟩ := hp.lit h8 hu
          refine op_push (.tmp 31) (.tmp 35) 45 9 rfl (.string ⟨#[]⟩) 16 rfl (by decide) Try.underlying45 Try.infoString vD (strs (s.pend.map fun x => x.2)) (.string ⟨Z.toArray⟩) rfl ⟨gl, 0, none⟩ 1 (h4 (hr { on := 4, ground := .data } (by simp) rfl)) (hp.mid hu).1.data hv8 hc8 HSL.out ?_
          intro v' w' hrow hg hv
          exact hK _ _ ⟨h0.ne (by decide), h1.ne (by decide), h2.ne (by decide), h3.ne (by decide), h4.ne (by decide), h5.ne (by decide), h6.ne (by decide), h7.ne (by decide), hp.push h8 hu (HAP.out _ _ (hp.mid hu) hp.always hg) ⟨hrow, hg, hv⟩⟩
      rintro q V w5 hall ⟨h0, h1, h2, h3, h4, h5, h6, h7, hp⟩
      have v0 := h0 (hall 0 (by decide))
      have v1 := h1 (hall 1 (by decide))
      have v2 := h2 (hall 2 (by decide))
      have v3 := h3 (hall 3 (by decide))
      have v4 := h4 (hall 4 (by decide))
      have v5 := h5 (hall 5 (by decide))
      have v6 := h6 (hall 6 (by decide))
      have v7 := h7 (hall 7 (by decide))
      obtain ⟨wa, ⟨hra, hoa⟩, hr5, hg5, hv5⟩ := hp.fin (hall 9 (by decide))
      obtain ⟨gl, v8⟩ : ∃ v, V 8 = v := ⟨_, rfl⟩
      obtain ⟨p5, q5, hq5⟩ := hr5.form
      obtain ⟨n5, hn5⟩ : ∃ n, (strs (s.pend.map fun x => x.2) ++ [Value.string ⟨Z.toArray⟩]).length = n := ⟨_, rfl⟩
      rw [hn5] at hq5
      rw [hq5] at hr5 hv5
      have hv5' := hv5
      simp only [List.take_succ_cons, List.take_zero, List.drop_succ_cons, List.drop_zero, putAll, Nat.zero_add, Nat.reduceAdd, v0, v1, v2, v3, v4, v5, v6, v7, v8, hq5, Act.put, List.setIfInBounds_toArray, List.set_cons_zero, List.set_cons_succ]
      clear h0 h1 h2 h3 h4 h5 h6 h7 hp v0 v1 v2 v3 v4 v5 v6 v7 v8 hall hn5 hq5
      have HR5 := Lib.hid (hra.pushD hr5 hg5 hv5)
      have ho5 : Only (refO g vS vA vD) w1 w5 := hoa.grown hg5 (fun x hx => .inl (.inr (.inr (.inr hx))))
      have hc5 : Cells g 54 (refV vS (.slice p2 n2 q2) vD s.off s.acts s.fuse s.keep) w5 := (hg5.block g hra.cells.lt (fun e => hra.data.notCells hra.cells (by decide) e.symm)).trans hra.cells
      have c52 : w5.cell? ⟨g, 2, none⟩ = some vD := hc5.at 2
      have f52 := hc5.frozen 2
      have HO4 := Lib.hid hoa
      subst hZ
      have HV5 := Lib.hid (show ∀ x, (Value.slice p5 n5 q5).ownBlock = some x → vD.ownBlock = some x ∨ w1.heap.size ≤ x from fun x hx => by
        rcases hv5' with h | h
        · exact .inl (by rw [← h]; exact hx)
        · rw [h] at hx
          have h1 := HO4.out.size
          simp only [Option.some.injEq] at hx
          exact .inr (by omega))
      have HO6 := Lib.hid (ho5.setCell 2 (.slice p5 n5 q5) (.inl (.inl rfl)))
      have HOK := Lib.hid (hok.put y1 (b := b) (by omega))
      clear hr5 hg5 hv5 hv5' ho5 hc5 hra hoa HSL HO4 HPD HCV HFA HBL HAB HMB HAP HST hok y1 hy
      go_upto_region 8 with (fail)
      obtain ⟨w6, hw6⟩ : ∃ x, x = w5.setCell ⟨g, 2, none⟩ (.slice p5 n5 q5) := ⟨_, rfl⟩
      rw [← hw6] at HR5 HO6 ⊢
      clear hw6 c52 f52
      have HR6 := Lib.hid (HR5.out.put)
      have HAC := Lib.hid (ref_act g vS (.slice p2 n2 q2) (.slice p5 n5 q5) (putS s a b) w6 HR6.out ha hf hk (by rw [putS]; simp; omega) HOK.out)
      have HFS := Shut.mk (show failS (putS s a b) = failS s from rfl)
      rw [HFS.out] at HAC
      have HT6 := Lib.hid (Turn.mk HO6.out (refO_turn (vS' := vS) (vA' := .slice p2 n2 q2) (vD' := .slice p5 n5 q5) (g := g) (fun b hb => .inl hb) HV2.out HV5.out))
      clear HR5 HO6 HV2 HV5 HR6 HOK
      cases hfs : failS s with
      | true =>
        rw [hfs] at HAC HE
        clear hfs
        go_wp2_with fail
        refine HAC.out.mono ?_
        rintro e w7 ⟨rfl, vA', vD', hr7, ht7⟩
        have HR7 := Lib.hid hr7
        have HT7 := Lib.hid (HT6.out.trans ht7)
        clear hr7 ht7 HAC HT6
        go_wp2_with fail
        go_ret
        exact ⟨by rw [HE.out]; rfl, vA', vD', by rw [HS.out]; exact HR7.out, HT7.out⟩
      | false =>
        rw [hfs] at HAC HE
        clear hfs
        go_wp2_with fail
        refine HAC.out.mono ?_
        rintro e w7 ⟨rfl, vA', vD', hr7, ht7⟩
        have HR7 := Lib.hid hr7
        have HT7 := Lib.hid (HT6.out.trans ht7)
        clear hr7 ht7 HAC HT6
        go_wp2_with fail
        go_ret
        exact ⟨by rw [HE.out]; rfl, vA', vD', by rw [HS.out]; exact HR7.out, HT7.out⟩
  · have HE := Shut.mk (show writeE s at' b = whyS s at' by rw [writeE, if_neg hy])
    have HS := Shut.mk (show writeS s at' b = s by rw [writeS, if_neg (by omega)])
    have hne : (((whyS s at' : Nat) : Int) != 0) = true := by simp; omega
    obtain ⟨y, hye⟩ : ∃ y, whyS s at' = y := ⟨_, rfl⟩
    rw [hye] at HE hne HW
    clear h hb hok hy hye
    go_enter Try.func24, Try.ntmps24
    go_wp2_with fail
    refine HW.out.mono ?_
    rintro e w1 ⟨rfl, rfl⟩
    go_wp2_with fail
    go_ret
    exact ⟨by rw [HE.out]; rfl, vA, vD, by rw [HS.out]; exact H.out, Turn.refl _ _⟩
end Go.Proofs.Ytmkelboncapkpaa
