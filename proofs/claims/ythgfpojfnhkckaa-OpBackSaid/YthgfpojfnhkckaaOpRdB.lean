/-
  The document's ReadBatch.
-/
import Derived.Test.YthgfpojfnhkckaaOpRdO
namespace Go.Proofs.Ythgfpojfnhkckaa
open Go.RowKit Go.BigFrame

theorem readAll_iff : ∀ (l : List (List UInt8)) (L : List OpN), readAll l = some L ↔ l.map readO = L.map some
  | [], L => by
    rw [readAll, List.map_nil]
    constructor
    · intro h
      cases h
      rfl
    · intro h
      rw [List.map_eq_nil_iff.1 h.symm]
  | t :: r, L => by
    rw [readAll, List.map_cons]
    cases ho : readO t with
    | none =>
      constructor
      · intro h
        cases h
      · intro h
        cases L with
        | nil => cases h
        | cons a L => simp only [List.map_cons, List.cons.injEq] at h; cases h.1
    | some o =>
      cases hr : readAll r with
      | none =>
        constructor
        · intro h
          cases h
        · intro h
          cases L with
          | nil => cases h
          | cons a L =>
            simp only [List.map_cons, List.cons.injEq] at h
            rw [(readAll_iff r L).2 h.2] at hr
            cases hr
      | some R =>
        have hR := (readAll_iff r R).1 hr
        constructor
        · intro h
          simp only [Option.some.injEq] at h
          subst h
          rw [List.map_cons, hR]
        · intro h
          cases L with
          | nil => cases h
          | cons a L =>
            simp only [List.map_cons, List.cons.injEq, Option.some.injEq] at h
            have h2 := (readAll_iff r L).2 h.2
            rw [hr] at h2
            rw [h.1, Option.some.inj h2]
theorem readAll_bad {l : List (List UInt8)} {k : Nat} (hk : k < l.length) (h : readO l[k] = none) : readAll l = none := by
  cases ha : readAll l with
  | none => rfl
  | some L =>
    have h1 := congrArg (fun x => x[k]?) ((readAll_iff l L).1 ha)
    simp only [List.getElem?_map, List.getElem?_eq_getElem hk, Option.map_some, h] at h1
    cases hL : L[k]? with
    | none => rw [hL] at h1; cases h1
    | some y => rw [hL] at h1; simp at h1
theorem OwnO.mono {B B' : Nat} {e : TypeId} {v : Value} {L : List OpN} {w : World} (h : OwnO B e v L w) (hB : B' ≤ B) : OwnO B' e v L w := by
  obtain ⟨C, h1, h2, h3, h4⟩ := h
  refine ⟨C, ⟨h1.1, ?_⟩, h2, h3, h4⟩
  rcases h1.2 with h0 | ⟨g, cap, cur, hv, hg, r⟩
  · exact Or.inl h0
  · exact Or.inr ⟨g, cap, cur, hv, Nat.le_trans hB hg, r⟩
theorem OwnO.lt {B : Nat} {e : TypeId} {v : Value} {L : List OpN} {w : World} (h : OwnO B e v L w) {g : Nat} (hg : v.ownBlock = some g) : B ≤ g ∧ g < w.heap.size := by
  obtain ⟨C, h1, _⟩ := h
  exact World.ownsRow.lt h1 g hg
def RdBPost (B : Nat) (e : TypeId) (o : Option (List OpN)) (y : Ending) (w' : World) : Prop := ∃ v, y = .returned (.tuple #[v, .bool o.isSome]) ∧ OwnO B e v (o.getD []) w'
theorem Try.infoO38 : ∃ bytes, bytes ≤ 1024 ∧ (Try.prog.info? 28).map (fun i => (i.zero, i.size, i.bytes)) = some (some (.agg (opV zeroO none 0)), 38, bytes) := ⟨112, by decide, by kernel_rfl⟩
set_option maxHeartbeats 8000000 in
set_option maxRecDepth 100000 in
theorem ref_readBatch (s : List UInt8) (w : World) (hm : s.length ≤ 140737488351232) :
    Calls Try.prog 20 #[.string ⟨s.toArray⟩] w fun e w' => RdBPost w.heap.size 28 (readL s) e w' ∧ Below w.heap.size w w' := by
  have HM := Lib.hid hm
  clear hm
  go_enter Try.func20, Try.ntmps20
  go_wp2_with fail
  obtain ⟨q, hq⟩ : ∃ q, splitB s = q := ⟨_, rfl⟩
  have HL := Shut.mk hq
  have hcc := rsplit_any s w (by have := HM.out; omega)
  rw [hq] at hcc
  clear hq
  refine hcc.mono ?_
  rintro e w2 ⟨⟨v, rfl, ho⟩, hb⟩
  obtain ⟨ao, cq, rfl⟩ := ho.form
  have HB2 := Lib.hid hb
  have HSA := Lib.hid (strsAt_own ho)
  clear hcc ho hb
  cases q with
  | none =>
    simp only [Option.getD_none, List.length_nil, Option.isSome_none]
    have HR := Shut.mk (show readL s = none by rw [readL, HL.out])
    go_wp2_with fail
    go_ret2
    exact ⟨⟨_, by rw [HR.out]; rfl, by rw [HR.out]; exact OwnO.nil _ _ _⟩, HB2.out⟩
  | some l =>
    simp only [Option.getD_some, Option.isSome_some] at HSA ⊢
    obtain ⟨n, hn⟩ : ∃ n, l.length = n := ⟨_, rfl⟩
    have HN := Shut.mk hn
    rw [hn]
    clear hn
    have HLR := Lib.hid (split_parts HL.out)
    by_cases h8 : 8 < n
    · have h8i : (8 : Int) < (n : Int) := by omega
      have HR := Shut.mk (show readL s = none by rw [readL, HL.out]; exact if_neg (by rw [HN.out]; omega))
      go_wp2_with fail
      go_ret2
      exact ⟨⟨_, by rw [HR.out]; rfl, by rw [HR.out]; exact OwnO.nil _ _ _⟩, HB2.out⟩
    · have h8i : ¬ (8 : Int) < (n : Int) := by omega
      have HR0 := Shut.mk (show readL s = readAll l by rw [readL, HL.out]; exact if_pos (by rw [HN.out]; omega))
      have HZO := Lib.hid (show (Try.prog.info? 28).bind (·.zero) = some (.agg (opL zeroO none 0).toArray) by kernel_rfl)
      go_wp2_with fail
      go_loopw [25, 6] (fun i v wr => ∃ (k : Nat) (L : List OpN), k ≤ n ∧ i = .int .i64 k ∧ L.length = k ∧ (l.take k).map readO = L.map some ∧ OwnO w2.heap.size 28 v L wr ∧ Below w2.heap.size w2 wr) (fun i _ _ => n - (intOf i).toNat)
      case atStart => exact ⟨0, [], Nat.zero_le _, rfl, rfl, by rfl, OwnO.nil _ _ _, Below.refl _ _⟩
      case round =>
        obtain ⟨k, L, hk, rfl, hLk, hmap, hown, hb⟩ := hrel
        have HLK := Shut.mk hLk
        have HMP := Shut.mk hmap
        have HO := Lib.hid hown
        have HBW := Lib.hid hb
        have HSW := Lib.hid (HSA.out.below hb)
        clear hLk hmap hown hb
        by_cases hkn : k < n
        · obtain ⟨t, ht⟩ : ∃ t, l[k]'(by rw [HN.out]; exact hkn) = t := ⟨_, rfl⟩
          obtain ⟨g, og, rfl, c0⟩ := HSW.out.cell (q := k) (by rw [HN.out]; exact hkn)
          rw [ht] at c0
          have HT := Shut.mk ht
          have HTL := Lib.hid (show t.length ≤ 262144 from HLR.out t (by rw [← ht]; exact List.getElem_mem _))
          clear ht
          have HRD := Lib.hid (ref_readOp t wr (by have := HTL.out; omega))
          obtain ⟨o, hor⟩ : ∃ o, readO t = o := ⟨_, rfl⟩
          have HOR := Shut.mk hor
          rw [hor] at HRD
          clear hor
          have hsz : ∀ pa pc, (Try.prog.info? 28).map (·.size) = some (opV (o.getD zeroO) pa pc).size ∧ (opV zeroO none 0).size = (opV (o.getD zeroO) pa pc).size ∧ (o.getD zeroO).d.ref.length = 32 ∧ (o.getD zeroO).Ok := fun pa pc => by
            have hok : (o.getD zeroO).Ok := by
              cases o with
              | none => exact ⟨zeroI_ok, fun p hp => by cases hp⟩
              | some o => exact (readO_some HOR.out).2.2
            exact ⟨by rw [opV_size hok.ref.1]; exact Try.sizeO, by rw [opV_size hok.ref.1]; rfl, hok.ref.1, hok⟩
          have HSZ := Lib.hid hsz
          clear hsz
          go_wp2_with fail
          refine HRD.out.mono ?_
          rintro e w3 ⟨⟨pa, pc, rfl, hia, hnew⟩, hb⟩
          have HIA := Lib.hid hia
          have HNEW := Lib.hid hnew
          have HB3 := Lib.hid hb
          clear hia hnew hb c0 HRD
          unfold RdO
          obtain ⟨y, hy⟩ : ∃ y, o.getD zeroO = y := ⟨_, rfl⟩
          have HY := Shut.mk hy
          obtain ⟨b, hbo⟩ : ∃ b, o.isSome = b := ⟨_, rfl⟩
          have HBO := Shut.mk hbo
          rw [hy] at HIA HSZ ⊢
          rw [hbo]
          clear hy hbo
          go_wp2_with (first
            | (refine wpList_alloc_of rfl 28 rfl (opL zeroO none 0) HZO.out ?_)
            | (refine wpList_store_cells rfl 28 _ _ rfl rfl w3.heap.size (opV zeroO none 0) (opV y pa pc) 28 rfl rfl (heap_alloc_new w3 _) (HSZ.out pa pc).1 (HSZ.out pa pc).2.1 (opV_all y pa pc) ?_))
          intro w4 hc hb
          have hb4 : Below w3.heap.size w3 w4 := But.toBelow ((Below.refl _ w3).alloc (Nat.le_refl _) _) hb.out (Nat.le_refl _) (by rw [World.size_alloc]; exact Nat.le_succ _)
          have HC4 := Lib.hid hc.out
          have HIA4 := Lib.hid (HIA.out.below hb4)
          have HB4 := Lib.hid (HB3.out.trans (hb4.mono HB3.out.size))
          have HO4 := Lib.hid (HO.out.below HB4.out)
          clear hc hb hb4 HIA HB3
          cases b with
          | false =>
            have HR := Shut.mk (show readL s = none by
              rw [HR0.out]
              refine readAll_bad (k := k) (by rw [HN.out]; exact hkn) ?_
              rw [HT.out, HOR.out]
              have := HBO.out
              simpa using this)
            go_wp2_with fail
            go_ret2
            exact ⟨⟨_, by rw [HR.out]; rfl, by rw [HR.out]; exact OwnO.nil _ _ _⟩, HB2.out.trans ((HBW.out.trans (HB4.out.mono HBW.out.size)).mono HB2.out.size)⟩
          | true =>
            have hos : o = some y := by
              cases o with
              | none => have := HBO.out; cases this
              | some o => rw [← HY.out]; rfl
            have HOS := Shut.mk hos
            clear hos
            have HNE := Lib.hid (show ∀ a, pa = some a → y.preds ≠ [] → u6.ownBlock ≠ some a.block from fun a ha _ e => by
              have h1 := (HO.out.lt e).2
              have h2 := HNEW.out a ha
              omega)
            have HLB := Lib.hid (show L.length ≤ 1000000 by rw [HLK.out]; omega)
            have HW4 := Lib.hid (show w2.heap.size ≤ w4.heap.size from Nat.le_trans HBW.out.size HB4.out.size)
            obtain ⟨bytes, hby, hinfo⟩ := Try.infoO38
            have HBY := Lib.hid hby
            have HINF := Lib.hid hinfo
            clear hby hinfo
            go_upto_region 11 with (fail)
            refine wp_region_lit ?_
            iterate 3 (first | go_skip | go_guarded | go_step)
            refine wpList_load_cells rfl 28 _ rfl w3.heap.size (opV y pa pc) 28 _ rfl HC4.out Try.underlying28 rfl (HSZ.out pa pc).1 ?_
            simp only [Act.put, List.setIfInBounds_toArray, List.set_cons_zero, List.set_cons_succ]
            refine wpList_plain rfl fun K hK => (op_build_wide 43 28 _ rfl (opL y pa pc) rfl (run_build_wide 43 28 (opL y pa pc) _ _ _ Try.underlying43 HINF.out (opL_len (HSZ.out pa pc).2.2.1) (by decide) (by decide)) (hK _ _ ?_)).out
            simp only [Act.put, List.setIfInBounds_toArray, List.set_cons_zero, List.set_cons_succ]
            refine wpList_append_op rfl _ _ 43 28 rfl w2.heap.size bytes (.agg (opV zeroO none 0)) rfl HBY.out Try.underlying43 HINF.out u6 L y pa pc (HSZ.out pa pc).2.2.1 (HIA4.out.below ((Below.refl _ _).alloc (Nat.le_refl _) _)) HNE.out ⟨w4.heap.size, 0, none⟩ 1 rfl (HO4.out.below ((Below.refl _ _).alloc (Nat.le_refl _) _)) rfl (fun j u hj => by rw [Addr.add_lit, Nat.zero_add, Lib.cell_of_heap (heap_alloc_new w4 _), List.getElem?_toArray]; exact hj) HLB.out (Nat.le_trans HW4.out (by rw [World.size_alloc]; exact Nat.le_succ _)) ?_
            intro v' w' hov hbv hgv
            have HOV := Lib.hid hov.out
            have HBV := Lib.hid (show Below w2.heap.size w2 w' from (HBW.out.trans (HB4.out.mono HBW.out.size)).trans (((Below.refl _ w4).alloc HW4.out _).trans hbv.out))
            clear hov hbv hgv
            go_wp2_with fail
            refine ⟨⟨k + 1, L ++ [y], by omega, by go_num, by rw [List.length_append, HLK.out]; rfl, ?_, HOV.out, HBV.out⟩, by simp [intOf]; omega⟩
            rw [List.take_succ_eq_append_getElem (by rw [HN.out]; exact hkn), List.map_append, List.map_append, HMP.out, HT.out]
            simp only [List.map_cons, List.map_nil]
            rw [HOR.out, HOS.out]
        · obtain rfl : k = n := by omega
          have HR := Shut.mk (show readL s = some L by
            rw [HR0.out]
            refine (readAll_iff l L).2 ?_
            rw [← HMP.out, List.take_of_length_le (by rw [HN.out]; exact Nat.le_refl _)])
          go_wp2_with fail
          go_ret2
          exact ⟨⟨_, by rw [HR.out]; rfl, by rw [HR.out]; exact HO.out.mono HB2.out.size⟩, HB2.out.trans (HBW.out.mono HB2.out.size)⟩
end Go.Proofs.Ythgfpojfnhkckaa
