/-
  The document's disk: act, Write.
-/
import Derived.Test.YtmkelboncapkpaaDiskGone
namespace Go.Proofs.Ytmkelboncapkpaa
open Go.RowKit Go.BigFrame

/-- Fields alone are stored. -/
theorem RefAt.fields {g : Nat} {vS vA vD : Value} {s : DS} {w w' : World} (h : RefAt g vS vA vD s w) (hb : But g w w') {acts fuse keep : Nat} {off : Bool} (hc : Cells g 54 (refV vS vA vD off acts fuse keep) w') :
    RefAt g vS vA vD { s with off := off, acts := acts, fuse := fuse, keep := keep } w' :=
  ⟨hc, h.safe.but hb (fun e => h.safe.notCells h.cells (by decide) e), h.at'.but hb (fun e => h.at'.notCells h.cells (by decide) e), h.data.but hb (fun e => h.data.notCells h.cells (by decide) e), h.apart⟩

theorem actS_zero {s : DS} (h : s.fuse = 0) : actS s = { s with off := s.off, acts := s.acts + 1, fuse := s.fuse, keep := s.keep } := by rw [actS, if_pos h]
theorem actS_one {s : DS} (h : s.fuse = 1) : actS s = goneS { s with off := s.off, acts := s.acts + 1, fuse := 0, keep := s.keep } s.keep := by rw [actS, if_neg (by omega), if_pos h]
theorem actS_more {s : DS} (h0 : ¬ s.fuse = 0) (h1 : ¬ s.fuse = 1) : actS s = { s with off := s.off, acts := s.acts + 1, fuse := s.fuse - 1, keep := s.keep } := by rw [actS, if_neg h0, if_neg h1]

set_option maxHeartbeats 4000000 in
set_option maxRecDepth 100000 in
theorem ref_act (g : Nat) (vS vA vD : Value) (s : DS) (w : World) (h : RefAt g vS vA vD s w) (ha : s.acts ≤ 1000000) (hf : s.fuse ≤ 9223372036854775807) (hk : s.keep < 18446744073709551616) (hp : s.pend.length ≤ 1000000) (hok : s.Ok) :
    Calls Try.prog 35 #[.pointer (some ⟨g, 0, none⟩)] w fun e w' => e = .returned (.bool (failS s)) ∧ (∃ vA' vD', RefAt g vS vA' vD' (actS s) w' ∧ Turn (refO g vS vA vD) (refO g vS vA' vD') w w') := by
  have c4 := h.field 4
  have c5 := h.field 5
  have c6 := h.field 6
  simp only [refV, List.getElem?_toArray, List.getElem?_cons_zero, List.getElem?_cons_succ] at c4 c5 c6
  have f4 := h.cells.frozen 4
  have f5 := h.cells.frozen 5
  have HA0 := Shut.mk (fun e => actS_zero (s := s) e)
  have HA1 := Shut.mk (fun e => actS_one (s := s) e)
  have HA2 := Shut.mk (fun e e' => actS_more (s := s) e e')
  have HF := Shut.mk (show failS s = (s.fuse == 1) from rfl)
  have H := Lib.hid h
  have HK := Lib.hid hk
  have HP := Lib.hid hp
  have HOK := Lib.hid hok
  have HS4 := Lib.hid (fun (v : Value) => h.cells.set 4 v)
  have HS5 := Lib.hid (fun (v u : Value) => (h.cells.set 4 v).set 5 u)
  clear h hk hp hok
  obtain ⟨ac, hac⟩ : ∃ ac, s.acts = ac := ⟨_, rfl⟩
  obtain ⟨fu, hfu⟩ : ∃ fu, s.fuse = fu := ⟨_, rfl⟩
  obtain ⟨ke, hke⟩ : ∃ ke, s.keep = ke := ⟨_, rfl⟩
  rw [hac] at c4 HA0 HA1 HA2 ha
  rw [hfu] at c5 HA0 HA1 HA2 HF hf HS4 HS5
  rw [hke] at c6 HA0 HA1 HA2 HK HS4 HS5
  have HKE := Shut.mk hke
  clear hac hfu hke
  have hac1 : (ac : Int) + 1 = ((ac + 1 : Nat) : Int) := by omega
  have HAC1 := Shut.mk hac1
  clear hac1
  go_enter Try.func35, Try.ntmps35
  by_cases h0 : fu = 0
  · have hd : ¬ (0 : Int) < (fu : Int) := by omega
    have HZ := Shut.mk h0
    clear h0
    go_wp2_with fail
    go_ret
    rw [HAC1.out]
    exact ⟨by rw [HF.out, HZ.out]; rfl, vA, vD, by rw [HA0.out HZ.out]; exact H.out.fields ((But.refl g w).setCell 4 _) (HS4.out _), ⟨(Only.refl _ w).setCell 4 _ (.inl (.inl rfl)), fun b hb => .inl hb⟩⟩
  · by_cases h1 : fu = 1
    · have hgt : (0 : Int) < (fu : Int) := by omega
      have hne : ((fu : Int) - 1 == 0) = true := by simp; omega
      have hsub : (fu : Int) - 1 = ((0 : Nat) : Int) := by omega
      have HSUB := Shut.mk hsub
      have HZ := Shut.mk h1
      clear h0 h1 hsub
      go_wp2_with fail
      rw [HAC1.out, HSUB.out]
      have hr : RefAt g vS vA vD { s with off := s.off, acts := ac + 1, fuse := 0, keep := ke } ((w.setCell ⟨g, 4, none⟩ (.int .i64 ((ac + 1 : Nat) : Int))).setCell ⟨g, 5, none⟩ (.int .i64 ((0 : Nat) : Int))) :=
        H.out.fields (((But.refl g w).setCell 4 _).setCell 5 _) (HS5.out _ _)
      have ho : Only (refO g vS vA vD) w ((w.setCell ⟨g, 4, none⟩ (.int .i64 ((ac + 1 : Nat) : Int))).setCell ⟨g, 5, none⟩ (.int .i64 ((0 : Nat) : Int))) := ((Only.refl _ w).setCell 4 _ (.inl (.inl rfl))).setCell 5 _ (.inl (.inl rfl))
      obtain ⟨w2, hw2⟩ : ∃ x, x = (w.setCell ⟨g, 4, none⟩ (.int .i64 ((ac + 1 : Nat) : Int))).setCell ⟨g, 5, none⟩ (.int .i64 ((0 : Nat) : Int)) := ⟨_, rfl⟩
      rw [← hw2] at hr ho ⊢
      have HR := Lib.hid hr
      have HO := Lib.hid ho
      clear hw2 hr ho
      refine (ref_gone g vS vA vD _ ke w2 HR.out HK.out HP.out ⟨HOK.out.safe, HOK.out.pend⟩).mono ?_
      rintro e w3 ⟨rfl, vA', vD', hr3, ht3⟩
      have HR3 := Lib.hid hr3
      have HT3 := Lib.hid ht3
      clear hr3 ht3 HR
      go_wp2_with fail
      go_ret
      exact ⟨by rw [HF.out, HZ.out]; rfl, vA', vD', by rw [HA1.out HZ.out]; exact HR3.out, (Turn.mk HO.out (fun b hb => .inl hb)).trans HT3.out⟩
    · have hgt : (0 : Int) < (fu : Int) := by omega
      have hne : ((fu : Int) - 1 == 0) = false := by simp; omega
      have hsub : (fu : Int) - 1 = ((fu - 1 : Nat) : Int) := by omega
      have HSUB := Shut.mk hsub
      have HZ0 := Shut.mk h0
      have HZ1 := Shut.mk h1
      clear h0 h1 hsub
      go_wp2_with fail
      go_ret
      rw [HAC1.out, HSUB.out]
      exact ⟨by rw [HF.out]; have := HZ1.out; simp [this], vA, vD, by rw [HA2.out HZ0.out HZ1.out]; exact H.out.fields (((But.refl g w).setCell 4 _).setCell 5 _) (HS5.out _ _), ⟨((Only.refl _ w).setCell 4 _ (.inl (.inl rfl))).setCell 5 _ (.inl (.inl rfl)), fun b hb => .inl hb⟩⟩
end Go.Proofs.Ytmkelboncapkpaa
