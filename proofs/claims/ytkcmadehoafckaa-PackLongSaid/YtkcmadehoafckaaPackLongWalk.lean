/-
  The walk of the law PackLong.
-/
import Derived.Test.YtkcmadehoafckaaLaws
namespace Go.Proofs.Ytkcmadehoafckaa.packLong
open Go.RowKit

theorem out1 (w : World) (m s : Int) (h : m < -1) :
    Calls Try.prog 8 #[.int .i64 m, .int .i64 s] w fun e w' => e = .returned (.bool true) ∧ Below w.heap.size w w' := by
  go_enter Try.func8, Try.ntmps8
  go_wp2_with fail
  refine (alive_any _).mono ?_
  rintro e w1 ⟨rfl, hb1⟩
  have HB1 := Lib.hid hb1
  clear hb1
  go_wp2_with fail
  go_ret
  exact ⟨rfl, HB1.out⟩
theorem out2 (w : World) (m s : Int) (h0 : -1 ≤ m) (h : 2 < m) :
    Calls Try.prog 8 #[.int .i64 m, .int .i64 s] w fun e w' => e = .returned (.bool true) ∧ Below w.heap.size w w' := by
  go_enter Try.func8, Try.ntmps8
  go_wp2_with fail
  refine (alive_any _).mono ?_
  rintro e w1 ⟨rfl, hb1⟩
  have HB1 := Lib.hid hb1
  clear hb1
  go_wp2_with fail
  go_ret
  exact ⟨rfl, HB1.out⟩
theorem out3 (w : World) (m s : Int) (h0 : -1 ≤ m) (h1 : m ≤ 2) (h : s < -1) :
    Calls Try.prog 8 #[.int .i64 m, .int .i64 s] w fun e w' => e = .returned (.bool true) ∧ Below w.heap.size w w' := by
  go_enter Try.func8, Try.ntmps8
  go_wp2_with fail
  refine (alive_any _).mono ?_
  rintro e w1 ⟨rfl, hb1⟩
  have HB1 := Lib.hid hb1
  clear hb1
  go_wp2_with fail
  go_ret
  exact ⟨rfl, HB1.out⟩
theorem out4 (w : World) (m s : Int) (h0 : -1 ≤ m) (h1 : m ≤ 2) (h2 : -1 ≤ s) (h : 2 < s) :
    Calls Try.prog 8 #[.int .i64 m, .int .i64 s] w fun e w' => e = .returned (.bool true) ∧ Below w.heap.size w w' := by
  go_enter Try.func8, Try.ntmps8
  go_wp2_with fail
  refine (alive_any _).mono ?_
  rintro e w1 ⟨rfl, hb1⟩
  have HB1 := Lib.hid hb1
  clear hb1
  go_wp2_with fail
  go_ret
  exact ⟨rfl, HB1.out⟩

/-- So many empty texts. -/
def blanks (k : Nat) : List (List UInt8) := List.replicate k []
theorem blanks_length (k : Nat) : (blanks k).length = k := by simp [blanks]
theorem textsB_blanks (k : Nat) : (textsB (blanks k)).length = k := by
  induction k with
  | zero => rfl
  | succ k ih =>
    show (textsB ([] :: blanks k)).length = _
    rw [textsB_cons, List.length_append, ih]
    simp [textB, numB, dig_zero]; omega
theorem listB_blanks {k : Nat} (hk : k ≤ 5000) : (listB (blanks k)).length ≤ 5009 := by
  rw [listB_length, textsB_blanks, blanks_length]
  have := numB_length_9 (n := k) (by omega)
  omega

theorem split_blanks_ok {k : Nat} (hk : k ≤ 4096) : splitB (listB (blanks k)) = some (blanks k) := by
  have h1 := listB_blanks (k := k) (by omega)
  have h2 := takeList_listB (l := blanks k) (by rw [blanks_length]; omega) (fun t ht => by have := List.eq_of_mem_replicate ht; subst this; simp) []
  rw [List.append_nil] at h2
  unfold splitB
  rw [if_neg (by omega), h2]
theorem split_blanks_many {k : Nat} (hk : 4096 < k) (hk2 : k ≤ 5000) : splitB (listB (blanks k)) = none := by
  have h1 := listB_blanks (k := k) hk2
  have h2 : takeList (listB (blanks k)) = none := by
    simp only [takeList, listB]
    rw [takeNum_numB (by rw [blanks_length]; omega)]
    simp only
    rw [if_neg (by rw [blanks_length]; omega)]
  unfold splitB
  rw [if_neg (by omega), h2]

/-- A row of empty texts. -/
theorem blanks_at (w : World) (k : Nat) : StrsAt (some ⟨w.heap.size, 0, none⟩) (blanks k) (w.alloc (.cells (madeCells #[.string ⟨#[]⟩] k) 9)) := by
  have hr := World.rowIs_made w (.string ⟨#[]⟩) k 9
  refine Or.inr ⟨w.heap.size, 0, rfl, by simp, fun j hj => ?_⟩
  rw [blanks_length] at hj
  have := hr.cell (i := j) hj
  rw [Nat.zero_add, this]
  have e : (blanks k)[j]'(by rw [blanks_length]; exact hj) = [] := by simp [blanks]
  rw [e]

theorem list_blanks (w : World) (k : Nat) (hk : k ≤ 5000) :
    Calls Try.prog 17 #[.slice (some ⟨w.heap.size, 0, none⟩) k k] (w.alloc (.cells (madeCells #[.string ⟨#[]⟩] k) 9)) fun e w' => e = .returned (.string ⟨(listB (blanks k)).toArray⟩) ∧ Below w.heap.size w w' := by
  have h := list_any _ k (blanks k) _ (blanks_at w k) (by rw [blanks_length]; omega) (by have := listB_blanks hk; omega)
  rw [blanks_length] at h
  refine h.mono ?_
  rintro e w' ⟨he, hb⟩
  exact ⟨he, ((Below.refl _ _).alloc (Nat.le_refl _) _).trans (hb.mono (by simp))⟩

/-- A text of zeros. -/
def zeros (n : Nat) : List UInt8 := List.replicate n 0
theorem zeros_length (n : Nat) : (zeros n).length = n := by simp [zeros]

theorem listB_zeros {n : Nat} (h1 : 65536 ≤ n) (h2 : n < 16777216) : (listB [zeros n]).length = n + 6 := by
  have e1 : (numB 1).length = 2 := by rw [numB_1]; rfl
  have e2 : (numB n).length = 4 := by
    have a := dig_length_le 3 n (Nat.lt_of_lt_of_le h2 (by decide))
    have b : 3 ≤ (dig n).length := by
      apply Decidable.byContradiction
      intro hc
      have := dig_length_ge 2 n (by omega)
      have e : (256 : Nat) ^ 2 = 65536 := by decide
      omega
    rw [numB_length]; omega
  rw [listB_length]
  show (numB 1).length + (textsB [zeros n]).length = _
  have e3 : textsB [zeros n] = textB (zeros n) := by simp [textsB]
  rw [e1, e3, textB_length, zeros_length, e2]
  omega

theorem split_zeros_ok {n : Nat} (h1 : 65536 ≤ n) (h2 : n ≤ 262138) : splitB (listB [zeros n]) = some [zeros n] := by
  have h3 := listB_zeros h1 (by omega)
  have h4 := takeList_listB (l := [zeros n]) (by simp) (fun t ht => by simp at ht; subst ht; rw [zeros_length]; omega) []
  rw [List.append_nil] at h4
  unfold splitB
  rw [if_neg (by omega), h4]
theorem split_zeros_long {n : Nat} (h1 : 262138 < n) (h2 : n < 16777216) : splitB (listB [zeros n]) = none := by
  have h3 := listB_zeros (n := n) (by omega) h2
  unfold splitB
  rw [if_pos (by omega)]

theorem conv_zeros (w : World) (n : Nat) : (convert 54 9 (.slice (some ⟨w.heap.size, 0, none⟩) n n)).run Try.prog (w.alloc (.cells (madeCells #[.int .u8 0] n) 5)) = .ok (.string ⟨(zeros n).toArray⟩) (w.alloc (.cells (madeCells #[.int .u8 0] n) 5)) := by
  have hr := World.rowIs_made w (.int .u8 0) n 5
  have h := run_convert_bytes_back (P := Try.prog) (w.alloc (.cells (madeCells #[.int .u8 0] n) 5)) 54 9 5 ⟨w.heap.size, 0, none⟩ n (zeros n) Try.underlying54 Try.underlying5 Try.underlying9 (by
    intro j hj
    rw [show Addr.add ⟨w.heap.size, 0, none⟩ j = ⟨w.heap.size, j, none⟩ by simp only [Addr.add]; split <;> simp_all]
    have := hr.cell (i := j) (by rw [zeros_length] at hj; exact hj)
    rw [this]
    have e : (zeros n)[j] = 0 := by simp [zeros]
    rw [e]; rfl)
  rw [zeros_length] at h
  exact h

/-- The list of that one text. -/
theorem list_zeros (w : World) (n : Nat) (h1 : 65536 ≤ n) (h2 : n < 16777216) :
    Calls Try.prog 17 #[.slice (some ⟨w.heap.size, 0, none⟩) 1 1] (w.alloc (.cells #[.string ⟨(zeros n).toArray⟩] 9)) fun e w' => e = .returned (.string ⟨(listB [zeros n]).toArray⟩) ∧ Below w.heap.size w w' := by
  have h := list_any (some ⟨w.heap.size, 0, none⟩) 1 [zeros n] (w.alloc (.cells #[.string ⟨(zeros n).toArray⟩] 9))
    (Or.inr ⟨w.heap.size, 0, rfl, by simp, fun j hj => by
      have : j = 0 := by simpa using hj
      subst this
      rw [World.cell?_alloc_at _ _ _ _ (by simp)]
      rfl⟩) (by simp) (by rw [listB_zeros h1 h2]; omega)
  refine h.mono ?_
  rintro e w' ⟨he, hb⟩
  exact ⟨he, ((Below.refl _ _).alloc (Nat.le_refl _) _).trans (hb.mono (by simp))⟩

set_option maxHeartbeats 2000000 in
theorem in_ok_ok (w : World) (m s : Int) (k n : Nat) (hk : (k : Int) = 4096 + m) (hn : (n : Int) = 262138 + s) (h0 : -1 ≤ m) (h1 : m ≤ 2) (h2 : -1 ≤ s) (h3 : s ≤ 2) (hm : m ≤ 0) (hs : s ≤ 0) :
    Calls Try.prog 8 #[.int .i64 m, .int .i64 s] w fun e w' => e = .returned (.bool true) ∧ Below w.heap.size w w' := by
  have hmk1 := run_make_row' (P := Try.prog) 22 9 (.string ⟨#[]⟩) 16 Try.underlying22 Try.infoString rfl .i64 .i64 k (by omega) (by omega)
  have hmk2 := run_make_row' (P := Try.prog) 54 5 (.int .u8 0) 1 Try.underlying54 Try.infoByte rfl .i64 .i64 n (by omega) (by omega)
  rw [hk] at hmk1
  rw [hn] at hmk2
  have HK := Lib.hid hk
  have HN := Lib.hid hn
  have kb : k ≤ 4098 := by omega
  have nb : n ≤ 262140 := by omega
  have nb2 : 262137 ≤ n := by omega
  clear hk hn
  go_enter Try.func8, Try.ntmps8
  go_wp2_with fail
  refine (alive_any _).mono ?_
  rintro e w1 ⟨rfl, hb1⟩
  have HB1 := Lib.hid hb1
  clear hb1
  go_wp2_with fail
  refine (list_blanks w1 k (by omega)).mono ?_
  rintro e w2 ⟨rfl, hb2⟩
  have HB2 := Lib.hid (HB1.out.trans (hb2.mono HB1.out.size))
  clear hb2 HB1
  go_wp2_with fail
  have c1 := split_any (listB (blanks k)) w2 (by have := listB_blanks (k := k) (by omega); omega)
  rw [split_blanks_ok (by have := HK.out; omega)] at c1
  refine c1.mono ?_
  rintro e w3 ⟨⟨v, rfl, ho⟩, hb3⟩
  obtain ⟨ao, cap, rfl⟩ := ho.form
  simp only [Option.getD_some, Option.isSome_some, if_true, blanks_length]
  have HB3 := Lib.hid (HB2.out.trans (hb3.mono HB2.out.size))
  clear c1 ho hb3 HB2 hmk1
  go_wp2_with fail
  rw [conv_zeros w3 n]
  simp only [Result.andThen]
  rw [Oper.upon_value]
  clear hmk2
  have nb2' : 65536 ≤ n := by omega
  have HB3' := Lib.hid (HB3.out.alloc HB3.out.size (.cells (madeCells #[.int .u8 0] n) 5))
  clear HB3
  generalize (w3.alloc (.cells (madeCells #[.int .u8 0] n) 5)) = wz at HB3' ⊢
  go_wp2_with fail
  refine (list_zeros wz n nb2' (by omega)).mono ?_
  rintro e w4 ⟨rfl, hb4⟩
  have HB4 := Lib.hid (HB3'.out.trans (hb4.mono HB3'.out.size))
  clear hb4 HB3'
  go_wp2_with fail
  have c2 := split_any (listB [zeros n]) w4 (by have := listB_zeros (n := n) nb2' (by omega); omega)
  rw [split_zeros_ok nb2' (by have := HN.out; omega)] at c2
  refine c2.mono ?_
  rintro e w5 ⟨⟨v, rfl, ho⟩, hb5⟩
  obtain ⟨ao2, cap2, rfl⟩ := ho.form
  have HS := Lib.hid (strsAt_own ho)
  simp only [Option.getD_some, Option.isSome_some, if_true, List.length_singleton]
  have HB5 := Lib.hid (HB4.out.trans (hb5.mono HB4.out.size))
  clear c2 hb5 HB4
  obtain ⟨xb, xo, hxe, hxc⟩ := HS.out.cell (q := 0) (by simp)
  simp only [Option.getD_some, List.getElem_cons_zero, Nat.add_zero] at hxc
  subst hxe
  clear ho
  have hz := zeros_length n
  go_wp2_with fail
  go_ret
  exact ⟨rfl, HB5.out⟩

set_option maxHeartbeats 2000000 in
theorem in_ok_long (w : World) (m s : Int) (k n : Nat) (hk : (k : Int) = 4096 + m) (hn : (n : Int) = 262138 + s) (h0 : -1 ≤ m) (h1 : m ≤ 2) (h2 : -1 ≤ s) (h3 : s ≤ 2) (hm : m ≤ 0) (hs : 0 < s) :
    Calls Try.prog 8 #[.int .i64 m, .int .i64 s] w fun e w' => e = .returned (.bool true) ∧ Below w.heap.size w w' := by
  have hmk1 := run_make_row' (P := Try.prog) 22 9 (.string ⟨#[]⟩) 16 Try.underlying22 Try.infoString rfl .i64 .i64 k (by omega) (by omega)
  have hmk2 := run_make_row' (P := Try.prog) 54 5 (.int .u8 0) 1 Try.underlying54 Try.infoByte rfl .i64 .i64 n (by omega) (by omega)
  rw [hk] at hmk1
  rw [hn] at hmk2
  have HK := Lib.hid hk
  have HN := Lib.hid hn
  have kb : k ≤ 4098 := by omega
  have nb : n ≤ 262140 := by omega
  have nb2 : 262137 ≤ n := by omega
  clear hk hn
  go_enter Try.func8, Try.ntmps8
  go_wp2_with fail
  refine (alive_any _).mono ?_
  rintro e w1 ⟨rfl, hb1⟩
  have HB1 := Lib.hid hb1
  clear hb1
  go_wp2_with fail
  refine (list_blanks w1 k (by omega)).mono ?_
  rintro e w2 ⟨rfl, hb2⟩
  have HB2 := Lib.hid (HB1.out.trans (hb2.mono HB1.out.size))
  clear hb2 HB1
  go_wp2_with fail
  have c1 := split_any (listB (blanks k)) w2 (by have := listB_blanks (k := k) (by omega); omega)
  rw [split_blanks_ok (by have := HK.out; omega)] at c1
  refine c1.mono ?_
  rintro e w3 ⟨⟨v, rfl, ho⟩, hb3⟩
  obtain ⟨ao, cap, rfl⟩ := ho.form
  simp only [Option.getD_some, Option.isSome_some, if_true, blanks_length]
  have HB3 := Lib.hid (HB2.out.trans (hb3.mono HB2.out.size))
  clear c1 ho hb3 HB2 hmk1
  go_wp2_with fail
  rw [conv_zeros w3 n]
  simp only [Result.andThen]
  rw [Oper.upon_value]
  clear hmk2
  have nb2' : 65536 ≤ n := by omega
  have HB3' := Lib.hid (HB3.out.alloc HB3.out.size (.cells (madeCells #[.int .u8 0] n) 5))
  clear HB3
  generalize (w3.alloc (.cells (madeCells #[.int .u8 0] n) 5)) = wz at HB3' ⊢
  go_wp2_with fail
  refine (list_zeros wz n nb2' (by omega)).mono ?_
  rintro e w4 ⟨rfl, hb4⟩
  have HB4 := Lib.hid (HB3'.out.trans (hb4.mono HB3'.out.size))
  clear hb4 HB3'
  go_wp2_with fail
  have c2 := split_any (listB [zeros n]) w4 (by have := listB_zeros (n := n) nb2' (by omega); omega)
  rw [split_zeros_long (by have := HN.out; omega) (by omega)] at c2
  refine c2.mono ?_
  rintro e w5 ⟨⟨v, rfl, ho⟩, hb5⟩
  obtain ⟨ao2, cap2, rfl⟩ := ho.form
  simp only [Option.getD_none, Option.isSome_none, Bool.false_eq_true, if_false, List.length_nil]
  have HB5 := Lib.hid (HB4.out.trans (hb5.mono HB4.out.size))
  clear c2 ho hb5 HB4
  have hds : decide (s ≤ 0) = false := by simpa using hs
  go_wp2_with fail
  go_ret
  exact ⟨rfl, HB5.out⟩

set_option maxHeartbeats 2000000 in
theorem in_many_ok (w : World) (m s : Int) (k n : Nat) (hk : (k : Int) = 4096 + m) (hn : (n : Int) = 262138 + s) (h0 : -1 ≤ m) (h1 : m ≤ 2) (h2 : -1 ≤ s) (h3 : s ≤ 2) (hm : 0 < m) (hs : s ≤ 0) :
    Calls Try.prog 8 #[.int .i64 m, .int .i64 s] w fun e w' => e = .returned (.bool true) ∧ Below w.heap.size w w' := by
  have hmk1 := run_make_row' (P := Try.prog) 22 9 (.string ⟨#[]⟩) 16 Try.underlying22 Try.infoString rfl .i64 .i64 k (by omega) (by omega)
  have hmk2 := run_make_row' (P := Try.prog) 54 5 (.int .u8 0) 1 Try.underlying54 Try.infoByte rfl .i64 .i64 n (by omega) (by omega)
  rw [hk] at hmk1
  rw [hn] at hmk2
  have HK := Lib.hid hk
  have HN := Lib.hid hn
  have kb : k ≤ 4098 := by omega
  have nb : n ≤ 262140 := by omega
  have nb2 : 262137 ≤ n := by omega
  clear hk hn
  go_enter Try.func8, Try.ntmps8
  go_wp2_with fail
  refine (alive_any _).mono ?_
  rintro e w1 ⟨rfl, hb1⟩
  have HB1 := Lib.hid hb1
  clear hb1
  go_wp2_with fail
  refine (list_blanks w1 k (by omega)).mono ?_
  rintro e w2 ⟨rfl, hb2⟩
  have HB2 := Lib.hid (HB1.out.trans (hb2.mono HB1.out.size))
  clear hb2 HB1
  go_wp2_with fail
  have c1 := split_any (listB (blanks k)) w2 (by have := listB_blanks (k := k) (by omega); omega)
  rw [split_blanks_many (by have := HK.out; omega) (by omega)] at c1
  refine c1.mono ?_
  rintro e w3 ⟨⟨v, rfl, ho⟩, hb3⟩
  obtain ⟨ao, cap, rfl⟩ := ho.form
  simp only [Option.getD_none, Option.isSome_none, Bool.false_eq_true, if_false, List.length_nil]
  have HB3 := Lib.hid (HB2.out.trans (hb3.mono HB2.out.size))
  clear c1 ho hb3 HB2 hmk1
  go_wp2_with fail
  rw [conv_zeros w3 n]
  simp only [Result.andThen]
  rw [Oper.upon_value]
  clear hmk2
  have nb2' : 65536 ≤ n := by omega
  have HB3' := Lib.hid (HB3.out.alloc HB3.out.size (.cells (madeCells #[.int .u8 0] n) 5))
  clear HB3
  generalize (w3.alloc (.cells (madeCells #[.int .u8 0] n) 5)) = wz at HB3' ⊢
  go_wp2_with fail
  refine (list_zeros wz n nb2' (by omega)).mono ?_
  rintro e w4 ⟨rfl, hb4⟩
  have HB4 := Lib.hid (HB3'.out.trans (hb4.mono HB3'.out.size))
  clear hb4 HB3'
  go_wp2_with fail
  have c2 := split_any (listB [zeros n]) w4 (by have := listB_zeros (n := n) nb2' (by omega); omega)
  rw [split_zeros_ok nb2' (by have := HN.out; omega)] at c2
  refine c2.mono ?_
  rintro e w5 ⟨⟨v, rfl, ho⟩, hb5⟩
  obtain ⟨ao2, cap2, rfl⟩ := ho.form
  have HS := Lib.hid (strsAt_own ho)
  simp only [Option.getD_some, Option.isSome_some, if_true, List.length_singleton]
  have HB5 := Lib.hid (HB4.out.trans (hb5.mono HB4.out.size))
  clear c2 hb5 HB4
  obtain ⟨xb, xo, hxe, hxc⟩ := HS.out.cell (q := 0) (by simp)
  simp only [Option.getD_some, List.getElem_cons_zero, Nat.add_zero] at hxc
  subst hxe
  clear ho
  have hz := zeros_length n
  go_wp2_with fail
  go_ret
  exact ⟨rfl, HB5.out⟩

set_option maxHeartbeats 2000000 in
theorem in_many_long (w : World) (m s : Int) (k n : Nat) (hk : (k : Int) = 4096 + m) (hn : (n : Int) = 262138 + s) (h0 : -1 ≤ m) (h1 : m ≤ 2) (h2 : -1 ≤ s) (h3 : s ≤ 2) (hm : 0 < m) (hs : 0 < s) :
    Calls Try.prog 8 #[.int .i64 m, .int .i64 s] w fun e w' => e = .returned (.bool true) ∧ Below w.heap.size w w' := by
  have hmk1 := run_make_row' (P := Try.prog) 22 9 (.string ⟨#[]⟩) 16 Try.underlying22 Try.infoString rfl .i64 .i64 k (by omega) (by omega)
  have hmk2 := run_make_row' (P := Try.prog) 54 5 (.int .u8 0) 1 Try.underlying54 Try.infoByte rfl .i64 .i64 n (by omega) (by omega)
  rw [hk] at hmk1
  rw [hn] at hmk2
  have HK := Lib.hid hk
  have HN := Lib.hid hn
  have kb : k ≤ 4098 := by omega
  have nb : n ≤ 262140 := by omega
  have nb2 : 262137 ≤ n := by omega
  clear hk hn
  go_enter Try.func8, Try.ntmps8
  go_wp2_with fail
  refine (alive_any _).mono ?_
  rintro e w1 ⟨rfl, hb1⟩
  have HB1 := Lib.hid hb1
  clear hb1
  go_wp2_with fail
  refine (list_blanks w1 k (by omega)).mono ?_
  rintro e w2 ⟨rfl, hb2⟩
  have HB2 := Lib.hid (HB1.out.trans (hb2.mono HB1.out.size))
  clear hb2 HB1
  go_wp2_with fail
  have c1 := split_any (listB (blanks k)) w2 (by have := listB_blanks (k := k) (by omega); omega)
  rw [split_blanks_many (by have := HK.out; omega) (by omega)] at c1
  refine c1.mono ?_
  rintro e w3 ⟨⟨v, rfl, ho⟩, hb3⟩
  obtain ⟨ao, cap, rfl⟩ := ho.form
  simp only [Option.getD_none, Option.isSome_none, Bool.false_eq_true, if_false, List.length_nil]
  have HB3 := Lib.hid (HB2.out.trans (hb3.mono HB2.out.size))
  clear c1 ho hb3 HB2 hmk1
  go_wp2_with fail
  rw [conv_zeros w3 n]
  simp only [Result.andThen]
  rw [Oper.upon_value]
  clear hmk2
  have nb2' : 65536 ≤ n := by omega
  have HB3' := Lib.hid (HB3.out.alloc HB3.out.size (.cells (madeCells #[.int .u8 0] n) 5))
  clear HB3
  generalize (w3.alloc (.cells (madeCells #[.int .u8 0] n) 5)) = wz at HB3' ⊢
  go_wp2_with fail
  refine (list_zeros wz n nb2' (by omega)).mono ?_
  rintro e w4 ⟨rfl, hb4⟩
  have HB4 := Lib.hid (HB3'.out.trans (hb4.mono HB3'.out.size))
  clear hb4 HB3'
  go_wp2_with fail
  have c2 := split_any (listB [zeros n]) w4 (by have := listB_zeros (n := n) nb2' (by omega); omega)
  rw [split_zeros_long (by have := HN.out; omega) (by omega)] at c2
  refine c2.mono ?_
  rintro e w5 ⟨⟨v, rfl, ho⟩, hb5⟩
  obtain ⟨ao2, cap2, rfl⟩ := ho.form
  simp only [Option.getD_none, Option.isSome_none, Bool.false_eq_true, if_false, List.length_nil]
  have HB5 := Lib.hid (HB4.out.trans (hb5.mono HB4.out.size))
  clear c2 ho hb5 HB4
  have hds : decide (s ≤ 0) = false := by simpa using hs
  go_wp2_with fail
  go_ret
  exact ⟨rfl, HB5.out⟩

theorem walk (w : World) (m : Int) (_ : (Lit.int .i64 m).wf = true) (s : Int) (_ : (Lit.int .i64 s).wf = true) :
    Calls Try.prog 8 #[.int .i64 m, .int .i64 s] w fun e w' => e = .returned (.bool true) ∧ Below w.heap.size w w' := by
  by_cases a : m < -1
  · exact out1 w m s a
  by_cases b : 2 < m
  · exact out2 w m s (by omega) b
  by_cases c : s < -1
  · exact out3 w m s (by omega) (by omega) c
  by_cases d : 2 < s
  · exact out4 w m s (by omega) (by omega) (by omega) d
  obtain ⟨k, hk⟩ : ∃ k : Nat, (k : Int) = 4096 + m := ⟨(4096 + m).toNat, by omega⟩
  obtain ⟨n, hn⟩ : ∃ n : Nat, (n : Int) = 262138 + s := ⟨(262138 + s).toNat, by omega⟩
  by_cases e : m ≤ 0
  · by_cases f : s ≤ 0
    · exact in_ok_ok w m s k n hk hn (by omega) (by omega) (by omega) (by omega) e f
    · exact in_ok_long w m s k n hk hn (by omega) (by omega) (by omega) (by omega) e (by omega)
  · by_cases f : s ≤ 0
    · exact in_many_ok w m s k n hk hn (by omega) (by omega) (by omega) (by omega) (by omega) f
    · exact in_many_long w m s k n hk hn (by omega) (by omega) (by omega) (by omega) (by omega) (by omega)
end Go.Proofs.Ytkcmadehoafckaa.packLong
