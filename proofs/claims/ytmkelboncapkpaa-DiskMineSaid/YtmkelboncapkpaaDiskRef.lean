/-
  The document's disk: pad, Why, Read.
-/
import Derived.Test.YtmkelboncapkpaaDiskM
namespace Go.Proofs.Ytmkelboncapkpaa
open Go.RowKit Go.BigFrame

def refV (vS vA vD : Value) (off : Bool) (acts fuse keep : Nat) : Array Value := #[vS, vA, vD, .bool off, .int .i64 acts, .int .i64 fuse, .int .u64 keep]
def refO (g : Nat) (vS vA vD : Value) : Nat → Prop := fun b => b = g ∨ vS.ownBlock = some b ∨ vA.ownBlock = some b ∨ vD.ownBlock = some b
/-- The document's disk lies there. -/
structure RefAt (g : Nat) (vS vA vD : Value) (s : DS) (w : World) : Prop where
  cells : Cells g 54 (refV vS vA vD s.off s.acts s.fuse s.keep) w
  safe : RowV 9 vS (strs s.safe) w
  at' : RowV 3 vA (nums .i64 (s.pend.map (·.1))) w
  data : RowV 9 vD (strs (s.pend.map (·.2))) w
  apart : ∀ b, vS.ownBlock = some b → vD.ownBlock ≠ some b
def RefIs (O : Nat → Prop) (v : Value) (s : DS) (w : World) : Prop := ∃ g vS vA vD, v = .pointer (some ⟨g, 0, none⟩) ∧ O = refO g vS vA vD ∧ RefAt g vS vA vD s w
theorem RefAt.only {O : Nat → Prop} {g : Nat} {vS vA vD : Value} {s : DS} {w w' : World} (h : RefAt g vS vA vD s w) (k : Only O w w') (hO : ∀ b, refO g vS vA vD b → ¬ O b) : RefAt g vS vA vD s w' :=
  ⟨h.cells.only k (hO g (.inl rfl)), h.safe.only k (fun b hb => hO b (.inr (.inl hb))), h.at'.only k (fun b hb => hO b (.inr (.inr (.inl hb)))), h.data.only k (fun b hb => hO b (.inr (.inr (.inr hb)))), h.apart⟩
theorem RefAt.lt {g : Nat} {vS vA vD : Value} {s : DS} {w : World} (h : RefAt g vS vA vD s w) {b : Nat} (hb : refO g vS vA vD b) : b < w.heap.size := by
  rcases hb with rfl | hb | hb | hb
  · exact h.cells.lt
  · exact h.safe.lt hb
  · exact h.at'.lt hb
  · exact h.data.lt hb
theorem RefIs.only {O P : Nat → Prop} {v : Value} {s : DS} {w w' : World} (h : RefIs O v s w) (k : Only P w w') (hO : ∀ b, O b → ¬ P b) : RefIs O v s w' := by
  obtain ⟨g, vS, vA, vD, hv, rfl, h⟩ := h
  exact ⟨g, vS, vA, vD, hv, rfl, h.only k hO⟩
theorem RefIs.lt {O : Nat → Prop} {v : Value} {s : DS} {w : World} (h : RefIs O v s w) {b : Nat} (hb : O b) : b < w.heap.size := by
  obtain ⟨g, vS, vA, vD, hv, rfl, h⟩ := h
  exact h.lt hb
theorem RefIs.below {O : Nat → Prop} {v : Value} {s : DS} {w w' : World} (h : RefIs O v s w) (k : Below w.heap.size w w') : RefIs O v s w' := h.only (Only.of (O := fun _ => False) k) (fun _ _ => id)

def lenT : Value → Nat
  | .string b => b.size
  | _ => 0
/-- A text while zeros come. -/
def zeroK (b : List UInt8) (k : Nat) : List UInt8 := b ++ List.replicate k 0
theorem zeroK_len (b : List UInt8) (k : Nat) : (zeroK b k).length = b.length + k := by simp [zeroK]
theorem zeroK_next (b : List UInt8) (k : Nat) : zeroK b k ++ [0] = zeroK b (k + 1) := by simp [zeroK, List.replicate_succ']

set_option maxHeartbeats 1000000 in
theorem ref_pad (b : List UInt8) (w : World) (hb : b.length ≤ 1000000) :
    Calls Try.prog 23 #[.string ⟨b.toArray⟩] w fun e w' => e = .returned (.string ⟨(padN b).toArray⟩) ∧ w' = w := by
  have HB := Lib.hid hb
  have HE := Shut.mk (show zeroK b (128 - b.length) = padN b from rfl)
  have H0 := Shut.mk (show zeroK b 0 = b by simp [zeroK])
  obtain ⟨R, hR⟩ : ∃ R, padN b = R := ⟨_, rfl⟩
  rw [hR] at HE ⊢
  clear hb hR
  go_enter Try.func23, Try.ntmps23
  go_wp2_with fail
  go_loop [0] (fun v => ∃ k : Nat, k ≤ 128 - b.length ∧ v = .string ⟨(zeroK b k).toArray⟩) (fun v => 128 - b.length - (lenT v - b.length))
  case atStart => exact ⟨0, by omega, by rw [H0.out]⟩
  case round =>
    obtain ⟨k, hk, rfl⟩ := hrel
    have hl := zeroK_len b k
    by_cases hlt : b.length + k < 128
    · have hlt2 : ((zeroK b k).length : Int) < 128 := by omega
      have hcat : (({ data := (zeroK b k).toArray } : ByteArray) ++ { data := #[0] }) = { data := (zeroK b (k + 1)).toArray } := by
        rw [← zeroK_next]
        exact cat2 (zeroK b k) [0]
      have hcl : ¬ 9223372036854775807 < (zeroK b k).length + 1 := by have := HB.out; omega
      have HL := Shut.mk (zeroK_len b (k + 1))
      obtain ⟨Z, hZ⟩ : ∃ Z, zeroK b (k + 1) = Z := ⟨_, rfl⟩
      rw [hZ] at hcat HL
      have HZ := Shut.mk hZ
      clear hl hZ
      go_wp2_with fail
      exact ⟨⟨k + 1, by omega, by rw [HZ.out]⟩, by simp only [lenT, ByteArray.size, List.size_toArray, HL.out, zeroK_len]; omega⟩
    · have hnl : ¬ ((zeroK b k).length : Int) < 128 := by omega
      obtain rfl : k = 128 - b.length := by omega
      rw [HE.out] at hnl ⊢
      clear hl
      go_wp2_with fail
      go_ret
      exact ⟨rfl, rfl⟩

set_option maxHeartbeats 1000000 in
theorem ref_why (g : Nat) (vS vA vD : Value) (s : DS) (at' : Int) (w : World) (h : RefAt g vS vA vD s w) :
    Calls Try.prog 25 #[.pointer (some ⟨g, 0, none⟩), .int .i64 at'] w fun e w' => e = .returned (.int .i64 (whyS s at' : Nat)) ∧ w' = w := by
  obtain ⟨ao, cap, rfl⟩ := h.safe.form
  rw [strs_length] at h
  have c0 : w.cell? ⟨g, 0, none⟩ = some (.slice ao s.safe.length cap) := by rw [h.cells.at 0]; rfl
  have c3 : w.cell? ⟨g, 3, none⟩ = some (.bool s.off) := by rw [h.cells.at 3]; rfl
  have HW := Shut.mk (show whyS s at' = if at' < 0 ∨ (s.safe.length : Int) ≤ at' then 1 else if s.off then 7 else 0 from rfl)
  obtain ⟨W, hW⟩ : ∃ W, whyS s at' = W := ⟨_, rfl⟩
  rw [hW] at HW ⊢
  clear h hW
  obtain ⟨n, hn⟩ : ∃ n, s.safe.length = n := ⟨_, rfl⟩
  obtain ⟨o, ho⟩ : ∃ o, s.off = o := ⟨_, rfl⟩
  rw [hn] at c0 HW
  rw [ho] at c3 HW
  clear hn ho
  go_enter Try.func25, Try.ntmps25
  by_cases h0 : at' < 0
  · go_wp2_with fail
    go_ret
    exact ⟨by rw [HW.out, if_pos (.inl h0)]; rfl, rfl⟩
  · by_cases h1 : (n : Int) ≤ at'
    · go_wp2_with fail
      go_ret
      exact ⟨by rw [HW.out, if_pos (.inr h1)]; rfl, rfl⟩
    · cases o with
      | true =>
        go_wp2_with fail
        go_ret
        exact ⟨by rw [HW.out, if_neg (by omega)]; rfl, rfl⟩
      | false =>
        go_wp2_with fail
        go_ret
        exact ⟨by rw [HW.out, if_neg (by omega)]; rfl, rfl⟩
theorem strs_get {l : List (List UInt8)} {j : Nat} (h : j < l.length) : (strs l)[j]? = some (.string ⟨(l.getD j []).toArray⟩) := by
  rw [strs, List.getElem?_map, List.getElem?_eq_getElem h, List.getD_eq_getElem?_getD, List.getElem?_eq_getElem h]
  rfl
theorem nums_get {k : IntKind} {l : List Nat} {j : Nat} (h : j < l.length) : (nums k l)[j]? = some (.int k ((l.getD j 0 : Nat) : Int)) := by
  rw [nums, List.getElem?_map, List.getElem?_eq_getElem h, List.getD_eq_getElem?_getD, List.getElem?_eq_getElem h]
  rfl
/-- A read while the writes are looked through: k of them are done. -/
theorem lastOf_take (at' : Nat) : ∀ (p : List (Nat × List UInt8)) (x : List UInt8) (k : Nat) (h : k < p.length), lastOf at' (p.take (k + 1)) x = if (p[k]).1 = at' then (p[k]).2 else lastOf at' (p.take k) x
  | p :: r, x, 0, _ => by simp [lastOf]
  | p :: r, x, k + 1, h => by
    simp only [List.length_cons] at h
    rw [List.take_succ_cons, List.take_succ_cons, lastOf, lastOf, lastOf_take at' r _ k (by omega)]
    simp
theorem RefAt.field {g : Nat} {vS vA vD : Value} {s : DS} {w : World} (h : RefAt g vS vA vD s w) (j : Nat) : w.cell? ⟨g, j, none⟩ = (refV vS vA vD s.off s.acts s.fuse s.keep)[j]? := h.cells.at j

set_option maxHeartbeats 1000000 in
theorem ref_read (g : Nat) (vS vA vD : Value) (s : DS) (at' : Nat) (w : World) (h : RefAt g vS vA vD s w) (ha : at' < s.safe.length) (hp : s.pend.length ≤ 1000000) :
    Calls Try.prog 26 #[.pointer (some ⟨g, 0, none⟩), .int .i64 at'] w fun e w' => e = .returned (.string ⟨(readS s at').toArray⟩) ∧ w' = w := by
  obtain ⟨gs, cs, rfl⟩ := h.safe.formB (by rw [strs_length]; omega)
  obtain ⟨aa, ca, hva⟩ := h.at'.form
  obtain ⟨ad, cd, hvd⟩ := h.data.form
  rw [nums_len, List.length_map] at hva
  rw [strs_length, List.length_map] at hvd
  have c0 := h.field 0
  have c1 := h.field 1
  have c2 := h.field 2
  rw [hva, hvd] at h
  rw [hva] at c1
  rw [hvd] at c2
  rw [strs_length] at c0 h
  simp only [refV, List.getElem?_toArray, List.getElem?_cons_zero, List.getElem?_cons_succ] at c0 c1 c2
  have hx := h.safe.get (by rw [strs_length]) (strs_get ha)
  have HAT := Lib.hid h.at'
  have HDT := Lib.hid h.data
  have HR := Shut.mk (show readS s at' = lastOf at' (s.pend.take s.pend.length) (s.safe.getD at' []) by rw [List.take_length]; rfl)
  have hN : (s.safe.length : Int) = s.safe.length := rfl
  have hai : (at' : Int) < (s.safe.length : Int) := by omega
  obtain ⟨R, hR⟩ : ∃ R, readS s at' = R := ⟨_, rfl⟩
  rw [hR] at HR ⊢
  obtain ⟨x, hxe⟩ : ∃ x, s.safe.getD at' [] = x := ⟨_, rfl⟩
  rw [hxe] at HR hx
  obtain ⟨n, hn⟩ : ∃ n, s.safe.length = n := ⟨_, rfl⟩
  rw [hn] at c0 hai
  obtain ⟨p, hpe⟩ : ∃ p, s.pend = p := ⟨_, rfl⟩
  rw [hpe] at HR HAT HDT c1 c2 hp
  obtain ⟨m, hm⟩ : ∃ m, p.length = m := ⟨_, rfl⟩
  have HM := Shut.mk hm
  rw [hm] at HR HAT HDT c1 c2 hp
  clear h hva hvd hxe hn hpe hm hR ha
  go_enter Try.func26, Try.ntmps26
  go_wp2_with fail
  go_loop [5, 20] (fun v i => ∃ k : Nat, k ≤ m ∧ i = .int .i64 k ∧ v = .string ⟨(lastOf at' (p.take k) x).toArray⟩) (fun _ i => m - (intOf i).toNat)
  case atStart => exact ⟨0, by omega, rfl, by simp [lastOf]⟩
  case round =>
    obtain ⟨k, hk, rfl, rfl⟩ := hrel
    by_cases hlk : k < m
    · have hlk2 : (k : Int) < (m : Int) := by omega
      have hkp : k < p.length := by rw [HM.out]; exact hlk
      obtain ⟨ga, ca', hva⟩ := HAT.out.formB (by rw [nums_len, List.length_map]; omega)
      obtain ⟨gd, cd', hvd⟩ := HDT.out.formB (by rw [strs_length, List.length_map]; omega)
      obtain rfl : aa = some ⟨ga, 0, none⟩ := by injection hva
      obtain rfl : ad = some ⟨gd, 0, none⟩ := by injection hvd
      have ea := HAT.out.get (by rw [nums_len, List.length_map, HM.out]) (nums_get (k := .i64) (j := k) (by rw [List.length_map]; exact hkp))
      have ed := HDT.out.get (by rw [strs_length, List.length_map, HM.out]) (strs_get (j := k) (by rw [List.length_map]; exact hkp))
      have HT := Shut.mk (lastOf_take at' p x k hkp)
      rw [List.getD_eq_getElem?_getD, List.getElem?_map, List.getElem?_eq_getElem hkp] at ea ed
      simp only [Option.map_some, Option.getD_some] at ea ed
      obtain ⟨a, hae⟩ : ∃ a, (p[k]).1 = a := ⟨_, rfl⟩
      obtain ⟨d, hde⟩ : ∃ d, (p[k]).2 = d := ⟨_, rfl⟩
      rw [hae] at ea HT
      rw [hde] at ed HT
      clear hva hvd hae hde hkp
      obtain ⟨Y, hY⟩ : ∃ Y, lastOf at' (p.take k) x = Y := ⟨_, rfl⟩
      rw [hY] at HT ⊢
      clear hY
      by_cases hq : a = at'
      · have hb : ((a : Int) == (at' : Int)) = true := by simp [hq]
        rw [if_pos hq] at HT
        clear hq
        go_wp2_with fail
        exact ⟨⟨k + 1, by omega, by go_num, by rw [HT.out]⟩, by simp [intOf]; omega⟩
      · have hb : ((a : Int) == (at' : Int)) = false := by simp; omega
        rw [if_neg hq] at HT
        clear hq
        go_wp2_with fail
        exact ⟨⟨k + 1, by omega, by go_num, by rw [HT.out]⟩, by simp [intOf]; omega⟩
    · obtain rfl : k = m := by omega
      have hnw : ¬ (k : Int) < (k : Int) := by omega
      rw [← HR.out]
      go_wp2_with fail
      go_ret
      exact ⟨rfl, rfl⟩
end Go.Proofs.Ytmkelboncapkpaa
