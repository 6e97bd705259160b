/-
  The developers' seg: the valid bytes read.
-/
import Derived.Test.YthnagnjcbgcnfaaSegNum
namespace Go.Proofs.Ythnagnjcbgcnfaa
open Go.RowKit Go.BigFrame

theorem dataL_take {A : List (List UInt8)} (h : ∀ x ∈ A, x.length = 128) {k : Nat} (hk : 2 + k < A.length) : (dataL A).take (128 * (k + 1)) = (dataL A).take (128 * k) ++ A.getD (2 + k) [] := by
  have hl := dataL_len h
  have hx : (A.getD (2 + k) []).length = 128 := by
    rw [List.getD_eq_getElem?_getD, List.getElem?_eq_getElem hk]
    exact h _ (List.getElem_mem _)
  refine List.ext_getElem? fun p => ?_
  by_cases h1 : p < 128 * k
  · rw [List.getElem?_take, if_pos (by omega), List.getElem?_append_left (by rw [List.length_take]; omega), List.getElem?_take, if_pos h1]
  · obtain ⟨j, rfl⟩ : ∃ j, p = 128 * k + j := ⟨p - 128 * k, by omega⟩
    have e : ((dataL A).take (128 * k)).length = 128 * k := by rw [List.length_take, hl]; omega
    rw [List.getElem?_append_right (by rw [e]; omega), e, Nat.add_sub_cancel_left, List.getElem?_take]
    by_cases hj : j < 128
    · rw [if_pos (by omega), dataL_get h hk hj]
    · rw [if_neg (by omega), List.getElem?_eq_none (by omega)]
theorem byteNs_append (a b : List UInt8) : byteNs (a ++ b) = byteNs a ++ byteNs b := by simp [byteNs]
theorem newB_cells {B : Nat} {g o : Nat} {x : List UInt8} {w : World} (h : NewB B (some ⟨g, o, none⟩) x w) : ∀ j u, (nums IntKind.u8 (byteNs x))[j]? = some u → w.cell? ((⟨g, o, none⟩ : Addr).add j) = some u := fun j u hu => by
  have hjl := (List.getElem?_eq_some_iff.1 hu).1
  rw [nums_len, byteNs_len] at hjl
  rcases h with rfl | ⟨g', o', h1, _, _, h3⟩
  · cases hjl
  · obtain ⟨rfl, rfl⟩ : g = g' ∧ o = o' := by
      have := Option.some.inj h1
      injection this with h1 h2
      exact ⟨h1, h2⟩
    rw [Addr.add_mid, (h3 j hjl).1, ← hu, nums, byteNs, List.getElem?_map, List.getElem?_map, List.getElem?_eq_getElem hjl]
    rfl

theorem OwnN.cap {B : Nat} {e : TypeId} {k : IntKind} {ao : Option Addr} {n c : Nat} {l : List Nat} {w : World} (h : OwnN B e k (.slice ao n c) l w) : l.length ≤ c := by
  rcases h.2 with ⟨hv, h0⟩ | ⟨g, cap, cur, hv, _, _, hcap, _⟩
  · omega
  · injection hv with _ _ h3
    omega
theorem NumsAt.take {ao : Option Addr} {l : List UInt8} {w : World} (h : NumsAt ao .u8 (byteNs l) w) (n : Nat) : NumsAt ao .u8 (byteNs (l.take n)) w := by
  rcases h with h | ⟨b, o, h1, h2, h3⟩
  · have : l = [] := by simpa [byteNs] using h
    subst this
    exact .inl (by simp [byteNs])
  · refine .inr ⟨b, o, h1, h2, fun j hj => ?_⟩
    rw [byteNs_len, List.length_take] at hj
    rw [h3 j (by rw [byteNs_len]; omega)]
    simp [byteNs]

set_option maxHeartbeats 1000000 in
set_option maxRecDepth 100000 in
theorem dev8_read (O : Nat → Prop) (v : Value) (s : DS) (size : Nat) (w : World) (h : DiskIs O v s w) (hf : Fit s 999999) (ho : s.off = false) (hs : size ≤ 128 * (s.safe.length - 2)) :
    Calls Try.prog 19 #[v, .int .i64 (size : Int)] w fun x w' => x = .returned (.tuple #[.string ⟨((dataL (nowS s)).take size).toArray⟩, .int .i64 0]) ∧ Below w.heap.size w w' := by
  have HR := Lib.hid (fun (w' : World) (k : Below w.heap.size w w') (i : Nat) (hi : i < s.safe.length) => show Calls Try.prog 15 #[v, .int .i64 (i : Int)] w' fun e w'' => (∃ ao c, e = .returned (.tuple #[.slice ao ((nowS s).getD i []).length c, .int .i64 0]) ∧ NewB w'.heap.size ao ((nowS s).getD i []) w'') ∧ Below w'.heap.size w' w'' by
    have h1 := dev7_read O v s (i : Int) w' (h.only (Only.of (O := fun _ => False) k) (fun _ _ => id)) hf
    rw [Live.why ho hi, readB_now ho hi] at h1
    exact h1)
  have hok := hf.ok.now
  have hsl := hf.safe
  have hl : (nowS s).length = s.safe.length := nowS_len s
  obtain ⟨A, hA⟩ : ∃ A, nowS s = A := ⟨_, rfl⟩
  obtain ⟨n, hn⟩ : ∃ n, s.safe.length = n := ⟨_, rfl⟩
  rw [hA] at HR hok hl ⊢
  rw [hn] at HR hs hsl hl
  have HOK := Lib.hid hok
  have HL := Shut.mk hl
  have HD := Shut.mk (dataL_len hok)
  clear h hf ho hA hn hok hl
  go_enter Try.func19, Try.ntmps19
  go_wp2_with fail
  go_loopw [6, 7] (fun b at' wq => ∃ k : Nat, 2 + k ≤ n + 2 ∧ 128 * k ≤ size + 127 ∧ at' = .int .i64 (2 + k : Nat) ∧ OwnN w.heap.size 5 .u8 b (byteNs ((dataL A).take (128 * k))) wq ∧ Below w.heap.size w wq) (fun _ i _ => n + 2 - (intOf i).toNat)
  case atStart => exact ⟨0, by omega, by omega, rfl, OwnN.nil _ _ _ _, Below.refl _ _⟩
  case round =>
    obtain ⟨k, hk, hk2, rfl, hown, hb⟩ := hrel
    obtain ⟨ao, cap, rfl⟩ := hown.form
    have hlen : (byteNs ((dataL A).take (128 * k))).length = min (128 * k) (128 * (n - 2)) := by rw [byteNs_len, List.length_take, HD.out, HL.out]
    by_cases hlt : 128 * k < size
    · have hk3 : 2 + k < n := by omega
      rw [show min (128 * k) (128 * (n - 2)) = 128 * k by omega] at hlen
      have HO := Lib.hid hown
      have HB := Lib.hid hb
      have HLE := Shut.mk hlen
      have hlt2 : 128 * (k : Int) < (size : Int) := by omega
      rw [hlen]
      clear hown hb hlen
      go_wp2_with fail
      refine (HR.out wr HB.out (2 + k) hk3).mono ?_
      rintro x w1 ⟨⟨a1, c1, rfl, hnb⟩, hb1⟩
      have hxl : (A.getD (2 + k) []).length = 128 := by
        rw [List.getD_eq_getElem?_getD, List.getElem?_eq_getElem (by rw [HL.out]; exact hk3)]
        exact HOK.out _ (List.getElem_mem _)
      obtain ⟨g, o, rfl⟩ := hnb.form hxl
      have HX := Shut.mk hxl
      have HC := Lib.hid (newB_cells hnb)
      have HO1 := Lib.hid (HO.out.below hb1)
      have HB1 := Lib.hid (HB.out.trans (hb1.mono HB.out.size))
      have HT := Shut.mk (dataL_take HOK.out (k := k) (by rw [HL.out]; exact hk3))
      obtain ⟨X, hX⟩ : ∃ X, A.getD (2 + k) [] = X := ⟨_, rfl⟩
      rw [hX] at HX HC HT
      rw [hX, HX.out]
      clear hnb hb1 hxl HO HB hX
      obtain ⟨D, hD⟩ : ∃ D, byteNs ((dataL A).take (128 * k)) = D := ⟨_, rfl⟩
      obtain ⟨E, hE⟩ : ∃ E, byteNs X = E := ⟨_, rfl⟩
      have HT2 := Shut.mk (show byteNs ((dataL A).take (128 * (k + 1))) = D ++ E by rw [HT.out, byteNs_append, hD, hE])
      have HE := Shut.mk (show 128 = E.length by rw [← hE, byteNs_len, HX.out])
      rw [hD] at HO1 HLE
      rw [HLE.out] at HO1
      rw [hE] at HC
      have HM := Lib.hid (show D.length + E.length ≤ 3000000 by rw [HLE.out, ← HE.out]; omega)
      clear hD hE HT HX
      go_wp2_with (refine wpList_append_nums rfl (.tmp 25) (.tmp 26) 40 5 rfl w.heap.size .u8 1 Try.underlying40 Try.infoU8 (.slice ao (128 * k) cap) D E ⟨g, o, none⟩ 128 c1 HE.out rfl HO1.out rfl HC.out (Nat.le_trans HM.out (by unfold maxLen; omega)) (by have := HM.out; omega) HB1.out.size ?_)
      intro v2 w2 ho2 hb2
      have HO2 := Lib.hid (show OwnN w.heap.size 5 .u8 v2 (byteNs ((dataL A).take (128 * (k + 1)))) w2 by rw [HT2.out]; exact ho2.out)
      have HB2 := Lib.hid (HB1.out.trans hb2.out)
      clear ho2 hb2 HO1 HB1 HC HE HM
      go_wp2_with fail
      exact ⟨⟨k + 1, by omega, by omega, by go_num, HO2.out, HB2.out⟩, by simp [intOf]; omega⟩
    · have hcap := hown.cap
      obtain ⟨m, hm⟩ : ∃ m, min (128 * k) (128 * (n - 2)) = m := ⟨_, rfl⟩
      rw [hm] at hlen
      have hsm : size ≤ m := by omega
      have hnums := hown.at
      have htk : ((dataL A).take (128 * k)).take size = (dataL A).take size := by rw [List.take_take, show min size (128 * k) = size by omega]
      have hn2 : NumsAt ao .u8 (byteNs ((dataL A).take size)) wr := by
        rw [← htk]
        exact hnums.take size
      have hsl2 : ((dataL A).take size).length = size := by rw [List.length_take, HD.out, HL.out]; omega
      have hconv := conv_in (P := Try.prog) Try.underlying40 Try.underlying5 Try.underlying9 (c := cap) hn2
      rw [hsl2] at hconv
      rw [hlen] at hcap ⊢
      have hm2 : (m : Int) ≤ 128 * (k : Int) := by omega
      have hsm2 : (size : Int) ≤ (m : Int) := by omega
      have hsc : (size : Int) ≤ (cap : Int) := by omega
      have HB := Lib.hid hb
      clear hown hnums hn2 hsl2 htk hb hm hlen
      go_wp2_with fail
      go_ret2
      exact ⟨rfl, HB.out⟩
end Go.Proofs.Ythnagnjcbgcnfaa
