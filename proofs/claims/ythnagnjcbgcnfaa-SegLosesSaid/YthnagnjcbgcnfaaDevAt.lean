/-
  The developers' disk: what lies where; Size, has, sector, On, Arm, Down.
-/
import Derived.Test.YthnagnjcbgcnfaaDevM
namespace Go.Proofs.Ythnagnjcbgcnfaa
open Go.RowKit Go.BigFrame

theorem RowV.formC {e : TypeId} {v : Value} {S : List Value} {w : World} (h : RowV e v S w) : ∃ ao cap, v = .slice ao S.length cap ∧ S.length ≤ cap ∧ (0 < S.length → ∃ g, ao = some ⟨g, 0, none⟩) := by
  rcases h.2 with ⟨h1, h2⟩ | ⟨g, cap, cur, h1, _, _, h4, _⟩
  · exact ⟨none, 0, by rw [h1, h2], by omega, fun h => by omega⟩
  · exact ⟨_, cap, h1, h4, fun _ => ⟨g, rfl⟩⟩
def devV (vN vS vP : Value) (off : Bool) (acts fuse keep : Nat) : Array Value := #[vN, vS, vP, .int .i64 acts, .bool off, .int .i64 fuse, .int .u64 keep]
def devO (g : Nat) (vN vS vP : Value) : Nat → Prop := fun b => b = g ∨ vN.ownBlock = some b ∨ vS.ownBlock = some b ∨ vP.ownBlock = some b
/-- The developers' disk lies there: what is there now, what is safe, what waits. -/
structure DevAt (g : Nat) (vN vS vP : Value) (N S : List (List UInt8)) (P : List (Nat × List UInt8)) (off : Bool) (acts fuse keep : Nat) (w : World) : Prop where
  cells : Cells g 47 (devV vN vS vP off acts fuse keep) w
  now : RowV 5 vN (secs N).flatten w
  safe : RowV 5 vS (secs S).flatten w
  pend : RowK 129 81 vP (wrows P) w
  apart : ∀ b, vN.ownBlock = some b → vS.ownBlock ≠ some b
section
variable {g : Nat} {vN vS vP : Value} {N S : List (List UInt8)} {P : List (Nat × List UInt8)} {off : Bool} {acts fuse keep : Nat} {w w' : World}
theorem DevAt.only {O : Nat → Prop} (h : DevAt g vN vS vP N S P off acts fuse keep w) (k : Only O w w') (hO : ∀ b, devO g vN vS vP b → ¬ O b) : DevAt g vN vS vP N S P off acts fuse keep w' :=
  ⟨h.cells.only k (hO g (.inl rfl)), h.now.only k (fun b hb => hO b (.inr (.inl hb))), h.safe.only k (fun b hb => hO b (.inr (.inr (.inl hb)))), h.pend.only k (fun b hb => hO b (.inr (.inr (.inr hb)))), h.apart⟩
theorem DevAt.below (h : DevAt g vN vS vP N S P off acts fuse keep w) (k : Below w.heap.size w w') : DevAt g vN vS vP N S P off acts fuse keep w' := h.only (Only.of (O := fun _ => False) k) (fun _ _ => id)
theorem DevAt.lt (h : DevAt g vN vS vP N S P off acts fuse keep w) {b : Nat} (hb : devO g vN vS vP b) : b < w.heap.size := by
  rcases hb with rfl | hb | hb | hb
  · exact h.cells.lt
  · exact h.now.lt hb
  · exact h.safe.lt hb
  · exact h.pend.lt hb
theorem DevAt.field (h : DevAt g vN vS vP N S P off acts fuse keep w) (j : Nat) : w.cell? ⟨g, j, none⟩ = (devV vN vS vP off acts fuse keep)[j]? := h.cells.at j
/-- Fields alone are stored. -/
theorem DevAt.fields (h : DevAt g vN vS vP N S P off acts fuse keep w) (hb : But g w w') {off' : Bool} {acts' fuse' keep' : Nat} (hc : Cells g 47 (devV vN vS vP off' acts' fuse' keep') w') : DevAt g vN vS vP N S P off' acts' fuse' keep' w' :=
  ⟨hc, h.now.but hb (fun e => h.now.notCells h.cells (by decide) e), h.safe.but hb (fun e => h.safe.notCells h.cells (by decide) e), h.pend.but hb (fun e => h.pend.notCells h.cells (by decide) e), h.apart⟩
end
/-- A disk lies there, in blocks O (what is kept plays a part only where it is armed). -/
def DiskIs (O : Nat → Prop) (v : Value) (s : DS) (w : World) : Prop := ∃ g vN vS vP kp, v = .pointer (some ⟨g, 0, none⟩) ∧ O = devO g vN vS vP ∧ DevAt g vN vS vP (nowS s) s.safe s.pend s.off s.acts s.fuse kp w ∧ (s.fuse ≠ 0 → kp = s.keep)
theorem DiskIs.ptr {O : Nat → Prop} {v : Value} {s : DS} {w : World} (h : DiskIs O v s w) : ∃ a, v = .pointer (some a) := by
  obtain ⟨g, vN, vS, vP, kp, rfl, _⟩ := h
  exact ⟨_, rfl⟩
theorem DiskIs.lt {O : Nat → Prop} {v : Value} {s : DS} {w : World} (h : DiskIs O v s w) : ∀ b, O b → b < w.heap.size := by
  obtain ⟨g, vN, vS, vP, kp, rfl, rfl, h, _⟩ := h
  exact fun b hb => h.lt hb
theorem DiskIs.only {O P : Nat → Prop} {v : Value} {s : DS} {w w' : World} (h : DiskIs O v s w) (k : Only P w w') (hO : ∀ b, O b → ¬ P b) : DiskIs O v s w' := by
  obtain ⟨g, vN, vS, vP, kp, hv, rfl, h, hk⟩ := h
  exact ⟨g, vN, vS, vP, kp, hv, rfl, h.only k hO, hk⟩

/-! ### Small ones -/
theorem dev_size (g : Nat) (vN vS vP : Value) (N S : List (List UInt8)) (P : List (Nat × List UInt8)) (off : Bool) (acts fuse keep : Nat) (w : World) (h : DevAt g vN vS vP N S P off acts fuse keep w) (hN : ∀ x ∈ N, x.length = 128) (hs : N.length ≤ 16384) :
    Calls Try.prog 16 #[.pointer (some ⟨g, 0, none⟩)] w fun e w' => e = .returned (.int .i64 (N.length : Nat)) ∧ w' = w := by
  obtain ⟨ao, cap, rfl, _, _⟩ := h.now.formC
  rw [secs_flat hN] at h
  have c0 := h.field 0
  simp only [devV, List.getElem?_toArray, List.getElem?_cons_zero] at c0
  obtain ⟨n, hn⟩ : ∃ n, N.length = n := ⟨_, rfl⟩
  rw [hn] at c0 hs ⊢
  clear h hn hN
  go_enter Try.func16, Try.ntmps16
  go_wp2_with fail
  go_ret
  exact ⟨rfl, rfl⟩
theorem dev7_size (O : Nat → Prop) (v : Value) (s : DS) (w : World) (h : DiskIs O v s w) (hf : Fit s 999999) :
    Calls Try.prog 16 #[v] w fun e w' => e = .returned (.int .i64 (s.safe.length : Nat)) ∧ Below w.heap.size w w' := by
  obtain ⟨g, vN, vS, vP, kp, rfl, rfl, h, hkp⟩ := h
  refine (dev_size g vN vS vP _ _ _ _ _ _ _ w h hf.ok.now (by rw [nowS_len]; exact hf.safe)).mono fun e w' he => ?_
  obtain ⟨rfl, rfl⟩ := he
  exact ⟨by rw [nowS_len], Below.refl _ _⟩
theorem dev7_down (O : Nat → Prop) (v : Value) (s : DS) (w : World) (h : DiskIs O v s w) (_hf : Fit s 999999) :
    Calls Try.prog 17 #[v] w fun e w' => e = .returned (.bool s.off) ∧ Below w.heap.size w w' := by
  obtain ⟨g, vN, vS, vP, kp, rfl, rfl, h, hkp⟩ := h
  have c4 := h.field 4
  simp only [devV, List.getElem?_toArray, List.getElem?_cons_zero, List.getElem?_cons_succ] at c4
  obtain ⟨o, ho⟩ : ∃ o, s.off = o := ⟨_, rfl⟩
  rw [ho] at c4 ⊢
  clear h ho _hf
  go_enter Try.func17, Try.ntmps17
  cases o with
  | true =>
    go_wp2_with fail
    go_ret
    exact ⟨rfl, Below.refl _ _⟩
  | false =>
    go_wp2_with fail
    go_ret
    exact ⟨rfl, Below.refl _ _⟩
theorem dev7_on (O : Nat → Prop) (v : Value) (s : DS) (w : World) (h : DiskIs O v s w) (_hf : Fit s 999999) :
    Calls Try.prog 12 #[v] w fun e w' => e = .returned (.tuple #[]) ∧ ∃ O', DiskIs O' v (onS s) w' ∧ Turn O O' w w' := by
  obtain ⟨g, vN, vS, vP, kp, rfl, rfl, h, hkp⟩ := h
  have c4 := h.field 4
  simp only [devV, List.getElem?_toArray, List.getElem?_cons_zero, List.getElem?_cons_succ] at c4
  have f4 := h.cells.frozen 4
  have hc := h.cells.set 4 (.bool false)
  have H := Lib.hid (h.fields ((But.refl g w).setCell 4 (.bool false)) (off' := false) (acts' := s.acts) (fuse' := s.fuse) (keep' := kp) hc)
  clear h _hf hc
  go_enter Try.func12, Try.ntmps12
  go_wp2_with fail
  refine bodyPost_end (results_none rfl _ _ _) rfl ?_
  exact ⟨rfl, _, ⟨g, vN, vS, vP, kp, rfl, rfl, H.out, hkp⟩, ⟨(Only.refl _ w).setCell 4 _ (.inl (.inl rfl)), fun b hb => .inl hb⟩⟩
theorem dev_arm (g : Nat) (vN vS vP : Value) (N S : List (List UInt8)) (P : List (Nat × List UInt8)) (off : Bool) (acts fuse keep : Nat) (n : Int) (k : Nat) (w : World) (h : DevAt g vN vS vP N S P off acts fuse keep w) (n1 : n ≤ 9223372036854775807) :
    Calls Try.prog 9 #[.pointer (some ⟨g, 0, none⟩), .int .i64 n, .int .u64 k] w fun e w' => e = .returned (.tuple #[]) ∧ DevAt g vN vS vP N S P off acts n.toNat k w' ∧ Only (devO g vN vS vP) w w' := by
  have c5 := h.field 5
  have c6 := h.field 6
  simp only [devV, List.getElem?_toArray, List.getElem?_cons_zero, List.getElem?_cons_succ] at c5 c6
  have f5 := h.cells.frozen 5
  have f6 := h.cells.frozen 6
  obtain ⟨m, hmm⟩ : ∃ m, n.toNat = m := ⟨_, rfl⟩
  have hc := (h.cells.set 5 (.int .i64 (m : Int))).set 6 (.int .u64 (k : Int))
  have H := Lib.hid (h.fields (((But.refl g w).setCell 5 (.int .i64 (m : Int))).setCell 6 (.int .u64 (k : Int))) (off' := off) (acts' := acts) (fuse' := m) (keep' := k) hc)
  rw [hmm]
  clear h hc
  by_cases hn : n < 0
  · obtain rfl : m = 0 := by omega
    clear hmm
    go_enter Try.func9, Try.ntmps9
    go_wp2_with fail
    refine bodyPost_end (results_none rfl _ _ _) rfl ?_
    exact ⟨rfl, H.out, ((Only.refl _ w).setCell 5 _ (.inl (.inl rfl))).setCell 6 _ (.inl (.inl rfl))⟩
  · obtain rfl : n = m := by omega
    have hn0 : (0 : Int) ≤ (m : Int) := by omega
    clear hmm hn
    go_enter Try.func9, Try.ntmps9
    go_wp2_with fail
    refine bodyPost_end (results_none rfl _ _ _) rfl ?_
    exact ⟨rfl, H.out, ((Only.refl _ w).setCell 5 _ (.inl (.inl rfl))).setCell 6 _ (.inl (.inl rfl))⟩
theorem dev7_arm (O : Nat → Prop) (v : Value) (s : DS) (n : Int) (keep : Nat) (w : World) (h : DiskIs O v s w) (_hf : Fit s 999999) (n1 : n ≤ 9223372036854775807) (_hk : keep < 18446744073709551616) :
    Calls Try.prog 9 #[v, .int .i64 n, .int .u64 keep] w fun e w' => e = .returned (.tuple #[]) ∧ ∃ O', DiskIs O' v (armS s n keep) w' ∧ Turn O O' w w' := by
  obtain ⟨g, vN, vS, vP, kp, rfl, rfl, h, hkp⟩ := h
  refine (dev_arm g vN vS vP _ _ _ _ _ _ _ n keep w h n1).mono fun e w' he => ?_
  exact ⟨he.1, _, ⟨g, vN, vS, vP, keep, rfl, rfl, he.2.1, fun _ => rfl⟩, ⟨he.2.2, fun b hb => .inl hb⟩⟩
theorem dev_has (g : Nat) (vN vS vP : Value) (N S : List (List UInt8)) (P : List (Nat × List UInt8)) (off : Bool) (acts fuse keep : Nat) (at' : Int) (w : World) (h : DevAt g vN vS vP N S P off acts fuse keep w) (hN : ∀ x ∈ N, x.length = 128) (hn : N.length ≤ 16384) (b : Bool) (hb : decide (0 ≤ at' ∧ at' < (N.length : Int)) = b) :
    Calls Try.prog 28 #[.pointer (some ⟨g, 0, none⟩), .int .i64 at'] w fun e w' => e = .returned (.bool b) ∧ w' = w := by
  have HS := Lib.hid (dev_size g vN vS vP N S P off acts fuse keep w h hN hn)
  obtain ⟨n, hnn⟩ : ∃ n, N.length = n := ⟨_, rfl⟩
  rw [hnn] at hb HS
  clear h hnn hN hn
  by_cases h0 : 0 ≤ at'
  · by_cases h1 : at' < (n : Int)
    · obtain rfl : b = true := by rw [← hb]; simp; omega
      clear hb
      go_enter Try.func28, Try.ntmps28
      go_wp2_with fail
      refine HS.out.mono ?_
      rintro e w1 ⟨rfl, rfl⟩
      go_wp2_with fail
      go_ret
      exact ⟨rfl, rfl⟩
    · obtain rfl : b = false := by rw [← hb]; simp; omega
      have hd : decide (at' < (n : Int)) = false := by simp; omega
      clear hb
      go_enter Try.func28, Try.ntmps28
      go_wp2_with fail
      refine HS.out.mono ?_
      rintro e w1 ⟨rfl, rfl⟩
      go_wp2_with fail
      go_ret
      exact ⟨rfl, rfl⟩
  · obtain rfl : b = false := by rw [← hb]; simp; omega
    clear hb
    go_enter Try.func28, Try.ntmps28
    go_wp2_with fail
    go_ret
    exact ⟨rfl, rfl⟩
theorem dev_sector (g n c at' : Nat) (w : World) (h : at' * 128 + 128 ≤ n) (hc : n ≤ c) (hlim : n ≤ 10000000) :
    Calls Try.prog 29 #[.slice (some ⟨g, 0, none⟩) n c, .int .i64 at'] w fun e w' => e = .returned (.slice (some ⟨g, 128 * at', none⟩) 128 (c - 128 * at')) ∧ w' = w := by
  have h1 : (at' : Int) * 128 + 128 ≤ n := by omega
  have h2 : (n : Int) ≤ c := by omega
  have h3 : ((at' : Int) + 1) * 128 ≤ c := by omega
  go_enter Try.func29, Try.ntmps29
  go_wp2_with fail
  go_ret
  refine ⟨?_, rfl⟩
  show Ending.returned (Value.slice (some ⟨g, at' * 128, none⟩) ((at' + 1) * 128 - at' * 128) (c - at' * 128)) = _
  rw [show (at' + 1) * 128 - at' * 128 = 128 by omega, Nat.mul_comm at' 128]

end Go.Proofs.Ythnagnjcbgcnfaa
