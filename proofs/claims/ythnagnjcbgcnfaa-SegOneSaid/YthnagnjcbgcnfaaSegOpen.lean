/-
  The developers' seg: what lies where; Open, Len, Room.
-/
import Derived.Test.YthnagnjcbgcnfaaSegRec
namespace Go.Proofs.Ythnagnjcbgcnfaa
open Go.RowKit Go.BigFrame

def segV (vd : Value) (e n f : Nat) : Array Value := #[vd, .int .i64 (e : Int), .int .i64 (n : Int), .int .i64 (f : Int)]
/-- A seg lies there, in blocks O: over the disk vd, its epoch e, its valid bytes S; no error was met. -/
def SegIs (O : Nat → Prop) (vs vd : Value) (e : Nat) (S : List UInt8) (w : World) : Prop := ∃ b, vs = .pointer (some ⟨b, 0, none⟩) ∧ O = (fun x => x = b) ∧ Cells b 57 (segV vd e S.length 0) w
theorem SegIs.ptr {O : Nat → Prop} {vs vd : Value} {e : Nat} {S : List UInt8} {w : World} (h : SegIs O vs vd e S w) : ∃ a, vs = .pointer (some a) := by
  obtain ⟨b, rfl, _⟩ := h
  exact ⟨_, rfl⟩
theorem SegIs.lt {O : Nat → Prop} {vs vd : Value} {e : Nat} {S : List UInt8} {w : World} (h : SegIs O vs vd e S w) : ∀ b, O b → b < w.heap.size := by
  obtain ⟨b, _, rfl, h⟩ := h
  rintro x rfl
  exact h.lt
theorem SegIs.only {O P : Nat → Prop} {vs vd : Value} {e : Nat} {S : List UInt8} {w w' : World} (h : SegIs O vs vd e S w) (k : Only P w w') (hO : ∀ b, O b → ¬ P b) : SegIs O vs vd e S w' := by
  obtain ⟨b, h1, rfl, h⟩ := h
  exact ⟨b, h1, rfl, h.only k (hO b rfl)⟩

set_option maxHeartbeats 1000000 in
set_option maxRecDepth 100000 in
theorem dev8_open (O : Nat → Prop) (vd : Value) (s : DS) (e : Nat) (R : List (List UInt8)) (w : World) (h : DiskIs O vd s w) (hf : Fit s 900000) (ho : s.off = false) (hop : Opens (nowS s) e (textsB R)) (hR : ∀ r ∈ R, r.length ≤ 250000) :
    Calls Try.prog 8 #[vd] w fun x w' => (∃ vs P ao c, x = .returned (.tuple #[vs, .slice ao R.length c, .int .i64 0]) ∧ SegIs P vs vd e (textsB R) w' ∧ (∀ b, P b → w.heap.size ≤ b) ∧ StrsAt ao R w' ∧ (R ≠ [] → ∀ a, ao = some a → w.heap.size ≤ a.block ∧ ¬ P a.block)) ∧ Below w.heap.size w w' := by
  obtain ⟨ad, rfl⟩ := h.ptr
  have hl : (nowS s).length = s.safe.length := nowS_len s
  have hfits := hop.fits
  have htake := hop.data.take
  have htwo := hop.two
  rw [hl] at hfits htwo
  have hs16 := hf.safe
  have hbl : ∀ w', Below w.heap.size w w' → DiskIs O (.pointer (some ad)) s w' := fun w' k => h.only (Only.of (O := fun _ => False) k) (fun _ _ => id)
  have hf9 := hf.mono (show 900000 ≤ 999999 by decide)
  have HSI := Lib.hid (fun w' k => dev7_size O (.pointer (some ad)) s w' (hbl w' k) hf9)
  have HDO := Lib.hid (fun w' k => dev7_down O (.pointer (some ad)) s w' (hbl w' k) hf9)
  rw [ho] at HDO
  have HCU := Lib.hid (fun w' k => dev8_current O (.pointer (some ad)) s e (textsB R) w' (hbl w' k) hf9 ho hop)
  have HRD := Lib.hid (fun w' k => dev8_read O (.pointer (some ad)) s (textsB R).length w' (hbl w' k) hf9 ho hfits)
  rw [htake] at HRD
  have HRC := Lib.hid (fun w' => dev8_records R w' hR (by omega))
  obtain ⟨n, hn⟩ : ∃ n, s.safe.length = n := ⟨_, rfl⟩
  rw [hn] at HSI htwo
  have htwo2 : decide ((n : Int) < 2) = false := decide_eq_false (by omega)
  obtain ⟨m, hm⟩ : ∃ m, (textsB R).length = m := ⟨_, rfl⟩
  rw [hm] at HCU HRD
  have HM := Shut.mk hm
  have H0 := Lib.hid (show Below w.heap.size w w from Below.refl _ _)
  clear h hf ho hop hR hl hfits htake hs16 hbl hf9 hn hm
  go_enter Try.func8, Try.ntmps8
  go_wp2_with fail
  refine (HSI.out w H0.out).mono ?_
  rintro x w1 ⟨rfl, hb1⟩
  have HB1 := Lib.hid hb1
  clear hb1 HSI
  go_wp2_with fail
  refine (HDO.out w1 HB1.out).mono ?_
  rintro x w2 ⟨rfl, hb2⟩
  have HB2 := Lib.hid (HB1.out.trans (hb2.mono HB1.out.size))
  clear hb2 HB1 HDO
  go_wp2_with fail
  refine (HCU.out w2 HB2.out).mono ?_
  rintro x w3 ⟨rfl, hb3⟩
  have HB3 := Lib.hid (HB2.out.trans (hb3.mono HB2.out.size))
  clear hb3 HB2 HCU
  unfold slotV
  go_wp2_with fail
  have ha : Below w3.heap.size w3 (w3.alloc (.cells (slotV e m) 49)) := (Below.refl _ _).alloc (Nat.le_refl _) _
  have hz : Cells w3.heap.size 49 (slotV e m) (w3.alloc (.cells (slotV e m) 49)) := heap_alloc_new w3 _
  have hb3a := HB3.out.trans (ha.mono HB3.out.size)
  refine (HRD.out _ hb3a).mono ?_
  rintro x w4 ⟨rfl, hb4⟩
  have HB4 := Lib.hid (hb3a.trans (hb4.mono hb3a.size))
  have HZ4 := Lib.hid (hz.below hb4)
  clear ha hz hb3a hb4 HB3 HRD
  go_wp2_with fail
  refine (HRC.out w4).mono ?_
  rintro x w5 ⟨v, rfl, hown, hb5⟩
  have HB5 := Lib.hid (HB4.out.trans (hb5.mono HB4.out.size))
  have hz5 := HZ4.out.below hb5
  have z50 := hz5.at 0
  have z51 := hz5.at 1
  simp only [slotV, List.getElem?_toArray, List.getElem?_cons_zero, List.getElem?_cons_succ] at z50 z51
  obtain ⟨ao, c, rfl⟩ := hown.form
  have HO5 := Lib.hid (hown.mono HB4.out.size)
  have HA := Lib.hid (strsAt_own hown)
  clear hown hb5 hz5 HB4 HZ4 HRC
  go_wp2_with fail
  refine bodyPost_ret (results_tmp3 rfl _ _ _) rfl ?_
  have hal : Below w5.heap.size w5 (w5.alloc (.cells (segV (.pointer (some ad)) e m 0) 57)) := (Below.refl _ _).alloc (Nat.le_refl _) _
  have hce : Cells w5.heap.size 57 (segV (.pointer (some ad)) e m 0) (w5.alloc (.cells (segV (.pointer (some ad)) e m 0) 57)) := heap_alloc_new w5 _
  refine ⟨⟨.pointer (some ⟨w5.heap.size, 0, none⟩), (fun x => x = w5.heap.size), ao, c, rfl, ⟨w5.heap.size, rfl, rfl, by rw [HM.out]; exact hce⟩, ?_, HA.out.below hal, ?_⟩, HB5.out.trans (hal.mono HB5.out.size)⟩
  · rintro b rfl
    exact HB5.out.size
  · rintro _ a rfl
    have h1 := World.ownsRow.lt HO5.out a.block rfl
    exact ⟨h1.1, fun e => by have := h1.2; omega⟩

theorem dev8_len (P : Nat → Prop) (vs vd : Value) (e : Nat) (S : List UInt8) (w : World) (hs : SegIs P vs vd e S w) (_hS : S.length ≤ 3000000) :
    Calls Try.prog 14 #[vs] w fun x w' => x = .returned (.int .i64 (S.length : Nat)) ∧ Below w.heap.size w w' := by
  obtain ⟨b, rfl, _, h⟩ := hs
  have c2 := h.at 2
  simp only [segV, List.getElem?_toArray, List.getElem?_cons_zero, List.getElem?_cons_succ] at c2
  obtain ⟨n, hn⟩ : ∃ n, S.length = n := ⟨_, rfl⟩
  rw [hn] at c2 ⊢
  clear h hn
  go_enter Try.func14, Try.ntmps14
  go_wp2_with fail
  go_ret
  exact ⟨rfl, Below.refl _ _⟩

/-- How much room there is. -/
theorem dev8_room (O P : Nat → Prop) (vs vd : Value) (s : DS) (e : Nat) (S : List UInt8) (w : World) (h : DiskIs O vd s w) (hs : SegIs P vs vd e S w) (hf : Fit s 999999) (h2 : 2 ≤ s.safe.length) (hS : S.length ≤ 128 * (s.safe.length - 2)) :
    Calls Try.prog 24 #[vs] w fun x w' => x = .returned (.int .i64 (128 * (s.safe.length - 2) - S.length : Nat)) ∧ Below w.heap.size w w' := by
  obtain ⟨ad, rfl⟩ := h.ptr
  obtain ⟨b, rfl, _, hc⟩ := hs
  have HS := Lib.hid (fun (w' : World) (k : Below w.heap.size w w') => dev8_space O (.pointer (some ad)) s w' (h.only (Only.of (O := fun _ => False) k) (fun _ _ => id)) hf h2)
  have hsl := hf.safe
  obtain ⟨n, hn⟩ : ∃ n, S.length = n := ⟨_, rfl⟩
  obtain ⟨m, hm⟩ : ∃ m, 128 * (s.safe.length - 2) = m := ⟨_, rfl⟩
  rw [hn] at hc hS ⊢
  rw [hm] at HS hS ⊢
  have HC0 := Lib.hid (fun (w' : World) (k : Below w.heap.size w w') => show w'.cell? ⟨b, 0, none⟩ = some (.pointer (some ad)) by rw [(hc.below k).at 0]; rfl)
  have HC2 := Lib.hid (fun (w' : World) (k : Below w.heap.size w w') => show w'.cell? ⟨b, 2, none⟩ = some (.int .i64 (n : Int)) by rw [(hc.below k).at 2]; rfl)
  have HMN := Shut.mk (show ((m - n : Nat) : Int) = (m : Int) - (n : Int) by omega)
  have hm3 : m ≤ 3000000 := by omega
  clear h hc hf h2 hsl hn hm
  go_enter Try.func24, Try.ntmps24
  go_upto_region 3 with (fail)
  refine wp_region_class (fun w' => Below w.heap.size w w') (by kernel_rfl) (by kernel_rfl) (Below.refl _ _).drew ?_
  repeat (first
    | (go_big_quiet_want; refine quiet_load_cell 26 _ rfl ⟨b, 0, none⟩ _ rfl HC0.out Try.isAgg26 ?_; go_big_quiet_on; simp only [Act.put, List.setIfInBounds_toArray, List.set_cons_zero, List.set_cons_succ])
    | (go_big_quiet_want; refine quiet_load_cell 3 _ rfl ⟨b, 2, none⟩ _ rfl HC2.out Try.isAgg3 ?_; go_big_quiet_on; simp only [Act.put, List.setIfInBounds_toArray, List.set_cons_zero, List.set_cons_succ])
    | go_big_quiet_step ((intro hs'; first
        | rfl
        | (go_at_call 37; exact (HS.out _ hs').mono fun e w' h => ⟨h.1, hs'.trans (h.2.mono hs'.size)⟩))))
  refine wpQuiet_nil ?_
  intro w2 hb2
  go_wp2_with fail
  go_ret
  refine ⟨?_, hb2⟩
  rw [HMN.out]
  rfl
end Go.Proofs.Ythnagnjcbgcnfaa
