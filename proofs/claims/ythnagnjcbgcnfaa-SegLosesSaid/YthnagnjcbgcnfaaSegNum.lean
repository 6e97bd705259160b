/-
  The developers' slots: a number's bytes read, the room of a disk, what a slot says, the current one.
-/
import Derived.Test.YthnagnjcbgcnfaaSegM
import Derived.Test.YthnagnjcbgcnfaaDevWr
namespace Go.Proofs.Ythnagnjcbgcnfaa
open Go.RowKit Go.BigFrame

theorem wrap_u64_nat {n : Nat} (h : n < 18446744073709551616) : IntKind.u64.wrap (n : Int) = (n : Int) := by
  have e : (2 : Int) ^ IntKind.u64.bits = 18446744073709551616 := by decide
  have e2 : IntKind.u64.wrap (n : Int) = (n : Int) % 2 ^ IntKind.u64.bits := by simp [IntKind.wrap, IntKind.signed]
  rw [e2, e]
  omega
theorem u64_or_join (a d : Nat) (ha : a % 256 = 0) (hd : d < 256) (h : a + d < 18446744073709551616) : bits .or .u64 (a : Int) (d : Int) = ((a + d : Nat) : Int) := by
  have e : a ||| d = a + d := nat_join 8 a d ha hd
  have ea : (BitVec.ofInt 64 (a : Int)).toNat = a := ofInt_u64 a (by omega)
  have ed : (BitVec.ofInt 64 (d : Int)).toNat = d := ofInt_u64 d (by omega)
  show IntKind.u64.wrap ((BitVec.ofInt 64 (a : Int) ||| BitVec.ofInt 64 (d : Int)).toNat : Int) = _
  rw [BitVec.toNat_or, ea, ed, e]
  exact wrap_u64_nat h
theorem val_lt (l : List UInt8) : val l < 256 ^ l.length := by
  induction hl : l.length generalizing l with
  | zero => rw [List.length_eq_zero_iff.1 hl, val_nil]; decide
  | succ n ih =>
    obtain ⟨t, d, rfl⟩ : ∃ t d, l = t ++ [d] := by
      rcases List.eq_nil_or_concat l with h | ⟨t, d, h⟩
      · rw [h] at hl; cases hl
      · exact ⟨t, d, by rw [h, List.concat_eq_append]⟩
    have h1 := ih t (by simpa using hl)
    have h2 := d.toNat_lt
    rw [val_snoc, Nat.pow_succ]
    omega
theorem val_step {l : List UInt8} {q : Nat} (hq : q < l.length) (h8 : l.length ≤ 8) :
    bits .or .u64 (IntKind.u64.wrap (((val (l.take q) : Nat) : Int) * 256)) (IntKind.u64.wrap ((l[q].toNat : Nat) : Int)) = ((val (l.take (q + 1)) : Nat) : Int) := by
  have h1 := val_lt (l.take q)
  have h2 : (l.take q).length ≤ 7 := by rw [List.length_take]; omega
  have h3 : 256 ^ (l.take q).length ≤ 256 ^ 7 := Nat.pow_le_pow_right (by decide) h2
  have hd := l[q].toNat_lt
  have e7 : (256 : Nat) ^ 7 = 72057594037927936 := by decide
  rw [List.take_succ_eq_append_getElem hq, val_snoc]
  rw [show ((val (l.take q) : Nat) : Int) * 256 = ((val (l.take q) * 256 : Nat) : Int) by omega, wrap_u64_nat (by omega), wrap_u64_nat (by omega)]
  exact u64_or_join _ _ (by omega) (by omega) (by omega)

set_option maxHeartbeats 1000000 in
theorem dev8_number (ao : Option Addr) (c : Nat) (l : List UInt8) (w : World) (h : NumsAt ao .u8 (byteNs l) w) (hl : l.length ≤ 8) :
    Calls Try.prog 42 #[.slice ao l.length c] w fun e w' => e = .returned (.int .u64 (val l : Nat)) ∧ w' = w := by
  have H := Lib.hid h
  clear h
  go_enter Try.func42, Try.ntmps42
  go_wp2_with fail
  go_loop [3, 8] (fun n i => ∃ q : Nat, q ≤ l.length ∧ i = .int .i64 q ∧ n = .int .u64 (val (l.take q) : Nat)) (fun _ i => l.length - (intOf i).toNat)
  case atStart => exact ⟨0, Nat.zero_le _, rfl, rfl⟩
  case round =>
    obtain ⟨q, hq, rfl, rfl⟩ := hrel
    by_cases hlt : q < l.length
    · obtain ⟨b, o, rfl, hc⟩ := H.out.cell (q := q) (by rw [byteNs_len]; exact hlt)
      have hd : (byteNs l)[q]'(by rw [byteNs_len]; exact hlt) = l[q].toNat := by simp [byteNs]
      rw [hd] at hc
      go_wp2_with fail
      exact ⟨⟨q + 1, by omega, by go_num, by rw [val_step hlt hl]⟩, by simp [intOf]; omega⟩
    · obtain rfl : q = l.length := by omega
      rw [List.take_length]
      go_wp2_with fail
      go_ret
      exact ⟨rfl, rfl⟩

theorem dev8_space (O : Nat → Prop) (v : Value) (s : DS) (w : World) (h : DiskIs O v s w) (hf : Fit s 999999) (h2 : 2 ≤ s.safe.length) :
    Calls Try.prog 37 #[v] w fun e w' => e = .returned (.int .i64 (128 * (s.safe.length - 2) : Nat)) ∧ Below w.heap.size w w' := by
  have HS := Lib.hid (dev7_size O v s w h hf)
  have hs := hf.safe
  obtain ⟨n, hn⟩ : ∃ n, s.safe.length = n := ⟨_, rfl⟩
  rw [hn] at HS hs h2 ⊢
  clear h hf hn
  go_enter Try.func37, Try.ntmps37
  go_wp2_with fail
  refine HS.out.mono ?_
  rintro e w1 ⟨rfl, hb⟩
  have HB := Lib.hid hb
  clear hb HS
  go_wp2_with fail
  go_ret
  have e : ((n : Int) - 2) * 128 = ((128 * (n - 2) : Nat) : Int) := by omega
  refine ⟨?_, HB.out⟩
  rw [← e]
  rfl

/-! ### A slot -/
def slotV (e n : Nat) : Array Value := #[.int .i64 (e : Int), .int .i64 (n : Int)]
theorem results_cells_tmp {P : Program} {fn : Func} {p u : Tmp} {ty : TypeId} (h : fn.results = #[.cell p ty, .tmp u]) (tmps : Array Value) (w : World) (g : Nat) (cs : Array Value) (t : TypeId) (d : TypeDesc) (v : Value)
    (hp : tmps.getD p undef = .pointer (some ⟨g, 0, none⟩)) (hv : tmps.getD u undef = v) (hg : Cells g t cs w)
    (hu : P.underlying ty = some d) (hd : (match d with | .struct _ | .array _ _ => true | _ => false) = true) (hi : (P.info? ty).map (·.size) = some cs.size) :
    (results fn tmps).run P w = .ok (.tuple #[.agg cs, v]) w := by
  rw [results_cell_tmp h, hp, hv]
  simp [asAddr, Result.andThen, run_loadVar_row w g t ty _ (0, 0) d hg hu hd hi]
theorem Live.why {s : DS} (ho : s.off = false) {i : Nat} (hi : i < s.safe.length) : whyS s (i : Int) = 0 := by rw [whyS, if_neg (by omega), if_neg (by rw [ho]; decide)]
theorem readB_now {s : DS} (ho : s.off = false) {i : Nat} (hi : i < s.safe.length) : readB s (i : Int) = (nowS s).getD i [] := by
  rw [readB, if_pos (Live.why ho hi), Int.toNat_natCast, nowS_getD hi]
theorem NewB.part {B g o : Nat} {x : List UInt8} {w : World} (h : NewB B (some ⟨g, o, none⟩) x w) (a n : Nat) : NumsAt (some ⟨g, o + a, none⟩) .u8 (byteNs ((x.drop a).take n)) w := by
  rcases h with rfl | ⟨g', o', h1, _, h2, h3⟩
  · exact .inl (by simp [byteNs])
  · obtain ⟨rfl, rfl⟩ : g = g' ∧ o = o' := by
      have := Option.some.inj h1
      injection this with h1 h2
      exact ⟨h1, h2⟩
    refine .inr ⟨g, o + a, rfl, h2, fun j hj => ?_⟩
    rw [byteNs_len, List.length_take, List.length_drop] at hj
    rw [Nat.add_assoc, (h3 (a + j) (by omega)).1]
    simp [byteNs]

theorem NewB.form {B : Nat} {ao : Option Addr} {x : List UInt8} {w : World} (h : NewB B ao x w) (hx : x.length = 128) : ∃ g o, ao = some ⟨g, o, none⟩ := by
  rcases h with rfl | ⟨g, o, h, _⟩
  · cases hx
  · exact ⟨g, o, h⟩

set_option maxHeartbeats 1000000 in
theorem dev8_slotAt (O : Nat → Prop) (v : Value) (s : DS) (i : Nat) (x : List UInt8) (w : World) (h : DiskIs O v s w) (hf : Fit s 999999) (ho : s.off = false) (h2 : 2 ≤ s.safe.length) (hi : i < s.safe.length) (hx : (nowS s).getD i [] = x) (he : epochOf x ≤ 4611686018427387904) (hn : lenOf x ≤ 128 * (s.safe.length - 2)) :
    Calls Try.prog 30 #[v, .int .i64 (i : Int)] w fun e w' => e = .returned (.tuple #[.agg (slotV (epochOf x) (lenOf x)), .int .i64 0]) ∧ Below w.heap.size w w' := by
  have HR := Lib.hid (fun (w' : World) (k : Below w.heap.size w w') => dev7_read_cap O v s (i : Int) w' (h.only (Only.of (O := fun _ => False) k) (fun _ _ => id)) hf)
  rw [Live.why ho hi, readB_now ho hi, hx] at HR
  have HS := Lib.hid (fun (w' : World) (k : Below w.heap.size w w') => dev8_space O v s w' (h.only (Only.of (O := fun _ => False) k) (fun _ _ => id)) hf h2)
  have hxl : x.length = 128 := by
    have hll : i < (nowS s).length := by rw [nowS_len]; exact hi
    rw [← hx, List.getD_eq_getElem?_getD, List.getElem?_eq_getElem hll]
    exact hf.ok.now _ (List.getElem_mem _)
  rw [hxl] at HR
  have HXL := Shut.mk hxl
  obtain ⟨m, hm⟩ : ∃ m, 128 * (s.safe.length - 2) = m := ⟨_, rfl⟩
  have hms : m ≤ 3000000 := by have := hf.safe; omega
  rw [hm] at HS hn
  obtain ⟨ep, hep⟩ : ∃ ep, epochOf x = ep := ⟨_, rfl⟩
  obtain ⟨ln, hln⟩ : ∃ ln, lenOf x = ln := ⟨_, rfl⟩
  rw [hep] at he ⊢
  rw [hln] at hn ⊢
  have HI := Lib.hid (show (Try.prog.info? 49).map (·.size) = some (slotV ep ln).size by kernel_rfl)
  have HEP := Shut.mk hep
  have HLN := Shut.mk hln
  clear h hf ho h2 hi hx hm hxl hep hln
  go_enter Try.func30, Try.ntmps30
  go_wp2_with fail
  have ha : Below w.heap.size w (w.alloc (.cells #[.int .i64 0, .int .i64 0] 49)) := (Below.refl _ _).alloc (Nat.le_refl _) _
  have hz : Cells w.heap.size 49 #[.int .i64 0, .int .i64 0] (w.alloc (.cells #[.int .i64 0, .int .i64 0] 49)) := heap_alloc_new w _
  refine (HR.out _ ha).mono ?_
  rintro e w1 ⟨⟨ao, c, rfl, hnb, hc⟩, hb1⟩
  obtain ⟨g, o, rfl⟩ := hnb.form HXL.out
  have HB1 := Lib.hid (ha.trans (hb1.mono (by simp)))
  have HZ1 := Lib.hid (hz.below hb1)
  have hn1 := hnb.part 0 8
  have hn2 := hnb.part 8 8
  have h8 : ((x.drop 0).take 8).length = 8 := by rw [List.length_take, List.length_drop, HXL.out]; decide
  have h82 : ((x.drop 8).take 8).length = 8 := by rw [List.length_take, List.length_drop, HXL.out]; decide
  have HN1 := Lib.hid (fun (w' : World) (k : Below w1.heap.size w1 w') => dev8_number (some ⟨g, o, none⟩) c ((x.drop 0).take 8) w' (hn1.below k) (by omega))
  have HN2 := Lib.hid (fun (w' : World) (k : Below w1.heap.size w1 w') => dev8_number (some ⟨g, o + 8, none⟩) (c - 8) ((x.drop 8).take 8) w' (hn2.below k) (by omega))
  rw [h8] at HN1
  rw [h82] at HN2
  rw [show val ((x.drop 0).take 8) = epochOf x by rw [epochOf, List.drop_zero]] at HN1
  rw [show val ((x.drop 8).take 8) = lenOf x from rfl] at HN2
  have hc16 : (16 : Int) ≤ (c : Int) := by omega
  have hc8 : (8 : Int) ≤ (c : Int) := by omega
  rw [HEP.out] at HN1
  rw [HLN.out] at HN2
  clear ha hz hb1 hnb hn1 hn2 h8 h82 HR HXL
  go_upto_region 4 with (fail)
  refine wp_region_class (fun w' => Below w1.heap.size w1 w') (by kernel_rfl) (by kernel_rfl) (Below.refl _ _).drew ?_
  repeat go_big_quiet_step ((intro hs'; rfl))
  go_big_quiet_step ((intro hs'; go_at_call 42; exact (HN1.out _ hs').mono fun e w' h => ⟨h.1, by rw [h.2]; exact hs'⟩))
  repeat go_big_quiet_step ((intro hs'; rfl))
  go_big_quiet_step ((intro hs'; go_at_call 42; exact (HN2.out _ hs').mono fun e w' h => ⟨h.1, by rw [h.2]; exact hs'⟩))
  repeat go_big_quiet_step ((intro hs'; rfl))
  refine wpQuiet_nil ?_
  intro w2 hb2
  have HB2 := Lib.hid (HB1.out.trans (hb2.mono HB1.out.size))
  have HZ2 := Lib.hid (HZ1.out.below hb2)
  have hei : decide ((4611686018427387904 : Int) < (ep : Int)) = false := decide_eq_false (by omega)
  have hni : (ln : Int) ≤ (m : Int) := by omega
  clear hb2 HN1 HN2 HB1 HZ1
  go_wp2_with fail
  refine (HS.out w2 HB2.out).mono ?_
  rintro e w3 ⟨rfl, hb3⟩
  have HB3 := Lib.hid (HB2.out.trans (hb3.mono HB2.out.size))
  have HZ3 := Lib.hid (HZ2.out.below hb3)
  clear hb3 HS HB2 HZ2
  have c30 := HZ3.out.at 0
  have c31 := HZ3.out.at 1
  simp only [List.getElem?_toArray, List.getElem?_cons_zero, List.getElem?_cons_succ] at c30 c31
  have f30 := HZ3.out.frozen 0
  have f31 := HZ3.out.frozen 1
  go_wp2_with fail
  refine bodyPost_ret (results_cells_tmp rfl _ _ w.heap.size (slotV ep ln) 49 _ _ rfl rfl ((HZ3.out.set 0 (.int .i64 (ep : Int))).set 1 (.int .i64 (ln : Int))) Try.underlying49 rfl HI.out) rfl ?_
  exact ⟨rfl, (HB3.out.setCell (p := ⟨w.heap.size, 0, none⟩) (Nat.le_refl _) _).setCell (p := ⟨w.heap.size, 1, none⟩) (Nat.le_refl _) _⟩

set_option maxHeartbeats 1000000 in
theorem current_any (O : Nat → Prop) (v : Value) (s : DS) (e0 n0 e1 n1 e n : Nat) (w : World) (h : DiskIs O v s w)
    (H0 : ∀ w', DiskIs O v s w' → Calls Try.prog 30 #[v, .int .i64 0] w' fun e w'' => e = .returned (.tuple #[.agg (slotV e0 n0), .int .i64 0]) ∧ Below w'.heap.size w' w'')
    (H1 : ∀ w', DiskIs O v s w' → Calls Try.prog 30 #[v, .int .i64 1] w' fun e w'' => e = .returned (.tuple #[.agg (slotV e1 n1), .int .i64 0]) ∧ Below w'.heap.size w' w'')
    (hc : (e0 < e1 ∧ e = e1 ∧ n = n1) ∨ (e1 ≤ e0 ∧ e = e0 ∧ n = n0)) :
    Calls Try.prog 18 #[v] w fun x w' => x = .returned (.tuple #[.agg (slotV e n), .int .i64 0]) ∧ Below w.heap.size w w' := by
  have H := Lib.hid h
  have HC := Lib.hid hc
  have HS0 := Lib.hid H0
  have HS1 := Lib.hid H1
  have HI := Lib.hid (show (Try.prog.info? 49).map (·.size) = some (slotV e n).size by kernel_rfl)
  clear h hc H0 H1
  go_enter Try.func18, Try.ntmps18
  go_wp2_with fail
  have ha : Below w.heap.size w (w.alloc (.cells #[.int .i64 0, .int .i64 0] 49)) := (Below.refl _ _).alloc (Nat.le_refl _) _
  have hz : Cells w.heap.size 49 #[.int .i64 0, .int .i64 0] (w.alloc (.cells #[.int .i64 0, .int .i64 0] 49)) := heap_alloc_new w _
  have hbl : ∀ w1, Below w.heap.size w w1 → DiskIs O v s w1 := fun w1 k => H.out.only (Only.of (O := fun _ => False) k) (fun _ _ => id)
  refine (HS0.out _ (hbl _ ha)).mono ?_
  rintro x w1 ⟨rfl, hb1⟩
  have HB1 := Lib.hid (ha.trans (hb1.mono (by simp)))
  have HZ1 := Lib.hid (hz.below hb1)
  have HBL := Lib.hid hbl
  unfold slotV
  clear ha hz hb1 HS0 hbl
  go_wp2_with fail
  have ha : Below w1.heap.size w1 (w1.alloc (.cells (slotV e0 n0) 49)) := (Below.refl _ _).alloc (Nat.le_refl _) _
  have HB1a := Lib.hid (HB1.out.trans (ha.mono HB1.out.size))
  have HZ1a := Lib.hid (HZ1.out.below ha)
  have hy : Cells w1.heap.size 49 (slotV e0 n0) (w1.alloc (.cells (slotV e0 n0) 49)) := heap_alloc_new w1 _
  refine (HS1.out _ (HBL.out _ HB1a.out)).mono ?_
  rintro x w2 ⟨rfl, hb2⟩
  have HB2 := Lib.hid (HB1a.out.trans (hb2.mono HB1a.out.size))
  have HZ2 := Lib.hid (HZ1a.out.below hb2)
  have hy2 := hy.below hb2
  have hyl := hy2.lt
  have y20 := hy2.at 0
  have y21 := hy2.at 1
  have z20 := HZ2.out.at 0
  have z21 := HZ2.out.at 1
  simp only [slotV, List.getElem?_toArray, List.getElem?_cons_zero, List.getElem?_cons_succ] at y20 y21 z20 z21
  have f20 := HZ2.out.frozen 0
  have f21 := HZ2.out.frozen 1
  have hzl := HZ2.out.lt
  clear ha hb2 HS1 HB1 HZ1 HB1a HZ1a hy hy2 HBL
  unfold slotV
  rcases HC.out with ⟨hlt, rfl, rfl⟩ | ⟨hge, rfl, rfl⟩
  · have hlt2 : (e0 : Int) < (e : Int) := by omega
    go_wp2_with fail
    have hw3 := (HZ2.out.set 0 (.int .i64 (e : Int))).set 1 (.int .i64 (n : Int))
    have hb3 := (HB2.out.setCell (p := ⟨w.heap.size, 0, none⟩) (Nat.le_refl _) (.int .i64 (e : Int))).setCell (p := ⟨w.heap.size, 1, none⟩) (Nat.le_refl _) (.int .i64 (n : Int))
    refine bodyPost_ret (results_cells_tmp rfl _ _ w.heap.size (slotV e n) 49 _ _ rfl rfl (hw3.below ((Below.refl _ _).alloc (Nat.le_refl _) _)) Try.underlying49 rfl HI.out) rfl ?_
    exact ⟨rfl, hb3.alloc hb3.size _⟩
  · have hge2 : (e1 : Int) ≤ (e : Int) := by omega
    go_wp2_with fail
    have hw3 := (HZ2.out.set 0 (.int .i64 (e : Int))).set 1 (.int .i64 (n : Int))
    have hb3 := (HB2.out.setCell (p := ⟨w.heap.size, 0, none⟩) (Nat.le_refl _) (.int .i64 (e : Int))).setCell (p := ⟨w.heap.size, 1, none⟩) (Nat.le_refl _) (.int .i64 (n : Int))
    refine bodyPost_ret (results_cells_tmp rfl _ _ w.heap.size (slotV e n) 49 _ _ rfl rfl (hw3.below ((Below.refl _ _).alloc (Nat.le_refl _) _)) Try.underlying49 rfl HI.out) rfl ?_
    exact ⟨rfl, hb3.alloc hb3.size _⟩

/-- The current slot of a disk that opens. -/
theorem dev8_current (O : Nat → Prop) (v : Value) (s : DS) (e : Nat) (S : List UInt8) (w : World) (h : DiskIs O v s w) (hf : Fit s 999999) (ho : s.off = false) (hop : Opens (nowS s) e S) :
    Calls Try.prog 18 #[v] w fun x w' => x = .returned (.tuple #[.agg (slotV e S.length), .int .i64 0]) ∧ Below w.heap.size w w' := by
  have hl : (nowS s).length = s.safe.length := nowS_len s
  have h2 : 2 ≤ s.safe.length := by rw [← hl]; exact hop.two
  have hfits := hop.fits
  have htop := hop.top
  have hoth := hop.oth
  have hothn := hop.othn
  rw [hl] at hfits hothn
  have hs : ∀ i, i < 2 → epochOf ((nowS s).getD i []) ≤ 4611686018427387904 → lenOf ((nowS s).getD i []) ≤ 128 * (s.safe.length - 2) → ∀ w', DiskIs O v s w' → Calls Try.prog 30 #[v, .int .i64 (i : Int)] w' fun e w'' => e = .returned (.tuple #[.agg (slotV (epochOf ((nowS s).getD i [])) (lenOf ((nowS s).getD i []))), .int .i64 0]) ∧ Below w'.heap.size w' w'' :=
    fun i hi he hn w' h' => dev8_slotAt O v s i _ w' h' hf ho h2 (by omega) rfl he hn
  have hcur := hop.cur
  have hlen := hop.len
  rcases Nat.mod_two_eq_zero_or_one e with hm | hm
  · rw [hm] at hcur hlen hoth
    rw [show (e + 1) % 2 = 1 by omega] at hoth hothn
    refine current_any O v s _ _ _ _ e S.length w h (hs 0 (by decide) (by omega) (by omega)) (hs 1 (by decide) (by omega) hothn) (.inr ⟨by omega, hcur.symm, hlen.symm⟩)
  · rw [hm] at hcur hlen hoth
    rw [show (e + 1) % 2 = 0 by omega] at hoth hothn
    refine current_any O v s _ _ _ _ e S.length w h (hs 0 (by decide) (by omega) hothn) (hs 1 (by decide) (by omega) (by omega)) (.inl ⟨by omega, hcur.symm, hlen.symm⟩)
end Go.Proofs.Ythnagnjcbgcnfaa
