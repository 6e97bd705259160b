/-
  The developers' seg: which record is too long, how many bytes are needed, a slot's bytes, the tail of the valid bytes.
-/
import Derived.Test.YthnagnjcbgcnfaaSegOpen
namespace Go.Proofs.Ythnagnjcbgcnfaa
open Go.RowKit Go.BigFrame

set_option maxRecDepth 100000 in
theorem index_none (lo : Option Addr) (lc : Nat) (L : List (List UInt8)) (w : World) (h : StrsAt lo L w) (hL : ∀ t ∈ L, t.length ≤ 250000) (hl : L.length ≤ 3000000) :
    Calls Try.prog 35 #[.slice lo L.length lc, .func (.func 22) #[] #[]] w fun e w' => e = .returned (.int .i64 (-1)) ∧ w' = w := by
  have H := Lib.hid h
  have HT := Lib.hid (fun (t : List UInt8) (ht : t ∈ L) => dev8_tooLong t w false (decide_eq_false (by have := hL t ht; omega)) (by have := hL t ht; omega))
  clear h hL
  go_enter Try.func35, Try.ntmps35
  go_wp2_with fail
  go_loop [8] (fun i => ∃ q : Nat, q ≤ L.length ∧ i = .int .i64 q) (fun i => L.length - (intOf i).toNat)
  case atStart => exact ⟨0, Nat.zero_le _, rfl⟩
  case round =>
    obtain ⟨q, hq, rfl⟩ := hrel
    by_cases hlt : q < L.length
    · obtain ⟨b, o, rfl, hc⟩ := H.out.cell hlt
      have HC := Lib.hid (HT.out _ (List.getElem_mem hlt))
      obtain ⟨t, ht⟩ : ∃ t, L[q] = t := ⟨_, rfl⟩
      rw [ht] at hc HC
      clear ht
      go_wp2_with (refine wpList_call_fv rfl Try.func22 rfl rfl (.tmp 11) _ _ rfl #[] #[] rfl [.string ⟨t.toArray⟩] rfl HC.out ?_)
      exact ⟨⟨q + 1, by omega, by go_num⟩, by simp [intOf]; omega⟩
    · obtain rfl : q = L.length := by omega
      go_wp2_with fail
      go_ret
      exact ⟨rfl, rfl⟩

set_option maxRecDepth 100000 in
theorem index_long (lo : Option Addr) (lc : Nat) (t : List UInt8) (w : World) (h : StrsAt lo [t] w) (ht : 250000 < t.length) (hl : t.length ≤ 3000000) :
    Calls Try.prog 35 #[.slice lo 1 lc, .func (.func 22) #[] #[]] w fun e w' => e = .returned (.int .i64 0) ∧ w' = w := by
  have HT := Lib.hid (dev8_tooLong t w true (decide_eq_true ht) hl)
  obtain ⟨b, o, rfl, hc⟩ := h.cell (q := 0) (by simp)
  simp only [List.getElem_cons_zero, Nat.add_zero] at hc
  clear h
  go_enter Try.func35, Try.ntmps35
  go_wp2_with fail
  refine wp_loop_rounds 1 ?_
  rw [rounds_succ]
  go_wp2_with (refine wpList_call_fv rfl Try.func22 rfl rfl (.tmp 11) _ _ rfl #[] #[] rfl [.string ⟨t.toArray⟩] rfl HT.out ?_)
  go_ret
  exact ⟨rfl, rfl⟩
theorem dev8_contains (lo : Option Addr) (lc n : Nat) (k : Int) (b : Bool) (hb : decide (0 ≤ k) = b) (w : World)
    (h : Calls Try.prog 35 #[.slice lo n lc, .func (.func 22) #[] #[]] w fun e w' => e = .returned (.int .i64 k) ∧ w' = w) :
    Calls Try.prog 21 #[.slice lo n lc, .func (.func 22) #[] #[]] w fun e w' => e = .returned (.bool b) ∧ w' = w := by
  have H := Lib.hid h
  clear h
  go_enter Try.func21, Try.ntmps21
  go_wp2_with fail
  refine H.out.mono ?_
  rintro e w1 ⟨rfl, rfl⟩
  go_wp2_with fail
  go_ret
  exact ⟨rfl, rfl⟩

set_option maxHeartbeats 1000000 in
theorem dev8_needed (lo : Option Addr) (lc : Nat) (L : List (List UInt8)) (w : World) (h : StrsAt lo L w) (hl : (textsB L).length ≤ 3000000) :
    Calls Try.prog 23 #[.slice lo L.length lc] w fun e w' => e = .returned (.int .i64 ((textsB L).length : Nat)) ∧ Below w.heap.size w w' := by
  have HL := Lib.hid h
  have HN := Lib.hid (textsB_count L)
  have HLL := Lib.hid hl
  clear h hl
  go_enter Try.func23, Try.ntmps23
  go_wp2_with fail
  go_loopw [3, 8] (fun n i wq => ∃ q : Nat, q ≤ L.length ∧ i = .int .i64 q ∧ n = .int .i64 ((textsB (L.take q)).length : Nat) ∧ Below w.heap.size w wq) (fun _ i _ => L.length - (intOf i).toNat)
  case atStart => exact ⟨0, Nat.zero_le _, rfl, rfl, Below.refl _ _⟩
  case round =>
    obtain ⟨q, hq, rfl, rfl, hb⟩ := hrel
    have hlen3 : L.length ≤ 3000000 := by have := HN.out; have := HLL.out; omega
    by_cases hlt : q < L.length
    · obtain ⟨b, o, rfl, hc⟩ := (HL.out.below hb).cell hlt
      have hp := textsB_parts L q hlt
      have htk := textsB_take_succ L q hlt
      obtain ⟨t, ht⟩ : ∃ t, L[q] = t := ⟨_, rfl⟩
      rw [ht] at hc hp htk
      have htl := textB_length t
      have hll := HLL.out
      obtain ⟨n, hn⟩ : ∃ n, (textsB (L.take q)).length = n := ⟨_, rfl⟩
      have HTK := Shut.mk (show (textsB (L.take (q + 1))).length = n + (textB t).length by rw [htk, List.length_append, List.length_append, hn, textB_length]; omega)
      rw [hn] at hp ⊢
      have hn3 : n ≤ 3000000 := by omega
      have ht3 : t.length ≤ 3000000 := by omega
      have HB := Lib.hid hb
      have HNM := Lib.hid (num_any t.length wr (by omega))
      obtain ⟨m, hm⟩ : ∃ m, (numB t.length).length = m := ⟨_, rfl⟩
      have HTL := Shut.mk htl
      have hm9 : m ≤ 9 := by rw [← hm]; exact numB_length_9 (by omega)
      have HM := Shut.mk hm
      clear ht hp htk htl hll hn hb
      go_wp2_with fail
      refine HNM.out.mono ?_
      rintro e w1 ⟨rfl, hb1⟩
      have HB1 := Lib.hid (HB.out.trans (hb1.mono HB.out.size))
      clear hb1 HNM HB
      go_wp2_with fail
      exact ⟨⟨q + 1, by omega, by go_num, by rw [HTK.out, HTL.out, HM.out]; go_num, HB1.out⟩, by simp [intOf]; omega⟩
    · obtain rfl : q = L.length := by omega
      rw [List.take_length]
      have HB := Lib.hid hb
      clear hb
      go_wp2_with fail
      go_ret
      exact ⟨rfl, HB.out⟩

/-! ### A slot's bytes -/
def slotRow (e n k j : Nat) : Value := if j < 8 ∧ 8 ≤ j + k then .int .u8 ((e : Int) / 2 ^ (8 * (7 - j)) % 256) else if 8 ≤ j ∧ j < 16 ∧ 16 ≤ j + k then .int .u8 ((n : Int) / 2 ^ (8 * (15 - j)) % 256) else .int .u8 0
theorem slotRow_step {e n k : Nat} (hk : k < 8) (i : Nat) :
    (fun j => if j = 15 - k then Value.int .u8 ((n : Int) / 2 ^ (8 * k) % 256) else if j = 7 - k then Value.int .u8 ((e : Int) / 2 ^ (8 * k) % 256) else slotRow e n k j) i = slotRow e n (k + 1) i := by
  unfold slotRow
  by_cases h1 : i = 15 - k
  · subst h1
    rw [if_neg (by omega), if_pos (by omega), show 15 - (15 - k) = k by omega]
    simp
  · by_cases h2 : i = 7 - k
    · subst h2
      rw [if_pos (by omega), show 7 - (7 - k) = k by omega]
      simp [show ¬ (7 - k = 15 - k) by omega]
    · simp only [h1, h2, if_false]
      by_cases h3 : i < 8 ∧ 8 ≤ i + k
      · rw [if_pos h3, if_pos (by omega)]
      · rw [if_neg h3, if_neg (show ¬ (i < 8 ∧ 8 ≤ i + (k + 1)) by omega)]
        by_cases h4 : 8 ≤ i ∧ i < 16 ∧ 16 ≤ i + k
        · rw [if_pos h4, if_pos (by omega)]
        · rw [if_neg h4, if_neg (by omega)]
theorem be8_get (n : Nat) {j : Nat} (hj : j < (be8 n).length) : (((be8 n)[j]).toNat : Int) = (n : Int) / 2 ^ (8 * (7 - j)) % 256 := by
  simp only [be8, List.getElem_map, List.getElem_range, toNat_ofNat_mod]
  rw [show (256 : Nat) ^ (7 - j) = 2 ^ (8 * (7 - j)) by rw [show (256 : Nat) = 2 ^ 8 by decide, ← Nat.pow_mul]]
  simp
theorem slotRow_all (e n : Nat) {j : Nat} (hj : j < (slotB e n).length) : slotRow e n 8 j = .int .u8 (((slotB e n)[j]).toNat : Int) := by
  have hl := slotB_len e n
  unfold slotRow
  by_cases h : j < 8
  · rw [if_pos (by omega)]
    simp only [slotB]
    rw [List.getElem_append_left (by rw [be8_len]; exact h), be8_get]
  · rw [if_neg (by omega), if_pos (by omega)]
    simp only [slotB]
    rw [List.getElem_append_right (by rw [be8_len]; omega), be8_get, be8_len, show 7 - (j - 8) = 15 - j by omega]

set_option maxHeartbeats 1000000 in
set_option maxRecDepth 100000 in
theorem dev8_bytes (e n : Nat) (w : World) (_he : e ≤ 4611686018427387904) (_hn : n ≤ 3000000) :
    Calls Try.prog 41 #[.agg (slotV e n)] w fun x w' => ∃ g, x = .returned (.slice (some ⟨g, 0, none⟩) 16 16) ∧ NumsAt (some ⟨g, 0, none⟩) .u8 (byteNs (slotB e n)) w' ∧ w.heap.size ≤ g ∧ Below w.heap.size w w' := by
  unfold slotV
  go_enter Try.func41, Try.ntmps41
  go_upto_region 1 with (fail)
  have hal : Below w.heap.size w (w.alloc (.cells (slotV e n) 49)) := (Below.refl _ _).alloc (Nat.le_refl _) _
  have hc : Cells w.heap.size 49 (slotV e n) (w.alloc (.cells (slotV e n) 49)) := heap_alloc_new w _
  have hsz : (w.alloc (.cells (slotV e n) 49)).heap.size = w.heap.size + 1 := World.size_alloc _ _
  unfold slotV at hal hsz hc
  obtain ⟨w1, hw1⟩ : ∃ x, x = w.alloc (.cells #[.int .i64 (e : Int), .int .i64 (n : Int)] 49) := ⟨_, rfl⟩
  rw [← hw1] at hal hsz hc ⊢
  have HSZ := Shut.mk hsz
  clear hw1 hsz
  have hmk : ∀ w', (Instr.makeSlice 40 (.int .i64 16) (.int .i64 16)).run Try.prog w' = .ok (.slice (some ⟨w'.heap.size, 0, none⟩) 16 16) (w'.alloc (.cells (madeCells (Value.int .u8 0).cells 16) 5)) := run_make_row' (P := Try.prog) 40 5 (.int .u8 0) 1 Try.underlying40 Try.infoU8 rfl .i64 .i64 16 (by omega) (by decide)
  have hrow := World.rowIs_made w1 (.int .u8 0) 16 5
  go_wp2_with fail
  go_loopw [6] (fun i wq => ∃ k : Nat, k ≤ 8 ∧ i = .int .i64 k ∧ wq.rowIs w1.heap.size 5 16 (slotRow e n k) ∧ Cells w.heap.size 49 #[.int .i64 (e : Int), .int .i64 (n : Int)] wq ∧ Below w.heap.size w wq) (fun i _ => 8 - (intOf i).toNat)
  case atStart =>
    have hb : Below w1.heap.size w1 (w1.alloc (.cells (madeCells #[Value.int IntKind.u8 0] 16) 5)) := (Below.refl _ _).alloc (Nat.le_refl _) _
    refine ⟨0, by omega, rfl, hrow.congr (fun i hi => ?_), hc.below hb, hal.trans (hb.mono hal.size)⟩
    unfold slotRow
    rw [if_neg (by omega), if_neg (by omega)]
  case round =>
    clear hrow hc hal hmk
    obtain ⟨k, hk, rfl, hrow, hc, hb⟩ := hrel
    by_cases hlt : k < 8
    · have c7 := hrow.cell (i := 7 - k) (by omega)
      have f7 := hrow.frozen (7 - k)
      have c15 := hrow.cell (i := 15 - k) (by omega)
      have f15 := hrow.frozen (15 - k)
      have z0 := hc.at 0
      have z1 := hc.at 1
      simp only [List.getElem?_toArray, List.getElem?_cons_zero, List.getElem?_cons_succ] at z0 z1
      have hne : w.heap.size ≠ w1.heap.size := by have := HSZ.out; omega
      have hne2 : 15 - k ≠ 7 - k := by omega
      have HR := Lib.hid ((hrow.set (7 - k) (.int .u8 ((e : Int) / 2 ^ (8 * k) % 256))).set (15 - k) (.int .u8 ((n : Int) / 2 ^ (8 * k) % 256)))
      have HC := Lib.hid hc
      have HB := Lib.hid hb
      clear hrow hc hb
      go_wp2
      have hg : w.heap.size ≤ w1.heap.size := by have := HSZ.out; omega
      exact ⟨⟨k + 1, by omega, by go_num, HR.out.congr (fun i _ => slotRow_step hlt i), HC.out.only (((Only.refl (fun x => x = w1.heap.size) wr).setCell (7 - k) _ (.inl rfl)).setCell (15 - k) _ (.inl rfl)) hne, (HB.out.setCell (p := ⟨w1.heap.size, 7 - k, none⟩) hg _).setCell (p := ⟨w1.heap.size, 15 - k, none⟩) hg _⟩, by simp [intOf]; omega⟩
    · obtain rfl : k = 8 := by omega
      have HN := Lib.hid (show NumsAt (some ⟨w1.heap.size, 0, none⟩) .u8 (byteNs (slotB e n)) wr from .inr ⟨w1.heap.size, 0, rfl, by obtain ⟨c, hc, _⟩ := hrow; exact lt_of_block hc, fun j hj => by
        rw [byteNs_len] at hj
        rw [Nat.zero_add, hrow.cell (by rw [slotB_len] at hj; exact hj), slotRow_all e n hj]
        simp [byteNs]⟩)
      have HB := Lib.hid hb
      clear hrow hc hb
      go_wp2_with fail
      go_ret
      exact ⟨_, rfl, HN.out, by have := HSZ.out; omega, HB.out⟩

/-! ### The tail of the valid bytes -/
theorem ownsRow_cut {B n c k : Nat} {e : TypeId} {ao : Option Addr} {x : List UInt8} {w : World} (h : w.ownsRow B e 1 (.slice ao n c) n (bv x)) (hn : n = x.length) (hk : k ≤ n) (h0 : 0 < n) : OwnN B e .u8 (.slice ao k c) (byteNs (x.take k)) w := by
  rcases h.2 with ⟨_, h2⟩ | ⟨g, cap, cur, h1, hB, hh, hc, hm, hs, ht⟩
  · omega
  · injection h1 with h1 _ h3
    subst h1
    subst h3
    have hl : (byteNs (x.take k)).length = k := by rw [byteNs_len, List.length_take]; omega
    refine ⟨by rw [nums_len, Nat.mul_one], .inr ⟨g, c, cur, by rw [hl], hB, hh, by omega, hm, hs, ?_⟩⟩
    rw [hl, Nat.mul_one]
    rw [Nat.mul_one] at ht
    have h4 : cur.toList.take k = (bv x).take k := by rw [← ht, List.take_take, Nat.min_eq_left hk]
    rw [h4, bv, nums, byteNs, nums, byteNs, ← List.map_take, ← List.map_take]
theorem Live.tail {s : DS} {e : Nat} {S : List UInt8} (h : Live s e S) (hu : S.length % 128 ≠ 0) : 2 + S.length / 128 < s.safe.length ∧ ((nowS s).getD (2 + S.length / 128) []).length = 128 ∧ ((nowS s).getD (2 + S.length / 128) []).take (S.length % 128) = S.drop (128 * (S.length / 128)) := by
  have hn : nowS s = s.safe := by rw [nowS, h.pend]; rfl
  have hf := h.opens.fits
  have hk : 2 + S.length / 128 < s.safe.length := by omega
  rw [hn]
  refine ⟨hk, by rw [List.getD_eq_getElem?_getD, List.getElem?_eq_getElem hk]; exact h.opens.ok _ (List.getElem_mem _), ?_⟩
  refine List.ext_getElem? fun j => ?_
  rw [List.getElem?_take, List.getElem?_drop]
  by_cases hj : j < S.length % 128
  · rw [if_pos hj, ← dataL_get h.opens.ok hk (by omega)]
    exact h.opens.data _ (by omega)
  · rw [if_neg hj, List.getElem?_eq_none (by omega)]

set_option maxHeartbeats 1000000 in
set_option maxRecDepth 100000 in
theorem dev8_tail (O P : Nat → Prop) (vs vd : Value) (s : DS) (e : Nat) (S : List UInt8) (w : World) (h : DiskIs O vd s w) (hs : SegIs P vs vd e S w) (hf : Fit s 999999) (hl : Live s e S) :
    Calls Try.prog 49 #[vs, .int .i64 ((2 + S.length / 128 : Nat) : Int)] w fun x w' => ∃ v, x = .returned (.tuple #[v, .int .i64 0]) ∧ OwnN w.heap.size 5 .u8 v (byteNs (S.drop (128 * (S.length / 128)))) w' ∧ Below w.heap.size w w' := by
  obtain ⟨ad, rfl⟩ := h.ptr
  obtain ⟨b, rfl, _, hc⟩ := hs
  have c0 := hc.at 0
  have c2 := hc.at 2
  simp only [segV, List.getElem?_toArray, List.getElem?_cons_zero, List.getElem?_cons_succ] at c0 c2
  have hlim : S.length ≤ 3000000 := by have := hl.opens.fits; have := hf.safe; omega
  by_cases hu : S.length % 128 = 0
  · have hd : S.drop (128 * (S.length / 128)) = [] := List.drop_eq_nil_of_le (by omega)
    rw [hd]
    obtain ⟨n, hn⟩ : ∃ n, S.length = n := ⟨_, rfl⟩
    obtain ⟨k, hk⟩ : ∃ k, 2 + S.length / 128 = k := ⟨_, rfl⟩
    rw [hk]
    rw [hn] at c2 hlim hu
    have hu2 : (n : Int) % 128 = 0 := by omega
    clear h hc hf hl hd hn hk hu
    go_enter Try.func49, Try.ntmps49
    go_wp2_with fail
    go_ret2
    exact ⟨_, rfl, OwnN.nil _ _ _ _, Below.refl _ _⟩
  · obtain ⟨hk2, hxl, hxt⟩ := hl.tail hu
    have hr := dev7_read_row O (.pointer (some ad)) s ((2 + S.length / 128 : Nat) : Int) w h hf
    rw [Live.why hl.off hk2, readB_now hl.off hk2, hxl] at hr
    rw [← hxt]
    obtain ⟨x, hx⟩ : ∃ x, (nowS s).getD (2 + S.length / 128) [] = x := ⟨_, rfl⟩
    rw [hx] at hr hxl ⊢
    have HR := Lib.hid hr
    obtain ⟨n, hn⟩ : ∃ n, S.length = n := ⟨_, rfl⟩
    rw [hn] at c2 hlim hu HR ⊢
    obtain ⟨k, hk⟩ : ∃ k, 2 + n / 128 = k := ⟨_, rfl⟩
    rw [hk] at HR ⊢
    obtain ⟨u, hun⟩ : ∃ u, n % 128 = u := ⟨_, rfl⟩
    have hu3 : (n : Int) % 128 = (u : Int) := by omega
    have hu4 : (u : Int) ≤ 128 := by omega
    have hu5 : ((u : Int) == 0) = false := by simp; omega
    rw [hun] at hu ⊢
    have HX := Shut.mk hxl
    clear h hc hf hl hr hxl hxt hx hn hk hk2 hun
    go_enter Try.func49, Try.ntmps49
    go_wp2_with fail
    refine HR.out.mono ?_
    rintro y w1 ⟨⟨ao, c, rfl, hrow⟩, hb1⟩
    have hcc : (u : Int) ≤ (c : Int) := by have := (newB_row (by rw [HX.out]) hrow).2; omega
    have HO := Lib.hid (ownsRow_cut hrow (by rw [HX.out]) (k := u) (by omega) (by decide))
    have HB := Lib.hid hb1
    clear hrow hb1 HR
    go_wp2_with fail
    go_ret2
    exact ⟨_, rfl, HO.out, HB.out⟩
end Go.Proofs.Ythnagnjcbgcnfaa
