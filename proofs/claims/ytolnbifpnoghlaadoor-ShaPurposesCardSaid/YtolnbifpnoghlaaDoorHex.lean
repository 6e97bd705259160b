/-
  Hex, the developers' and the document's.
-/
import Derived.Test.YtolnbifpnoghlaaDoorHexM
import Derived.StillTailTactics
import Derived.Deep.Cut
import Derived.BigRegion
import Derived.Deep.RegionLaw
namespace Go.Proofs.YtolnbifpnoghlaaDoor
open Go.RowKit

set_option maxHeartbeats 4000000 in
set_option maxRecDepth 100000 in
theorem ref_hex (l : List Nat) (w : World) (hl : l.length = 32) (hlt : ∀ x ∈ l, x < 256) :
    Calls Tryd.prog 19 #[.agg (nums .u8 l).toArray] w fun e w' => e = .returned (.string ⟨(txt (hexL l)).toArray⟩) ∧ Below w.heap.size w w' := by
  have HL := Lib.hid hl
  have HLT := Lib.hid hlt
  have HHL := Lib.hid (hexL_len l)
  clear hl hlt
  go_enter Tryd.func19, Tryd.ntmps19
  go_upto_region 2 with (fail)
  obtain ⟨w1, hw1⟩ : ∃ x, x = w.alloc (.cells (nums .u8 l).toArray 24) := ⟨_, rfl⟩
  rw [← hw1]
  have HD := Lib.hid (show Blk w.heap.size 24 .u8 l w1 by rw [hw1]; exact heap_alloc_new w _)
  have HB := Lib.hid (show Below w.heap.size w w1 by rw [hw1]; exact (Below.refl _ _).alloc (Nat.le_refl _) _)
  have HI := Lib.hid (show (Tryd.prog.info? 24).map (·.size) = some l.length by rw [HL.out]; exact Tryd.infoId)
  clear hw1
  go_wp2_with (refine wpList_load_nums rfl 24 _ rfl w.heap.size .u8 _ 24 _ rfl HD.out Tryd.underlying24 rfl HI.out ?_)
  go_loopw [3, 7] (fun v i wq => ∃ k : Nat, k ≤ 32 ∧ i = .int .i64 k ∧ v = .string ⟨(txt (hexL (l.take k))).toArray⟩ ∧ Below w.heap.size w wq) (fun _ i _ => 32 - (intOf i).toNat)
  case atStart => exact ⟨0, by omega, rfl, rfl, HB.out⟩
  case round =>
    obtain ⟨k, hk, rfl, rfl, hb⟩ := hrel
    have HB1 := Lib.hid hb
    clear hb
    by_cases hlk : k < 32
    · have hix := fun w => run_index_nums (P := Tryd.prog) 24 5 32 .u8 l k w Tryd.underlying24 HL.out Tryd.sizeOf5 Tryd.isAgg5 hlk
      have hx := getD_lt HLT.out (by decide) k
      have HN := Lib.hid (hexL_next (l := l) (k := k) (by rw [HL.out]; exact hlk))
      generalize l.getD k 0 = x at hix hx HN
      obtain ⟨a, ha⟩ : ∃ a, a = x / 16 := ⟨_, rfl⟩
      obtain ⟨b, hb⟩ : ∃ b, b = x % 16 := ⟨_, rfl⟩
      rw [← ha, ← hb] at HN
      have hl1 : (txt (hexL (l.take k))).length = 2 * k := by rw [txt_len, hexL_len, List.length_take, HL.out]; omega
      have hl2 : (txt (hexL (l.take k) ++ [hexN a])).length = 2 * k + 1 := by rw [txt_len, List.length_append, hexL_len, List.length_take, HL.out]; simp; omega
      generalize hexL (l.take k) = L at HN hl1 hl2 ⊢
      have e1 : (x : Int) / 16 = (a : Int) := by omega
      have e2 : (x : Int) % 16 = (b : Int) := by omega
      have ha16 : a < 16 := by omega
      have hb16 : b < 16 := by omega
      have s1 := fun w => run_hex_cut (P := Tryd.prog) 9 Tryd.underlying9 ha16 w
      have s2 := fun w => run_hex_cut (P := Tryd.prog) 9 Tryd.underlying9 hb16 w
      have t1 := txt_cat L [hexN a]
      have t2 := txt_cat (L ++ [hexN a]) [hexN b]
      have u1 : IntKind.u8.wrap ((a : Int) + 1) = (a : Int) + 1 := by rw [IntKind.wrap_u8]; omega
      have u2 : IntKind.u8.wrap ((b : Int) + 1) = (b : Int) + 1 := by rw [IntKind.wrap_u8]; omega
      have q1 : IntKind.u8.wrap (a : Int) = (a : Int) := by rw [IntKind.wrap_u8]; omega
      have q2 : IntKind.u8.wrap (b : Int) = (b : Int) := by rw [IntKind.wrap_u8]; omega
      have p1 : (a : Int) + 1 ≤ 16 := by omega
      have p2 : (b : Int) + 1 ≤ 16 := by omega
      have hl3 : (txt [hexN a]).length = 1 := by rw [txt_len]; rfl
      have hl4 : (txt [hexN b]).length = 1 := by rw [txt_len]; rfl
      clear ha hb
      go_wp2_with fail
      clear hix
      go_quiet (fail)
      go_wp2_with fail
      exact ⟨⟨k + 1, by omega, by go_num, by rw [HN.out]; simp, drawn_below HB1.out nq⟩, by simp [intOf]; omega⟩
    · obtain rfl : k = 32 := by omega
      rw [List.take_of_length_le (by rw [HL.out]; exact Nat.le_refl _), show ((32 : Nat) : Int) = 32 from rfl]
      go_wp2_with fail
      go_ret
      exact ⟨rfl, HB1.out⟩

theorem ownN_made (w : World) (e : TypeId) (z : Value) (n : Nat) (hn : n ≤ maxLen) : OwnN w.heap.size e .u8 (.slice (some ⟨w.heap.size, 0, none⟩) 0 n) [] (w.alloc (.cells (Array.replicate n z) e)) :=
  ⟨rfl, Or.inr ⟨w.heap.size, n, _, rfl, Nat.le_refl _, heap_alloc_new w _, Nat.zero_le _, hn, by simp, by simp [nums]⟩⟩

theorem conv_txt {B : Nat} {ao : Option Addr} {cp : Nat} {w : World} (l : List Nat) (hl : l.length = 32) (hlt : ∀ x ∈ l, x < 256) (h : OwnN B 5 .u8 (.slice ao (hexL l).length cp) (hexL l) w) :
    (convert 27 9 (.slice ao (hexL l).length cp)).run Tryd.prog w = .ok (.string ⟨(txt (hexL l)).toArray⟩) w := by
  obtain ⟨g, c, hv, hb, hg⟩ := h.formB (by rw [hexL_len, hl]; decide)
  simp only [Value.slice.injEq] at hv
  obtain ⟨rfl, _, rfl⟩ := hv
  have hlen : (hexL l).length = (txt (hexL l)).length := (txt_len _).symm
  have hc := World.ownsRow.cells h (g := g) rfl
  rw [hlen]
  refine run_convert_bytes_back _ _ _ 5 ⟨g, 0, none⟩ _ (txt (hexL l)) Tryd.underlying27 Tryd.underlying5 Tryd.underlying9 ?_
  intro j hj
  refine hc j _ ?_
  have hb := byteNs_txt (hexL_lt hlt)
  have e : nums .u8 (hexL l) = (txt (hexL l)).map fun b => Value.int .u8 (b.toNat : Int) := by
    rw [← byteNs_nums, hb]
  rw [e, List.getElem?_map, List.getElem?_eq_getElem hj]
  rfl

set_option maxHeartbeats 4000000 in
set_option maxRecDepth 100000 in
theorem dev_hex (l : List Nat) (w : World) (hl : l.length = 32) (hlt : ∀ x ∈ l, x < 256) :
    Calls Tryd.prog 18 #[.agg (nums .u8 l).toArray] w fun e w' => e = .returned (.string ⟨(txt (hexL l)).toArray⟩) ∧ Below w.heap.size w w' := by
  have HL := Lib.hid hl
  have HLT := Lib.hid hlt
  have HHL := Lib.hid (hexL_len l)
  clear hl hlt
  go_enter Tryd.func18, Tryd.ntmps18
  go_upto_region 1 with (fail)
  obtain ⟨w1, hw1⟩ : ∃ x, x = w.alloc (.cells (nums .u8 l).toArray 24) := ⟨_, rfl⟩
  rw [← hw1]
  have HD := Lib.hid (show Blk w.heap.size 24 .u8 l w1 by rw [hw1]; exact heap_alloc_new w _)
  have HB := Lib.hid (show Below w.heap.size w w1 by rw [hw1]; exact (Below.refl _ _).alloc (Nat.le_refl _) _)
  have HI := Lib.hid (show (Tryd.prog.info? 24).map (·.size) = some l.length by rw [HL.out]; exact Tryd.infoId)
  clear hw1
  have hmk : ∀ w, (Instr.makeSlice 27 (.int .i64 0) (.int .i64 64)).run Tryd.prog w = .ok (.slice (some ⟨w.heap.size, 0, none⟩) 0 64) (w.alloc (.cells (Array.replicate 64 (.int .u8 0)) 5)) := fun _ => by kernel_rfl
  go_upto_region 2 with (fail)
  clear hmk
  obtain ⟨w2, hw2⟩ : ∃ x, x = w1.alloc (.cells (Array.replicate 64 (.int .u8 0)) 5) := ⟨_, rfl⟩
  rw [← hw2]
  have hb2 : Below w1.heap.size w1 w2 := by rw [hw2]; exact (Below.refl _ _).alloc (Nat.le_refl _) _
  have HO := Lib.hid (show OwnN w1.heap.size 5 .u8 (.slice (some ⟨w1.heap.size, 0, none⟩) 0 64) (hexL (l.take 0)) w2 by rw [hw2]; exact ownN_made w1 _ _ _ (by unfold maxLen; omega))
  have HD2 := Lib.hid (HD.out.below hb2)
  have HB2 := Lib.hid (HB.out.trans (hb2.mono HB.out.size))
  have hsz := HB.out.size
  clear hw2 HD
  go_wp2_with (refine wpList_load_nums rfl 24 _ rfl w.heap.size .u8 _ 24 _ rfl HD2.out Tryd.underlying24 rfl HI.out ?_)
  obtain ⟨i0, hi, hz0, hz1, hz2⟩ := info_parts Tryd.infoU8
  go_loopw [3, 8] (fun v i wq => ∃ k : Nat, k ≤ 32 ∧ i = .int .i64 k ∧ OwnN w1.heap.size 5 .u8 v (hexL (l.take k)) wq ∧ Below w1.heap.size w2 wq) (fun _ i _ => 32 - (intOf i).toNat)
  case atStart => exact ⟨0, by omega, rfl, HO.out, Below.refl _ _⟩
  case round =>
    clear HO
    obtain ⟨k, hk, rfl, ho, hb⟩ := hrel
    obtain ⟨ao, cp, rfl⟩ := ho.form
    have HO := Lib.hid ho
    have HB3 := Lib.hid hb
    clear ho hb
    by_cases hlk : k < 32
    · have hix := fun w => run_index_nums (P := Tryd.prog) 24 5 32 .u8 l k w Tryd.underlying24 HL.out Tryd.sizeOf5 Tryd.isAgg5 hlk
      have hx := getD_lt HLT.out (by decide) k
      have HN := Lib.hid (hexL_next (l := l) (k := k) (by rw [HL.out]; exact hlk))
      generalize l.getD k 0 = x at hix hx HN
      obtain ⟨a, ha⟩ : ∃ a, a = x / 16 := ⟨_, rfl⟩
      obtain ⟨b, hb⟩ : ∃ b, b = x % 16 := ⟨_, rfl⟩
      rw [← ha, ← hb] at HN
      have hl1 : (hexL (l.take k)).length = 2 * k := by rw [hexL_len, List.length_take, HL.out]; omega
      have HL1 := Lib.hid hl1
      generalize hexL (l.take k) = L at HN hl1 HL1 HO ⊢
      have e1 : (x : Int) / 16 = (a : Int) := by omega
      have e2 : bits BinOp.and IntKind.u8 (x : Int) 15 = (b : Int) := by rw [hb]; exact and_15 x hx
      have ha16 : a < 16 := by omega
      have hb16 : b < 16 := by omega
      have s1 := fun w => run_hex_at (P := Tryd.prog) 9 Tryd.underlying9 ha16 w
      have s2 := fun w => run_hex_at (P := Tryd.prog) 9 Tryd.underlying9 hb16 w
      have q1 : IntKind.u8.wrap (a : Int) = (a : Int) := by rw [IntKind.wrap_u8]; omega
      have q2 : IntKind.u8.wrap (b : Int) = (b : Int) := by rw [IntKind.wrap_u8]; omega
      clear ha hb hl1
      go_wp2_with fail
      clear hix
      have HL1' := Lib.hid (show L.length ≤ 64 by rw [HL1.out]; omega)
      have hsz3 := HB3.out.size
      have hsz2 := hb2.size
      go_region_law (refine step_append_nums rfl (.tmp 11) (.tmp 18) 27 rfl w1.heap.size 5 i0 1 .u8 Tryd.underlying27 hi hz0 hz1 hz2 (.slice ao L.length cp) L [hexN a, hexN b] rfl (OwnN.alloc (show OwnN w1.heap.size 5 .u8 (.slice ao L.length cp) L wr.drew from HO.out) _) ⟨wr.heap.size, 0, none⟩ 2 2 rfl rfl (cell_two_new wr.drew _ _ _) (by have := HL1'.out; simp; unfold maxLen; omega) (by have := HL1'.out; simp; omega) (by simp; omega) ?_; intro v4 w4 ho4 hg4)
      all_goals
        go_wp2_with fail
        exact ⟨⟨k + 1, by omega, by go_num, by rw [HN.out, List.append_assoc]; exact ho4.out, ((HB3.out.alloc (by omega) _).drew).grown hg4.out (by simp; omega) (fun g hg => (World.ownsRow.lt HO.out g hg).1)⟩, by simp [intOf]; omega⟩
    · obtain rfl : k = 32 := by omega
      rw [List.take_of_length_le (by rw [HL.out]; exact Nat.le_refl _)] at HO ⊢
      rw [show ((32 : Nat) : Int) = 32 from rfl]
      have hlen : (hexL l).length = 64 := by rw [HHL.out, HL.out]
      have hconv := conv_txt l HL.out HLT.out HO.out
      clear hb2
      rw [hlen] at hconv ⊢
      clear hlen
      go_wp2_with fail
      go_ret
      exact ⟨rfl, HB2.out.trans (HB3.out.mono hsz)⟩
end Go.Proofs.YtolnbifpnoghlaaDoor
