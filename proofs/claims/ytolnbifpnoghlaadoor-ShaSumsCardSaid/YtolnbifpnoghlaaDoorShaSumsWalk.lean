/-
  The walk of the law ShaSums.
-/
import Derived.Test.YtolnbifpnoghlaaDoorShaLaws
namespace Go.Proofs.YtolnbifpnoghlaaDoor.shaSums
open Go.RowKit Go.BigFrame

theorem dev_at {p : List UInt8} {ao : Option Addr} {c : Nat} {l : List (List UInt8)} {w1 w' : World} (hs : Hid (StrsAt ao l w1)) (hnil : Hid (ao = none → c = 0)) (hl : Hid (l.length ≤ 8796093000000)) (hb : Hid ((listB (p :: l)).length ≤ 140737488350000)) (h : SS w1 w') :
    Calls Tryd.prog 14 #[.string ⟨p.toArray⟩, .slice ao l.length c] w' fun e w'' => e = .returned (.agg (nums .u8 (shaN (listB (p :: l)))).toArray) ∧ Below w'.heap.size w' w'' :=
  dev_sum p ao c l w' (hs.out.below h.1) hnil.out hl.out hb.out h.2
theorem ref_at {p : List UInt8} {ao : Option Addr} {c : Nat} {l : List (List UInt8)} {w1 w' : World} (hs : Hid (StrsAt ao l w1)) (hnil : Hid (ao = none → c = 0)) (hl : Hid (l.length ≤ 8796093000000)) (hb : Hid ((listB (p :: l)).length ≤ 140737488350000)) (h : SS w1 w') :
    Calls Tryd.prog 15 #[.string ⟨p.toArray⟩, .slice ao l.length c] w' fun e w'' => e = .returned (.agg (nums .u8 (shaN (listB (p :: l)))).toArray) ∧ Below w'.heap.size w' w'' :=
  ref_sum p ao c l w' (hs.out.below h.1) hnil.out hl.out hb.out

set_option maxHeartbeats 4000000 in
theorem walk (w : World) (hk : KAt w) (p : List UInt8) (hp : p.length ≤ 140737488351232) (ao : Option Addr) (l : List (List UInt8)) (c : Nat) (hs : StrsAt ao l w) (hl : l.length ≤ 140737488351232) (ht : ∀ t ∈ l, t.length ≤ 140737488351232) (hnil : ao = none → c = 0)
    (d : List Nat) (hd : d.length = 32) (hdl : ∀ x ∈ d, x < 256) :
    Calls Tryd.prog 5 #[.string ⟨p.toArray⟩, .slice ao l.length c, .agg (nums .u8 d).toArray] w fun e w' => e = .returned (.bool true) ∧ Below w.heap.size w w' := by
  have HK := Lib.hid hk
  have HS := Lib.hid hs
  have HT := Lib.hid ht
  have HN := Lib.hid hnil
  have HD := Lib.hid hd
  have HDL := Lib.hid hdl
  clear hk hs ht hnil hd hdl
  go_enter Tryd.func5, Tryd.ntmps5
  go_upto_region 1 with (fail)
  obtain ⟨wa, hwa⟩ : ∃ x, x = w.alloc (.cells (nums .u8 d).toArray 23) := ⟨_, rfl⟩
  rw [← hwa]
  have hb : Below w.heap.size w wa := by rw [hwa]; exact (Below.refl _ _).alloc (Nat.le_refl _) _
  have HDa := Lib.hid (show Blk w.heap.size 23 .u8 d wa by rw [hwa]; exact heap_alloc_new w _)
  have HKa := Lib.hid (HK.out.below hb)
  have HSa := Lib.hid (HS.out.below hb)
  have HBa := Lib.hid hb
  clear hwa hb HK HS
  go_wp2_with fail
  refine (alive2_any wa HKa.out).mono ?_
  rintro e w1 ⟨rfl, hb1⟩
  have HB1 := Lib.hid (HBa.out.trans (hb1.mono HBa.out.size))
  have HK1 := Lib.hid (HKa.out.below hb1)
  have HS1 := Lib.hid (HSa.out.below hb1)
  have HD1 := Lib.hid (HDa.out.below hb1)
  clear hb1 HBa HKa HSa HDa
  by_cases hbig : great2 l = true
  · go_wp2_with fail
    have c1 := great2_any ao c l w1 HS1.out (by omega) (fun t ht => by have := HT.out t ht; omega)
    rw [hbig] at c1
    refine c1.mono ?_
    rintro e w2 ⟨rfl, rfl⟩
    clear c1 hbig
    go_wp2_with fail
    go_ret
    exact ⟨rfl, HB1.out⟩
  · have hgr : great2 l = false := by simpa using hbig
    have HG := Lib.hid hgr
    clear hbig hgr
    by_cases hlong : 1024 < p.length
    · go_wp2_with fail
      have c1 := great2_any ao c l w1 HS1.out (by omega) (fun t ht => by have := HT.out t ht; omega)
      rw [HG.out] at c1
      refine c1.mono ?_
      rintro e w2 ⟨rfl, rfl⟩
      clear c1
      go_wp2_with fail
      go_ret
      exact ⟨rfl, HB1.out⟩
    · go_wp2_with fail
      have c1 := great2_any ao c l w1 HS1.out (by omega) (fun t ht => by have := HT.out t ht; omega)
      rw [HG.out] at c1
      refine c1.mono ?_
      rintro e w2 ⟨rfl, rfl⟩
      clear c1
      have HIA := Lib.hid (show (Tryd.prog.info? 23).map (·.size) = some d.length by rw [HD.out]; exact Tryd.infoA)
      have HII := Lib.hid (show (Tryd.prog.info? 24).map (·.size) = some d.length by rw [HD.out]; exact Tryd.infoId)
      have HLL := Lib.hid (show (List.replicate 32 0).length = d.length by rw [HD.out]; rfl)
      have HZ := Lib.hid (show Blk w1.heap.size 24 .u8 (List.replicate 32 0) (w1.alloc (.cells (nums .u8 (List.replicate 32 0)).toArray 24)) from heap_alloc_new w1 _)
      go_upto_region 6 with (first | (refine wpList_load_nums rfl 23 _ rfl w.heap.size .u8 _ 23 _ rfl HD1.out Tryd.underlying23 rfl HIA.out ?_) | (refine wpList_store_nums rfl 24 _ _ rfl rfl w1.heap.size .u8 _ d 24 rfl rfl HZ.out HII.out HLL.out ?_))
      intro w2 hc hb
      have hb2 : Below w1.heap.size w1 w2 := But.toBelow ((Below.refl _ w1).alloc (Nat.le_refl _) (.cells (nums .u8 (List.replicate 32 0)).toArray 24)) hb.out (Nat.le_refl _) (by simp)
      have HC2 := Lib.hid (show Blk w1.heap.size 24 .u8 d w2 from hc.out)
      have HK2 := Lib.hid (HK1.out.below hb2)
      have HS2 := Lib.hid (HS1.out.below hb2)
      have HB2 := Lib.hid (HB1.out.trans (hb2.mono HB1.out.size))
      clear hc hb hb2 HZ HK1 HS1 HB1 HD1 HIA HII HLL
      have HLB := Lib.hid (show (listB (p :: l)).length ≤ 140737488350000 by have := listB_small (p := p) (by omega) HG.out; omega)
      have HL1 := Lib.hid (show l.length ≤ 8796093000000 by have := (great2_false HG.out).1; omega)
      have e1 := equal_sha (listB (p :: l)) (listB (p :: l))
      have e2 := fun w => equal_nums (P := Tryd.prog) 34 5 16 Tryd.underlying34 Tryd.underlying5 Tryd.sizeOf5 (d.take 16) (d.take 16) (by rw [List.length_take, HD.out]; rfl) (by rw [List.length_take, HD.out]; rfl) (fun x hx => HDL.out x (List.mem_of_mem_take hx)) (fun x hx => HDL.out x (List.mem_of_mem_take hx)) w
      have hex : ∃ w', SS w2 w' := ⟨_, SS.start HK2.out⟩
      have HI := Lib.hid (show (Tryd.prog.info? 24).map (·.size) = some d.length by rw [HD.out]; exact Tryd.infoId)
      go_upto_region 6 with (fail)
      refine wp_region_class (fun w' => SS w2 w') (by kernel_rfl) (by kernel_rfl) (SS.start HK2.out) ?_
      repeat (first | (refine wpQuiet_want (by rfl) (fun K hK => ?_); refine quiet_load_nums 24 _ rfl w1.heap.size .u8 d 24 _ rfl (fun w' h => HC2.out.below h.1) Tryd.underlying24 rfl HI.out ?_; refine hK _ ?_; clear hK K; simp only [Act.put, List.setIfInBounds_toArray, List.set_cons_zero, List.set_cons_succ]) | go_big_quiet_step ((intro hs; first
        | rfl
        | (go_at_call 14; exact (dev_at HS2 HN HL1 HLB hs).mono fun e w' h => ⟨h.1, hs.next h.2⟩)
        | (go_at_call 15; exact (ref_at HS2 HN HL1 HLB hs).mono fun e w' h => ⟨h.1, hs.next h.2⟩)
        | (go_at_call 16; exact (dev_cut d _ HD.out).mono fun e w' h => ⟨h.1, hs.next h.2⟩)
        | (go_at_call 17; exact (ref_cut d _ HD.out).mono fun e w' h => ⟨h.1, hs.next h.2⟩)
        | (go_at_call 18; exact (dev_hex d _ HD.out HDL.out).mono fun e w' h => ⟨h.1, hs.next h.2⟩)
        | (go_at_call 19; exact (ref_hex d _ HD.out HDL.out).mono fun e w' h => ⟨h.1, hs.next h.2⟩))))
      refine wpQuiet_nil ?_
      intro w' hs'
      go_wp2_with fail
      go_ret
      exact ⟨rfl, HB2.out.trans (hs'.1.mono HB2.out.size)⟩
end Go.Proofs.YtolnbifpnoghlaaDoor.shaSums
