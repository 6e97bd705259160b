/-
  The developers' Meet.
-/
import Derived.Test.YtlgmlnhjanjplaaDoorOnceF
import Derived.Laws.ResultCell
namespace Go.Proofs.YtlgmlnhjanjplaaDoor
open Go.RowKit Go.BigFrame

/-- Two results, of which the first lies in a block of numbers. -/
theorem results_nums_tmp {P : Program} {fn : Func} {p u : Tmp} {ty : TypeId} (h : fn.results = #[.cell p ty, .tmp u]) (tmps : Array Value) (w : World) (g : Nat) (k : IntKind) (l : List Nat) (t : TypeId) (d : TypeDesc) (v : Value)
    (hp : tmps.getD p undef = .pointer (some ⟨g, 0, none⟩)) (hv : tmps.getD u undef = v) (hg : Blk g t k l w)
    (hu : P.underlying ty = some d) (hd : (match d with | .struct _ | .array _ _ => true | _ => false) = true) (hi : (P.info? ty).map (·.size) = some l.length) :
    (results fn tmps).run P w = .ok (.tuple #[.agg (nums k l).toArray, v]) w := by
  rw [results_cell_tmp h, hp, hv]
  simp [asAddr, Result.andThen, run_loadVar_row w g t ty _ (0, 0) d hg hu hd (by rw [nums_size]; exact hi)]

theorem meetN_of (sig : List UInt8) (i : Int) (d : List Nat) : keyN (rowE (fromF sig i (digN d)) 35) i = meetN sig i d := rfl
theorem rowE_len' {f : Nat → List Nat} {k : Nat} (hf : ∀ j, j < k → (f j).length = 16) : (rowE f k).length = 16 * k := by
  rw [← txt_rowN, txt_len, rowN_len' hf]

set_option maxHeartbeats 4000000 in
set_option maxRecDepth 100000 in
theorem dev_meet (sig : List UInt8) (i : Int) (d : List Nat) (w : World) (hs : sig.length = 560) (hi0 : -9223372036854775808 ≤ i) (hi : i ≤ 9223372036854775807) (hd : d.length = 16) (ld : ∀ y ∈ d, y < 256) (hk : KAt w) :
    Calls Tryd.prog 14 #[.string ⟨sig.toArray⟩, .int .i64 i, .agg (nums .u8 d).toArray] w fun e w' => e = .returned (.tuple #[.agg (nums .u8 (meetN sig i d)).toArray, .int .i64 0]) ∧ Below w.heap.size w w' := by
  have HS := Lib.hid hs
  have HK := Lib.hid hk
  have HD := Lib.hid hd
  have LD := Lib.hid ld
  have HI0 := Lib.hid hi0
  have HI1 := Lib.hid hi
  clear hs hk hi0 hi hd ld
  go_enter Tryd.func14, Tryd.ntmps14
  go_upto_region 1 with (fail)
  change Code.wp _ _ _ _ ((w.alloc (.cells (nums .u8 d).toArray 24)).alloc (.cells (nums .u8 (List.replicate 16 0)).toArray 24))
  obtain ⟨w1, hw1⟩ : ∃ x', x' = (w.alloc (.cells (nums .u8 d).toArray 24)).alloc (.cells (nums .u8 (List.replicate 16 0)).toArray 24) := ⟨_, rfl⟩
  rw [← hw1]
  have h3 : Blk w.heap.size 24 .u8 d w1 ∧ Blk (w.heap.size + 1) 24 .u8 (List.replicate 16 0) w1 ∧ Below w.heap.size w w1 := by rw [hw1]; exact two_new w _ _ _ _
  obtain ⟨hx1, hr1, hb1⟩ := h3
  have HD1 := Lib.hid hx1
  have HR1 := Lib.hid hr1
  have HB1 := Lib.hid hb1
  have HK1 := Lib.hid (HK.out.below hb1)
  have HI := Lib.hid (show (Tryd.prog.info? 24).map (·.size) = some d.length by rw [HD.out]; exact Tryd.infoE)
  obtain ⟨gr, hgr⟩ : ∃ g, g = w.heap.size + 1 := ⟨_, rfl⟩
  rw [← hgr] at HR1 ⊢
  have HGR := Lib.hid hgr
  clear hx1 hr1 hb1 hw1 HK hgr
  have hlen := HS.out
  go_wp2_with (refine wpList_load_nums rfl 24 _ rfl w.heap.size .u8 _ 24 _ rfl HD1.out Tryd.underlying24 rfl HI.out ?_)
  refine (dev_digits d _ HD.out LD.out).mono ?_
  rintro e w2 ⟨rfl, hb2⟩
  have HB2 := Lib.hid (HB1.out.trans (hb2.mono HB1.out.size))
  have HK2 := Lib.hid (HK1.out.below hb2)
  have HR2 := Lib.hid (HR1.out.below hb2)
  clear hb2 HB1 HK1 HD1 HR1
  go_wp2_with fail
  refine (dev_ends sig i (digN d) _ HS.out HI0.out HI1.out (digN_len HD.out) (digN_lt HD.out LD.out) HK2.out).mono ?_
  rintro e w3 ⟨rfl, hb3⟩
  have HB3 := Lib.hid (HB2.out.trans (hb3.mono HB2.out.size))
  have HK3 := Lib.hid (HK2.out.below hb3)
  have HR3 := Lib.hid (HR2.out.below hb3)
  have HEL := Lib.hid (show (rowE (fromF sig i (digN d)) 35).length ≤ 4000 by rw [rowE_len' (k := 35) fun j hj => fromF_len HS.out i _ hj]; decide)
  have HMN := Lib.hid (meetN_of sig i d)
  clear hb3 HB2 HK2 HR2 hlen
  generalize rowE (fromF sig i (digN d)) 35 = E at *
  go_wp2_with fail
  refine (dev_key E i _ HEL.out HI0.out HI1.out HK3.out).mono ?_
  rintro e w4 ⟨rfl, hb4⟩
  have HR4 := Lib.hid (HR3.out.below hb4)
  have HB4 := Lib.hid (HB3.out.trans (hb4.mono HB3.out.size))
  have HNL := Lib.hid (show (keyN E i).length = 16 from keyN_len _ _)
  clear hb4 HR3 HB3 HK3 HEL
  generalize keyN E i = N at *
  have HI := Lib.hid (show (Tryd.prog.info? 24).map (·.size) = some N.length by rw [HNL.out]; exact Tryd.infoE)
  have HL2 := Lib.hid (show (List.replicate 16 0).length = N.length by rw [HNL.out]; rfl)
  go_wp2_with (refine wpList_store_nums rfl 24 _ _ rfl rfl gr .u8 _ N 24 rfl rfl HR4.out HI.out HL2.out ?_)
  intro w7 hc' hb'
  have HC7 := Lib.hid (show Blk gr 24 .u8 N w7 from hc'.out)
  have HB7 := Lib.hid (show Below w.heap.size w w7 from But.toBelow HB4.out hb'.out (by have := HGR.out; omega) HB4.out.size)
  clear hc' hb'
  go_wp2_with fail
  exact bodyPost_ret (results_nums_tmp rfl _ _ gr .u8 _ 24 _ _ rfl rfl HC7.out Tryd.underlying24 rfl HI.out) rfl ⟨by rw [← HMN.out]; rfl, HB7.out⟩

set_option maxHeartbeats 4000000 in
set_option maxRecDepth 100000 in
theorem dev_meet_not (sig : List UInt8) (i : Int) (d : List Nat) (w : World) (hs : sig.length ≠ 560) :
    Calls Tryd.prog 14 #[.string ⟨sig.toArray⟩, .int .i64 i, .agg (nums .u8 d).toArray] w fun e w' => e = .returned (.tuple #[.agg (nums .u8 (List.replicate 16 0)).toArray, .int .i64 4]) ∧ Below w.heap.size w w' := by
  have hlen : ((sig.length : Int) == 560) = false := by simp; omega
  have hle : (sig.length : Int) ≠ 560 := by omega
  go_enter Tryd.func14, Tryd.ntmps14
  go_upto_region 1 with (fail)
  change Code.wp _ _ _ _ ((w.alloc (.cells (nums .u8 d).toArray 24)).alloc (.cells (nums .u8 (List.replicate 16 0)).toArray 24))
  obtain ⟨w1, hw1⟩ : ∃ x', x' = (w.alloc (.cells (nums .u8 d).toArray 24)).alloc (.cells (nums .u8 (List.replicate 16 0)).toArray 24) := ⟨_, rfl⟩
  rw [← hw1]
  have h3 : Blk w.heap.size 24 .u8 d w1 ∧ Blk (w.heap.size + 1) 24 .u8 (List.replicate 16 0) w1 ∧ Below w.heap.size w w1 := by rw [hw1]; exact two_new w _ _ _ _
  obtain ⟨hx1, hr1, hb1⟩ := h3
  have HR1 := Lib.hid hr1
  have HB1 := Lib.hid hb1
  obtain ⟨gr, hgr⟩ : ∃ g, g = w.heap.size + 1 := ⟨_, rfl⟩
  rw [← hgr] at HR1 ⊢
  have HGR := Lib.hid hgr
  clear hx1 hr1 hb1 hw1 hgr
  go_wp2_with (refine wpList_store_nums rfl 24 _ _ rfl rfl gr .u8 _ (List.replicate 16 0) 24 rfl rfl HR1.out Tryd.infoE rfl ?_)
  intro w7 hc' hb'
  have HC7 := Lib.hid (show Blk gr 24 .u8 (List.replicate 16 0) w7 from hc'.out)
  have HB7 := Lib.hid (show Below w.heap.size w w7 from But.toBelow HB1.out hb'.out (by have := HGR.out; omega) HB1.out.size)
  clear hc' hb'
  go_wp2_with fail
  exact bodyPost_ret (results_nums_tmp rfl _ _ gr .u8 _ 24 _ _ rfl rfl HC7.out Tryd.underlying24 rfl Tryd.infoE) rfl ⟨rfl, HB7.out⟩
end Go.Proofs.YtlgmlnhjanjplaaDoor
