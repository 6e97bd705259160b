/-
  What the laws of layer 5 ask first.
-/
import Derived.Test.YtgmckanjgnpbhaaDoorRootP
namespace Go.Proofs.YtgmckanjgnpbhaaDoor
open Go.RowKit Go.BigFrame

theorem eAt_one {g : Nat} {t : TypeId} {x : List Nat} {w : World} (h : Blk g t .u8 x w) : EAt (some ⟨g, 0, none⟩) [x] w := by
  refine .inr ⟨g, 0, rfl, h.lt, fun i hi j v hv => ?_⟩
  obtain rfl : i = 0 := by simpa using hi
  have := blk_news h j v hv
  rw [Addr.add_lit] at this
  simpa using this
def fiveE : List Nat := 5 :: List.replicate 15 0
theorem fiveE_lt : ∀ x ∈ fiveE, x < 256 := by decide

set_option maxHeartbeats 1000000 in
set_option maxRecDepth 100000 in
theorem alive5_any (w : World) (hk : KAt w) :
    Calls Tryd.prog 8 #[] w fun e w' => e = .returned (.bool true) ∧ Below w.heap.size w w' := by
  have HK := Lib.hid hk
  clear hk
  go_enter Tryd.func8, Tryd.ntmps8
  go_wp2_with (refine wpList_build_elem rfl 24 27 (.tmp 4) rfl fiveE rfl rfl Tryd.underlying24 Tryd.infoE16 ?_)
  intro w1 hl1 hb1
  have HB1 := Lib.hid hb1.out
  have HE1 := Lib.hid (eAt_one hl1.out)
  have HK1 := Lib.hid (HK.out.below hb1.out)
  clear hl1 hb1 HK
  go_wp2_with fail
  refine (dev_root [fiveE] 0 (some ⟨w.heap.size, 0, none⟩) 1 w1 (Elems.one rfl fiveE_lt) HE1.out (by decide) rfl (by decide) HK1.out).mono ?_
  rintro e w2 ⟨rfl, hb2⟩
  rw [show atN [fiveE] 0 0 = fiveE from rfl]
  have HB2 := Lib.hid (HB1.out.trans (hb2.mono HB1.out.size))
  clear hb2 HB1 HE1 HK1
  have HX := Lib.hid (show Blk w2.heap.size 27 .u8 (List.replicate 16 0) (w2.alloc (.cells (nums .u8 (List.replicate 16 0)).toArray 27)) from heap_alloc_new w2 _)
  go_wp2_with (refine wpList_store_nums rfl 27 _ _ rfl rfl w2.heap.size .u8 _ fiveE 27 rfl rfl HX.out Tryd.infoE rfl ?_)
  intro w5 hc hb
  have HX5 := Lib.hid (show Blk w2.heap.size 27 .u8 fiveE w5 from hc.out)
  have hb5 : Below w2.heap.size w2 w5 := But.toBelow ((Below.refl _ w2).alloc (Nat.le_refl _) _) hb.out (Nat.le_refl _) (by simp)
  have HB5 := Lib.hid (HB2.out.trans (hb5.mono HB2.out.size))
  obtain ⟨gx, hgx⟩ : ∃ g, g = w2.heap.size := ⟨_, rfl⟩
  rw [← hgx] at HX5 ⊢
  clear hc hb hb5 HX HB2 hgx
  have heq : ∀ w, (Op.equalIn 10000 27 (.agg (nums .u8 fiveE).toArray) (.agg #[.int .u8 5, .int .u8 0, .int .u8 0, .int .u8 0, .int .u8 0, .int .u8 0, .int .u8 0, .int .u8 0, .int .u8 0, .int .u8 0, .int .u8 0, .int .u8 0, .int .u8 0, .int .u8 0, .int .u8 0, .int .u8 0])).run Tryd.prog w = .ok true w := fun w => by
    have h := equal_elem fiveE fiveE rfl rfl fiveE_lt fiveE_lt w
    rw [show (fiveE == fiveE) = true by decide] at h
    exact h
  go_wp2_with (refine wpList_load_want (by rfl) 27 _ rfl gx .u8 _ 27 _ rfl HX5.out Tryd.underlying27 rfl Tryd.infoE ?_)
  go_ret
  exact ⟨rfl, HB5.out⟩
end Go.Proofs.YtgmckanjgnpbhaaDoor
