/-
  bytes.Compare (its assembly is the model's own entry, by the kit's law), and the developers' Compare.
-/
import Derived.Test.YthgfpojfnhkckaaDoorOpAt
import Derived.Lib.Bytealg
import Derived.Lib.BytesEntry
namespace Go.Proofs.YthgfpojfnhkckaaDoor
open Go.RowKit Go.BigFrame

theorem run_compareAt {P : Program} (w : World) (a b : Addr) (n m c d : Nat) (xs ys : List Int) (hx : xs.length = n) (hy : ys.length = m) (h1 : ∀ j x, xs[j]? = some x → w.cell? (a.add j) = some (.int .u8 x)) (h2 : ∀ j x, ys[j]? = some x → w.cell? (b.add j) = some (.int .u8 x)) :
    (Extern.BytealgCompare.compare #[.slice (some a) n c, .slice (some b) m d]).run P w = .ok (.int .i64 (Lib.compareBytes (Lib.bytesOf xs) (Lib.bytesOf ys))) w := by
  subst hx hy
  have l1 := Lib.run_loadBytesX (P := P) w xs a .empty h1
  have l2 := Lib.run_loadBytesX (P := P) w ys b .empty h2
  have he : ∀ zs : List UInt8, (⟨ByteArray.empty.data ++ zs.toArray⟩ : ByteArray) = ⟨zs.toArray⟩ := fun zs => by
    apply ByteArray.ext
    show (#[] : Array UInt8) ++ zs.toArray = zs.toArray
    simp
  rw [he] at l1 l2
  change Sem.run P (do pure (goInt (Extern.BytealgCompare.cmp (← Extern.Bytes.bytesOf (.slice (some a) xs.length c)) (← Extern.Bytes.bytesOf (.slice (some b) ys.length d))))) w = _
  simp only [Extern.Bytes.bytesOf, Sem.run_bind, Sem.run_pure, l1, l2, Result.andThen]
  rw [Lib.cmp_eq]
  rfl
theorem cmpN_bytes : ∀ (a b : List UInt8), a.length = b.length → Lib.compareBytes a b = cmpN (byteNs a) (byteNs b)
  | [], [], _ => rfl
  | [], _ :: _, h => by cases h
  | _ :: _, [], h => by cases h
  | x :: a, y :: b, h => by
    have ih := cmpN_bytes a b (by simpa using h)
    rw [Lib.compareBytes, ih]
    simp only [UInt8.lt_iff_toNat_lt]
    rw [show byteNs (x :: a) = x.toNat :: byteNs a from rfl, show byteNs (y :: b) = y.toNat :: byteNs b from rfl, cmpN]
theorem bytesOf_nums (l : List Nat) : Lib.bytesOf (l.map fun (x : Nat) => (x : Int)) = txt l := by
  rw [Lib.bytesOf, List.map_map, txt]
  exact List.map_congr_left fun x _ => rfl
set_option maxHeartbeats 2000000 in
set_option maxRecDepth 100000 in
theorem bytes_compare (g h c d : Nat) (t u : TypeId) (a b : List Nat) (ha : IdOk a) (hb : IdOk b) (w : World) (h1 : Blk g t .u8 a w) (h2 : Blk h u .u8 b w) :
    Calls Tryd.prog 45 #[.slice (some ⟨g, 0, none⟩) 32 c, .slice (some ⟨h, 0, none⟩) 32 d] w fun e w' => e = .returned (.int .i64 (cmpN a b)) ∧ w' = w := by
  have hr := run_compareAt (P := Tryd.prog) w ⟨g, 0, none⟩ ⟨h, 0, none⟩ 32 32 c d (a.map fun (x : Nat) => (x : Int)) (b.map fun (x : Nat) => (x : Int)) (by rw [List.length_map, ha.1]) (by rw [List.length_map, hb.1])
    (fun j x hj => by
      rw [Addr.add_lit, Nat.zero_add, Lib.cell_of_heap h1 j, List.getElem?_toArray, nums, List.getElem?_map]
      rw [List.getElem?_map] at hj
      cases hq : a[j]? with
      | none => rw [hq] at hj; cases hj
      | some y => rw [hq] at hj; simp only [Option.map_some, Option.some.injEq] at hj ⊢; rw [← hj])
    (fun j x hj => by
      rw [Addr.add_lit, Nat.zero_add, Lib.cell_of_heap h2 j, List.getElem?_toArray, nums, List.getElem?_map]
      rw [List.getElem?_map] at hj
      cases hq : b[j]? with
      | none => rw [hq] at hj; cases hj
      | some y => rw [hq] at hj; simp only [Option.map_some, Option.some.injEq] at hj ⊢; rw [← hj])
  rw [bytesOf_nums, bytesOf_nums, cmpN_bytes _ _ (by rw [txt_len, txt_len, ha.1, hb.1]), byteNs_txt ha.2, byteNs_txt hb.2] at hr
  clear h1 h2
  go_enter Tryd.func45, Tryd.ntmps45
  go_wp2
  rw [run_callFunc_extern Tryd.func49 (by kernel_rfl) (by kernel_rfl) (by kernel_rfl) (e := Extern.BytealgCompare.compare) (by kernel_rfl), hr]
  simp only [Result.andThen]
  rw [Oper.upon_value]
  go_wp2
  go_ret
  exact ⟨rfl, rfl⟩
set_option maxHeartbeats 2000000 in
set_option maxRecDepth 100000 in
theorem dev_compare (a b : List Nat) (ha : IdOk a) (hb : IdOk b) (w : World) :
    Calls Tryd.prog 35 #[.agg (nums .u8 a).toArray, .agg (nums .u8 b).toArray] w fun e w' => e = .returned (.int .i64 (cmpN a b)) ∧ Below w.heap.size w w' := by
  have b1 : Below w.heap.size w (w.alloc (.cells (nums .u8 a).toArray 25)) := (Below.refl _ _).alloc (Nat.le_refl _) _
  have x1 : Blk w.heap.size 25 .u8 a (w.alloc (.cells (nums .u8 a).toArray 25)) := heap_alloc_new w _
  have s1 : (w.alloc (.cells (nums .u8 a).toArray 25)).heap.size = w.heap.size + 1 := World.size_alloc _ _
  have b2 : Below (w.alloc (.cells (nums .u8 a).toArray 25)).heap.size (w.alloc (.cells (nums .u8 a).toArray 25)) ((w.alloc (.cells (nums .u8 a).toArray 25)).alloc (.cells (nums .u8 b).toArray 25)) := (Below.refl _ _).alloc (Nat.le_refl _) _
  have x2 : Blk (w.alloc (.cells (nums .u8 a).toArray 25)).heap.size 25 .u8 b ((w.alloc (.cells (nums .u8 a).toArray 25)).alloc (.cells (nums .u8 b).toArray 25)) := heap_alloc_new _ _
  rw [s1] at x2
  have HX1 := Lib.hid (x1.below b2)
  have HX2 := Lib.hid x2
  have HB := Lib.hid (b1.trans (b2.mono b1.size))
  have HA := Lib.hid ha
  have HBB := Lib.hid hb
  clear b1 x1 s1 b2 x2 ha hb
  go_enter Tryd.func35, Tryd.ntmps35
  go_upto_region 1 with (fail)
  obtain ⟨w2, hw2⟩ : ∃ x, x = ((w.alloc (.cells (nums .u8 a).toArray 25)).alloc (.cells (nums .u8 b).toArray 25)) := ⟨_, rfl⟩
  rw [← hw2] at HX1 HX2 HB ⊢
  clear hw2
  have HC := Lib.hid (fun w' c d (q : Below w2.heap.size w2 w') => bytes_compare w.heap.size (w.heap.size + 1) c d _ _ a b HA.out HBB.out w' (HX1.out.below q) (HX2.out.below q))
  refine wp_region_class (fun w' => Below w2.heap.size w2 w') (by kernel_rfl) (by kernel_rfl) (Below.refl _ _).drew ?_
  repeat (first
    | go_big_quiet_skip
    | go_big_quiet_step ((intro hs'; first
        | (go_at_call 45; exact (HC.out _ _ _ hs').mono fun e w' h => ⟨h.1, h.2 ▸ hs'⟩)
        | rfl)))
  refine wpQuiet_nil ?_
  intro w4 hb4
  go_wp2_with fail
  go_ret
  exact ⟨rfl, HB.out.trans (hb4.mono HB.out.size)⟩
end Go.Proofs.YthgfpojfnhkckaaDoor
