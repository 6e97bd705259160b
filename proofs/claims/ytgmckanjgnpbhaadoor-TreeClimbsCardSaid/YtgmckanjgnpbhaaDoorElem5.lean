/-
  The law's elems.
-/
import Derived.Test.YtgmckanjgnpbhaaDoorRef5
import Derived.Great.BuildSlice
namespace Go.Proofs.YtgmckanjgnpbhaaDoor
open Go.RowKit Go.BigFrame

theorem Tryd.infoE16 : (Tryd.prog.info? 27).map (fun i => (i.zero, i.size, i.bytes)) = some (some (.agg (nums .u8 (List.replicate 16 0)).toArray), 16, 16) := by kernel_rfl
/-- A literal slice of one element. -/
theorem wpList_build_elem {P : Program} {ops : Array Oper} {rest : List Oper} {o : Oper} {a : Act} {w : World} {Q : Exit → Act → World → Prop} (hg : o.guard = none) (t e : TypeId) (x : Operand) (ho : o.op = .buildSlice t 1 #[(0, x)])
    (l : List Nat) (hx : a.eval x = .agg (nums .u8 l).toArray) (hl : l.length = 16) (ht : P.underlying t = some (.slice e)) (hinfo : (P.info? e).map (fun i => (i.zero, i.size, i.bytes)) = some (some (.agg (nums .u8 (List.replicate 16 0)).toArray), 16, 16))
    (h : ∀ w', Hid (Blk w.heap.size e .u8 l w') → Hid (Below w.heap.size w w') → wpList P ops Q rest (a.put o.dst (.slice (some ⟨w.heap.size, 0, none⟩) 1 1)) w') : wpList P ops Q (o :: rest) a w := by
  obtain ⟨ie, hi, hz0, hz1, _⟩ := info_parts hinfo
  refine wpList_buildSlice hg t e 1 #[(0, x)] ho (nums .u8 l).toArray ie _ ht hi hz0 (by rw [hz1]; decide) (by rw [hz1]; decide) ?_ (h _ (heap_alloc_new w _) ((Below.refl _ w).alloc (Nat.le_refl _) _))
  rw [hz1]
  have h1 := Great.fill_whole (s := 16) (by decide) [Value.agg (nums .u8 l).toArray] ((Array.range (1 * 16)).map ((Value.agg (nums .u8 (List.replicate 16 0)).toArray).cells[· % (Value.agg (nums .u8 (List.replicate 16 0)).toArray).cells.size]!))
    (fun v hv => by obtain rfl := List.mem_singleton.1 hv; show (nums .u8 l).toArray.size = 16; rw [List.size_toArray, nums_len, hl]) (by simp)
  have e1 : ((#[(0, x)] : Array (Nat × Operand)).map fun (i, x) => (i, a.eval x)).toList = ([Value.agg (nums .u8 l).toArray].zipIdx 0).map fun x => (x.2, x.1) := by
    simp [hx, List.zipIdx_cons]
  have e2 : ([Value.agg (nums .u8 l).toArray].flatMap fun v => v.cells.toList).toArray = (nums .u8 l).toArray := by
    rw [List.flatMap_cons, List.flatMap_nil, List.append_nil]
    rfl
  rw [e1, h1, e2]
theorem take_next {L : List (List Nat)} {k : Nat} (h : k < L.length) : L.take (k + 1) = L.take k ++ [L.getD k []] := by
  rw [List.take_succ_eq_append_getElem h, List.getD_eq_getElem?_getD, List.getElem?_eq_getElem h]
  rfl
theorem take_len {L : List (List Nat)} {k : Nat} (h : k ≤ L.length) : (L.take k).length = k := by rw [List.length_take]; omega

set_option maxHeartbeats 1000000 in
set_option maxRecDepth 100000 in
theorem elems_any (L : List (List Nat)) (ao : Option Addr) (cap : Nat) (w : World) (hL : Elems L) (hE : EAt ao L w) (hn : L.length ≤ 8796093021952) :
    Calls Tryd.prog 9 #[.slice ao L.length cap] w fun e w' => (∃ v, e = .returned v ∧ OwnE w.heap.size 27 v L w') ∧ Below w.heap.size w w' := by
  have HE := Lib.hid hE
  have LE := Lib.hid hL
  clear hE hL
  go_enter Tryd.func9, Tryd.ntmps9
  go_wp2_with fail
  go_loopw [3, 8] (fun v n wq => ∃ k : Nat, k ≤ L.length ∧ n = .int .i64 k ∧ OwnE w.heap.size 27 v (L.take k) wq ∧ Below w.heap.size w wq) (fun _ n _ => L.length - (intOf n).toNat)
  case atStart => exact ⟨0, by omega, rfl, by rw [List.take_zero]; exact OwnE.nil _ _ _, Below.refl _ _⟩
  case round =>
    obtain ⟨k, hk, rfl, ho, hb⟩ := hrel
    have HB := Lib.hid hb
    by_cases hlk : k < L.length
    · obtain ⟨a1, c1, rfl⟩ := ho.form
      rw [take_len hk] at ho ⊢
      have HO := Lib.hid ho
      obtain ⟨b, o, rfl, hbb⟩ := HE.out.some (by omega)
      have HX := Lib.hid (rangeAt_below (HE.out.get hlk) hb hbb)
      obtain ⟨hx1, hx2⟩ := LE.out.getD hlk
      have HT := Shut.mk (take_next hlk)
      have HTL := Shut.mk (take_len hk)
      have LT := Lib.hid (LE.out.take k)
      obtain ⟨x, hx⟩ : ∃ x, L.getD k [] = x := ⟨_, rfl⟩
      obtain ⟨M, hM⟩ : ∃ M, L.take k = M := ⟨_, rfl⟩
      rw [hx] at hx1 hx2 HX HT
      rw [hM] at HO HT HTL LT
      have HX1 := Lib.hid hx1
      have HX2 := Lib.hid hx2
      clear hx1 hx2 hx hM ho hb
      have HI := Lib.hid (show (Tryd.prog.info? 26).map (·.size) = some x.length by rw [HX1.out]; kernel_rfl)
      have HLX := Lib.hid (show (List.replicate 16 0).length = x.length by rw [HX1.out]; rfl)
      have HX8 := Lib.hid (show Blk wr.heap.size 26 .u8 (List.replicate 16 0) (wr.alloc (.cells (nums .u8 (List.replicate 16 0)).toArray 26)) from heap_alloc_new wr _)
      go_wp2_with (first
        | (refine wpList_load_elem rfl 26 _ rfl b (o + k * 16) x _ rfl HX.out Tryd.underlying26 rfl HI.out ?_)
        | (refine wpList_store_nums rfl 26 _ _ rfl rfl wr.heap.size .u8 _ x 26 rfl rfl HX8.out HI.out HLX.out ?_))
      intro w2 hc' hb'
      have hb2 : Below wr.heap.size wr w2 := But.toBelow ((Below.refl _ wr).alloc (Nat.le_refl _) _) hb'.out (Nat.le_refl _) (by simp)
      have HY2 := Lib.hid (show Blk wr.heap.size 26 .u8 x w2 from hc'.out)
      have HO2 := Lib.hid (HO.out.below hb2)
      have HB2 := Lib.hid (HB.out.trans (hb2.mono HB.out.size))
      obtain ⟨gy, hgy⟩ : ∃ g, g = wr.heap.size := ⟨_, rfl⟩
      rw [← hgy] at HY2 ⊢
      clear hc' hb' hb2 hgy HO HB HX8 HLX
      go_wp2_with (first
        | (refine wpList_load_nums rfl 26 _ rfl gy .u8 _ 26 _ rfl HY2.out Tryd.underlying26 rfl HI.out ?_)
        | (refine wpList_build_elem rfl 24 27 (.tmp 13) rfl x rfl HX1.out Tryd.underlying24 Tryd.infoE16 ?_))
      intro w3 hl3 hb3
      have HL3 := Lib.hid (blk_news hl3.out)
      have HO3 := Lib.hid (HO2.out.below hb3.out)
      have HB3 := Lib.hid (HB2.out.trans (hb3.out.mono HB2.out.size))
      clear hl3 hb3 HO2 HB2 HY2
      go_wp2_with (at_builtin; refine wpList_append_elems rfl (.tmp 12) (.tmp 14) 24 27 rfl w.heap.size _ rfl Tryd.underlying24 Tryd.infoE16 _ M [x] (Elems.one HX1.out HX2.out) ⟨w2.heap.size, 0, none⟩ 1 1 rfl rfl HO3.out rfl (by rw [flatE_one]; exact HL3.out) (by rw [HTL.out]; simp; omega) HB3.out.size ?_)
      intro v4 w4 ho4 hb4
      have HB4 := Lib.hid (HB3.out.trans hb4.out)
      clear hb4 HB3
      go_wp2_with fail
      exact ⟨⟨k + 1, by omega, by go_num, by rw [HT.out]; exact ho4.out, HB4.out⟩, by simp [intOf]; omega⟩
    · obtain rfl : k = L.length := by omega
      rw [List.take_length] at ho
      have HO := Lib.hid ho
      clear hb ho
      go_wp2_with fail
      go_ret
      exact ⟨⟨_, rfl, HO.out⟩, HB.out⟩
end Go.Proofs.YtgmckanjgnpbhaaDoor
