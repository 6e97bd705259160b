/-
  The developers' New.
-/
import Derived.Test.YtcjjhddppcmgoaaDoorKeysAt
namespace Go.Proofs.YtcjjhddppcmgoaaDoor
open Go.RowKit Go.BigFrame

theorem fold_layK (off : Nat) : ∀ (vs : List Value) (cs : Array Value) (k : Nat), List.foldl (fun (cs : Array Value) (x : Value × Nat) => cs.setIfInBounds (off + x.2) x.1) cs (vs.zipIdx k) = (layL cs.toList (off + k) vs).toArray
  | [], cs, k => by simp [layL]
  | v :: r, cs, k => by rw [List.zipIdx_cons, List.foldl_cons, fold_layK off r, layL]; simp [Nat.add_assoc]
theorem layL_next (a : Value) : ∀ (vs xs : List Value) (o : Nat), layL (a :: xs) (o + 1) vs = a :: layL xs o vs
  | [], _, _ => rfl
  | v :: r, xs, o => by rw [layL, layL, List.set_cons_succ, layL_next a r]
theorem keys_fill (parts : List (Nat × Value)) : Tryd.prog.built 54 parts = Instr.fill (fun i => (#[(0, 1), (1, 1), (2, 17)] : Array (Nat × Nat))[i]?) (keysV [] none 0 0 (List.replicate 16 0) 0) parts := by kernel_rfl
theorem built_keys (s : List UInt8) (ao : Option Addr) (n cap : Nat) (r : List Nat) (h : Int) (hr : r.length = 16) :
    Tryd.prog.built 54 [(0, .string ⟨s.toArray⟩), (1, .slice ao n cap), (2, .agg (nodeV r h))] = some (keysV s ao n cap r h) := by
  have hN : (nodeV r h).size = 17 := by rw [nodeV, List.size_toArray, List.length_append, nums_len, hr]; rfl
  have hs0 : (keysV [] none 0 0 (List.replicate 16 0) 0).size = 19 := by rfl
  have hs1 : (keysV s none 0 0 (List.replicate 16 0) 0).size = 19 := by rfl
  have hs2 : (keysV s ao n cap (List.replicate 16 0) 0).size = 19 := by rfl
  rw [keys_fill, fill_next _ _ 0 _ _ 0 1 rfl rfl (by rw [hs0]; decide)]
  rw [show List.foldl (fun (cs : Array Value) (x : Value × Nat) => cs.setIfInBounds (0 + x.2) x.1) (keysV [] none 0 0 (List.replicate 16 0) 0) (Value.string ⟨s.toArray⟩).cells.toList.zipIdx = keysV s none 0 0 (List.replicate 16 0) 0 from rfl]
  rw [fill_next _ _ 1 _ _ 1 1 rfl rfl (by rw [hs1]; decide)]
  rw [show List.foldl (fun (cs : Array Value) (x : Value × Nat) => cs.setIfInBounds (1 + x.2) x.1) (keysV s none 0 0 (List.replicate 16 0) 0) (Value.slice ao n cap).cells.toList.zipIdx = keysV s ao n cap (List.replicate 16 0) 0 from rfl]
  rw [fill_next _ _ 2 _ _ 2 17 rfl (by show (nodeV r h).size = 17; exact hN) (by rw [hs2]; decide)]
  rw [show (Value.agg (nodeV r h)).cells.toList = nums .u8 r ++ [Value.int .i64 h] from rfl, fold_layK 2, show (keysV s ao n cap (List.replicate 16 0) 0).toList = Value.string ⟨s.toArray⟩ :: Value.slice ao n cap :: (nums .u8 (List.replicate 16 0) ++ [Value.int .i64 0]) from rfl, layL_next, layL_next]
  have e := lay_head (vs := nums .u8 r ++ [Value.int .i64 h]) (xs := nums .u8 (List.replicate 16 0) ++ [Value.int .i64 0]) (ys := []) (by simp [nums_len, hr])
  rw [List.append_nil, List.append_nil] at e
  rw [e]
  rfl
theorem quiet_build_keys {o : Oper} {a : Act} {C : World → Prop} {K : Act → Prop} (x y z : Operand) (ho : o.op = .build 54 #[(0, x), (1, y), (2, z)]) (s : List UInt8) (ao : Option Addr) (n cap : Nat) (r : List Nat) (h : Int)
    (hx : a.eval x = .string ⟨s.toArray⟩) (hy : a.eval y = .slice ao n cap) (hz : a.eval z = .agg (nodeV r h)) (hr : r.length = 16) (hk : K (a.put o.dst (.agg (keysV s ao n cap r h)))) : o.quiet Tryd.prog a C K := by
  refine ⟨_, fun w hw => ?_, hk⟩
  have e : ((#[(0, x), (1, y), (2, z)] : Array (Nat × Operand)).map fun (i, x) => (i, a.eval x)) = #[(0, .string ⟨s.toArray⟩), (1, .slice ao n cap), (2, .agg (nodeV r h))] := by simp [hx, hy, hz]
  have hb := run_build (P := Tryd.prog) w 54 #[(0, .string ⟨s.toArray⟩), (1, .slice ao n cap), (2, .agg (nodeV r h))] _ (built_keys s ao n cap r h hr)
  unfold Oper.quietAt execOp
  simp only [ho, e, Sem.run_bind, hb, Result.andThen_ok]
  exact ⟨rfl, rfl⟩

set_option maxHeartbeats 1000000 in
set_option maxRecDepth 100000 in
theorem dev_new_not (seed : List UInt8) (h : Int) (w : World) (_hs : seed.length ≤ 4000) (hb : 64 < seed.length ∨ h < 1 ∨ 8 < h) :
    Calls Tryd.prog 9 #[.string ⟨seed.toArray⟩, .int .i64 h] w fun e w' => e = .returned (.tuple #[.pointer none, .int .i64 1]) ∧ Below w.heap.size w w' := by
  by_cases hl : 64 < seed.length
  · have hl2 : (64 : Int) < (seed.length : Int) := by omega
    clear hb
    go_enter Tryd.func9, Tryd.ntmps9
    go_wp2_with fail
    go_ret2
    exact ⟨rfl, Below.refl _ _⟩
  · have hl2 : ¬ (64 : Int) < (seed.length : Int) := by omega
    have hd : decide (1 ≤ h ∧ h ≤ 8) = false := decide_eq_false (by omega)
    have HD := Shut.mk hd
    clear hb hd
    go_enter Tryd.func9, Tryd.ntmps9
    go_wp2_with fail
    refine (dev_valid h w false HD.out).mono ?_
    rintro e w1 ⟨rfl, rfl⟩
    go_wp2_with fail
    go_ret2
    exact ⟨rfl, Below.refl _ _⟩

set_option maxHeartbeats 4000000 in
set_option maxRecDepth 100000 in
theorem dev_new (seed : List UInt8) (h : Nat) (w : World) (hs : seed.length ≤ 64) (h1 : 1 ≤ h) (h8 : h ≤ 8) (hk : KAt w) :
    Calls Tryd.prog 9 #[.string ⟨seed.toArray⟩, .int .i64 h] w fun e w' => (∃ v, e = .returned (.tuple #[v, .int .i64 0]) ∧ KeysIs v seed h w') ∧ Below w.heap.size w w' := by
  obtain ⟨i0, hi, hz0, hz1, hz2⟩ := info_parts Tryd.infoE16
  have HIF := Lib.hid hi
  have HZ0 := Lib.hid hz0
  have HZ1 := Lib.hid hz1
  have HZ2 := Lib.hid hz2
  have HK := Lib.hid hk
  have hsh := shl_two h8
  have HG := Shut.mk (goodN_two h8)
  have hN8 := two_le h8
  have HLL := Shut.mk (leavesN_len seed (2 ^ h))
  have HLO := Lib.hid (leavesN_ok seed (2 ^ h))
  have HRK := Shut.mk (show atN (leavesN seed (2 ^ h)) h 0 = rootK seed h from rfl)
  have HRO := Lib.hid (rootK_ok seed h)
  have HD := Shut.mk (show decide (1 ≤ (h : Int) ∧ (h : Int) ≤ 8) = true from decide_eq_true ⟨by omega, by omega⟩)
  have HIS := Lib.hid (fun (g : Nat) (ao : Option Addr) (cap : Nat) (w' : World) (hc : Cells g 54 (keysV seed ao (2 ^ h) cap (rootK seed h) h) w') (he : EAt ao (leavesN seed (2 ^ h)) w') => show KeysIs (.pointer (some ⟨g, 0, none⟩)) seed h w' from ⟨⟨g, ao, cap, rfl, hc, he⟩, h1, h8, hs⟩)
  obtain ⟨R, hR⟩ : ∃ R, rootK seed h = R := ⟨_, rfl⟩
  rw [hR] at HRK HRO HIS
  obtain ⟨N, hN⟩ : ∃ N, 2 ^ h = N := ⟨_, rfl⟩
  rw [hN] at hsh HG hN8 HLL HLO HRK HIS
  have HNE := Shut.mk hN
  have hsl : ¬ (64 : Int) < (seed.length : Int) := by omega
  have HS := Lib.hid hs
  have H8 := Lib.hid h8
  clear hi hz0 hz1 hz2 hk hR hN hs
  go_enter Tryd.func9, Tryd.ntmps9
  go_wp2_with fail
  refine (dev_valid h w true HD.out).mono ?_
  rintro e w1 ⟨rfl, rfl⟩
  go_wp2_with (at_make; refine wpList_make_full _ rfl _ _ 36 rfl w1.heap.size 31 i0 _ 16 Tryd.underlying36 HIF.out HZ0.out HZ1.out .i64 .i64 _ _ N rfl rfl hsh hsh (by rw [HZ2.out]; omega) (by unfold maxLen; omega) (Nat.le_refl _) ?_)
  intro w2 ho2 hg2
  have hb2 : Below w1.heap.size w1 w2 := (Below.refl w1.heap.size w1).grown hg2 (Nat.le_refl _) (by intro g hg; cases hg)
  have HO2 := Lib.hid (show OwnE w1.heap.size 31 (.slice (some ⟨w1.heap.size, 0, none⟩) N N) (partF seed N 0) w2 by rw [partF_zero]; exact OwnE.made ho2)
  have HB2 := Lib.hid hb2
  obtain ⟨g, hg⟩ : ∃ g, g = w1.heap.size := ⟨_, rfl⟩
  rw [← hg] at HO2 ⊢
  have HGW := Lib.hid (show w1.heap.size ≤ g by omega)
  clear ho2 hg2 hb2 hg hsh
  go_wp2_with fail
  go_loopw [24] (fun n wq => ∃ i : Nat, i ≤ N ∧ n = .int .i64 i ∧ OwnE g 31 (.slice (some ⟨g, 0, none⟩) N N) (partF seed N i) wq ∧ Below w1.heap.size w1 wq) (fun n _ => N - (intOf n).toNat)
  case atStart => exact ⟨0, by omega, rfl, HO2.out, HB2.out⟩
  case round =>
    clear HO2 HB2
    obtain ⟨i, hiN, rfl, ho, hb⟩ := hrel
    have HO := Lib.hid ho
    have HB := Lib.hid hb
    have HKr := Lib.hid (HK.out.below hb)
    clear ho hb
    by_cases hli : i < N
    · have hli2 : (i : Int) < (N : Int) := by omega
      have HPS := Shut.mk (partF_set seed hli)
      have HPE := Lib.hid (partF_ok seed N i)
      have HPL := Shut.mk (partF_len seed (Nat.le_of_lt hli))
      have HX1 := Lib.hid (leafN_len seed (i : Int))
      have HX2 := Lib.hid (leafN_lt seed (i : Int))
      have HLF := Lib.hid (fun w hk => dev_leaf seed (i : Int) w (Nat.le_trans HS.out (by decide)) (by omega) (by omega) hk)
      obtain ⟨x, hx⟩ : ∃ x, leafN seed (i : Int) = x := ⟨_, rfl⟩
      obtain ⟨P0, hP0⟩ : ∃ P0, partF seed N i = P0 := ⟨_, rfl⟩
      obtain ⟨P1, hP1⟩ : ∃ P1, partF seed N (i + 1) = P1 := ⟨_, rfl⟩
      have HP1 := Shut.mk hP1
      rw [hx] at HPS HX1 HX2 HLF
      rw [hP0] at HPS HPE HPL HO
      rw [hP1] at HPS
      clear hx hP0 hP1
      go_wp2_with fail
      refine (HLF.out wr HKr.out).mono ?_
      rintro e w3 ⟨rfl, hb3⟩
      have HO3 := Lib.hid (HO.out.below hb3)
      have HB3 := Lib.hid (HB.out.trans (hb3.mono HB.out.size))
      clear hb3 HO HB HKr HLF
      go_wp2_with (refine wpList_store_elem rfl 31 _ _ rfl rfl g g N N i (i * 16) 31 P0 x HPL.out.symm (Nat.mul_comm _ _) rfl rfl HO3.out HPE.out hli HX1.out HX2.out Tryd.infoE ?_)
      intro w4 ho4 hb4
      have HO4 := Lib.hid (show OwnE g 31 (.slice (some ⟨g, 0, none⟩) N N) P1 w4 by rw [← HPS.out]; exact ho4.out)
      have HB4 := Lib.hid (show Below w1.heap.size w1 w4 from But.toBelow HB3.out hb4.out HGW.out HB3.out.size)
      clear ho4 hb4 HO3 HB3 HPS HPE HPL
      go_wp2_with fail
      exact ⟨⟨i + 1, by omega, by go_num, by rw [HP1.out]; exact HO4.out, HB4.out⟩, by simp [intOf]; omega⟩
    · obtain rfl : i = N := by omega
      have hnw : ¬ (i : Int) < (i : Int) := by omega
      rw [partF_full] at HO
      have HEA := Lib.hid (HO.out.at HLO.out)
      have HRT := Lib.hid (fun w hE hk => dev_root (leavesN seed i) h (some ⟨g, 0, none⟩) i w HLO.out hE (by rw [HLL.out]; exact HG.out) (by rw [HLL.out, HNE.out]) H8.out hk)
      rw [HLL.out, HRK.out] at HRT
      have hRE := HRO.out
      have HIR := Lib.hid (show (Tryd.prog.info? 31).map (·.size) = some R.length by rw [hRE.1]; exact Tryd.infoE)
      have HLR := Lib.hid (show (List.replicate 16 0).length = R.length by rw [hRE.1]; rfl)
      clear hRE HO
      go_wp2_with fail
      refine (HRT.out wr HEA.out HKr.out).mono ?_
      rintro e w3 ⟨rfl, hb3⟩
      have HE3 := Lib.hid (HEA.out.below hb3)
      have HB3 := Lib.hid (HB.out.trans (hb3.mono HB.out.size))
      clear hb3 HEA HB HKr HRT
      go_wp2_with (refine wpList_store_nums rfl 31 _ _ rfl rfl w3.heap.size .u8 (List.replicate 16 0) R 31 rfl rfl (heap_alloc_new w3 _) HIR.out HLR.out ?_)
      intro w4 hc4 hb4
      have ha3 : Below w3.heap.size w3 (w3.alloc (.cells (nums .u8 (List.replicate 16 0)).toArray 31)) := (Below.refl _ _).alloc (Nat.le_refl _) _
      have hb43 : Below w3.heap.size w3 w4 := But.toBelow ha3 hb4.out (Nat.le_refl _) ha3.size
      have HR4 := Lib.hid (show Blk w3.heap.size 31 .u8 R w4 from hc4.out)
      have HE4 := Lib.hid (HE3.out.below hb43)
      have HB4 := Lib.hid (HB3.out.trans (hb43.mono HB3.out.size))
      clear hc4 hb4 ha3 hb43 HE3 HB3 HLR
      obtain ⟨gr, hgr⟩ : ∃ g, g = w3.heap.size := ⟨_, rfl⟩
      rw [← hgr] at HR4 ⊢
      clear hgr
      go_upto_region 12 with (fail)
      refine wp_region_class_tail (fun w' => Below w4.heap.size w4 w') 7 (by kernel_rfl) (by kernel_rfl) (Below.refl _ _).drew ?_
      simp only [List.take_succ_cons, List.take_zero, List.drop_succ_cons, List.drop_zero]
      repeat (first
        | (go_big_quiet_want; refine quiet_load_nums 31 _ rfl gr .u8 R 31 _ rfl (fun w' h => HR4.out.below h) Tryd.underlying31 rfl HIR.out ?_; go_big_quiet_on; simp only [Act.put, List.setIfInBounds_toArray, List.set_cons_zero, List.set_cons_succ])
        | (go_big_quiet_want; refine quiet_build_node (.tmp 45) (.tmp 46) rfl R h rfl rfl HRO.out.1 ?_; go_big_quiet_on; simp only [Act.put, List.setIfInBounds_toArray, List.set_cons_zero, List.set_cons_succ])
        | (go_big_quiet_want; refine quiet_build_keys (.tmp 43) (.tmp 44) (.tmp 47) rfl seed (some ⟨g, 0, none⟩) i i R h rfl rfl rfl HRO.out.1 ?_; go_big_quiet_on; simp only [Act.put, List.setIfInBounds_toArray, List.set_cons_zero, List.set_cons_succ])
        | go_big_quiet_step ((intro hs'; first
            | rfl
            | (go_at_call 25; exact (clone6 _ _ (by have := HS.out; simp only [ByteArray.size, List.size_toArray]; omega)).mono fun e w' h => ⟨h.1, hs'.trans (h.2.mono hs'.size)⟩))))
      refine wpQuiet_nil ?_
      intro w5 hs5
      have HE5 := Lib.hid (HE4.out.below hs5)
      have HB5 := Lib.hid (HB4.out.trans (hs5.mono HB4.out.size))
      clear hs5 HE4 HB4 HR4
      go_wp2_with fail
      go_ret2
      have hba : Below w5.heap.size w5 (w5.alloc (.cells (keysV seed (some ⟨g, 0, none⟩) i i R h) 54)) := (Below.refl _ _).alloc (Nat.le_refl _) _
      exact ⟨⟨_, rfl, HIS.out w5.heap.size (some ⟨g, 0, none⟩) i _ (heap_alloc_new w5 _) (HE5.out.below hba)⟩, HB5.out.trans (hba.mono HB5.out.size)⟩
end Go.Proofs.YtcjjhddppcmgoaaDoor
