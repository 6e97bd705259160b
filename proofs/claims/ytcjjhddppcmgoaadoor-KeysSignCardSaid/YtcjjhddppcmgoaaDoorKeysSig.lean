/-
  The developers' Sign.
-/
import Derived.Test.YtcjjhddppcmgoaaDoorKeysSgn
namespace Go.Proofs.YtcjjhddppcmgoaaDoor
open Go.RowKit Go.BigFrame

theorem txt_byteNs (s : List UInt8) : txt (byteNs s) = s := by
  induction s with
  | nil => rfl
  | cons b s ih =>
    rw [byteNs, List.map_cons, txt, List.map_cons, show UInt8.ofNat b.toNat = b by simp]
    exact congrArg _ ih
/-- A signature's bytes while the path is pushed. -/
def sigL (S : List UInt8) (P : List (List Nat)) (k : Nat) : List Nat := byteNs S ++ (P.take k).flatten
theorem sigL_zero (S : List UInt8) (P : List (List Nat)) : sigL S P 0 = byteNs S := by simp [sigL]
theorem sigL_next (S : List UInt8) {P : List (List Nat)} {k : Nat} (h : k < P.length) : sigL S P (k + 1) = sigL S P k ++ P.getD k [] := by
  rw [sigL, sigL, take_next h, List.flatten_append, List.append_assoc]
  simp
theorem flatten_len {P : List (List Nat)} (h : Elems P) : P.flatten.length = 16 * P.length := by
  induction P with
  | nil => rfl
  | cons x P ih =>
    have h1 := (h x (by simp)).1
    have h2 := ih fun y hy => h y (by simp [hy])
    rw [List.flatten_cons, List.length_append, List.length_cons]
    omega
theorem sigL_len (S : List UInt8) {P : List (List Nat)} (hP : Elems P) {k : Nat} (h : k ≤ P.length) : (sigL S P k).length = S.length + 16 * k := by
  rw [sigL, List.length_append, byteNs_len, flatten_len (hP.take k), take_len h]
theorem sigL_lt (S : List UInt8) {P : List (List Nat)} (hP : Elems P) (k : Nat) : ∀ y ∈ sigL S P k, y < 256 := by
  intro y hy
  rw [sigL, List.mem_append] at hy
  rcases hy with hy | hy
  · exact byteNs_lt S y hy
  · obtain ⟨x, hx, hy⟩ := List.mem_flatten.1 hy
    exact ((hP.take k) x hx).2 y hy
theorem txt_flatten (P : List (List Nat)) : txt P.flatten = flatT P := by
  induction P with
  | nil => rfl
  | cons x P ih => rw [List.flatten_cons, txt_append, ih]; simp [flatT]
theorem sigL_full (S : List UInt8) (P : List (List Nat)) : txt (sigL S P P.length) = S ++ flatT P := by
  rw [sigL, List.take_length, txt_append, txt_byteNs, txt_flatten]

set_option maxHeartbeats 4000000 in
set_option maxRecDepth 100000 in
theorem dev_sign6 (v : Value) (seed : List UInt8) (h i : Nat) (t : List UInt8) (w : World) (k : KeysIs v seed h w) (hi : i < 2 ^ h) (ht : t.length ≤ 1000000) (hk : KAt w) :
    Calls Tryd.prog 10 #[v, .int .i64 i, .string ⟨t.toArray⟩] w fun e w' => e = .returned (.tuple #[.string ⟨(signK seed h i t).toArray⟩, .int .i64 0]) ∧ Below w.heap.size w w' := by
  obtain ⟨g, ao, cap, rfl, hc, he⟩ := k.lie
  have hN8 := two_le k.high
  have c1 := keys_leaves hc
  have HC := Lib.hid hc
  have HE := Lib.hid he
  have HK := Lib.hid hk
  have HPA := Lib.hid (fun w hE hk => dev_path (leavesN seed (2 ^ h)) h i ao cap w (leavesN_ok _ _) hE (by rw [leavesN_len]; exact goodN_two k.high) (leavesN_len _ _) k.high (by rw [leavesN_len]; exact hi) hk)
  rw [leavesN_len] at HPA
  have HRO := Lib.hid (rootK_ok seed h)
  have HPO := Lib.hid (pathK_ok seed hi)
  have HPL := Shut.mk (pathN_len (leavesN seed (2 ^ h)) i h)
  have HSS := Shut.mk (show signN seed i (digK (rootK seed h) i t) ++ flatT (pathN (leavesN seed (2 ^ h)) i h) = signK seed h i t from rfl)
  have hs4 : seed.length ≤ 4000 := Nat.le_trans k.short (by decide)
  have h8 := k.high
  have HDG := Lib.hid (fun w hk => dev_digest6 (rootK seed h) i t w (rootK_ok seed h).1 (rootK_ok seed h).2 (by omega) (by omega) ht hk)
  have HSG := Lib.hid (fun w hk => dev_sign seed i (digK (rootK seed h) i t) w hs4 (by omega) (by omega) (digK_len _ _ _) (digK_lt _ _ _) hk)
  have HSL := Shut.mk (signN_len seed i (digK (rootK seed h) i t))
  have HDL := Lib.hid (digK_len (rootK seed h) i t)
  obtain ⟨SG, hSG⟩ : ∃ SG, signN seed i (digK (rootK seed h) i t) = SG := ⟨_, rfl⟩
  rw [hSG] at HSS HSG HSL
  obtain ⟨D, hD⟩ : ∃ D, digK (rootK seed h) i t = D := ⟨_, rfl⟩
  rw [hD] at HDG HSG HDL
  obtain ⟨R, hR⟩ : ∃ R, rootK seed h = R := ⟨_, rfl⟩
  rw [hR] at HC HRO HDG
  obtain ⟨P, hP⟩ : ∃ P, pathN (leavesN seed (2 ^ h)) i h = P := ⟨_, rfl⟩
  rw [hP] at HPA HPO HPL HSS
  obtain ⟨L, hL⟩ : ∃ L, leavesN seed (2 ^ h) = L := ⟨_, rfl⟩
  rw [hL] at HE HPA
  obtain ⟨ST, hST⟩ : ∃ ST, signK seed h i t = ST := ⟨_, rfl⟩
  rw [hST] at HSS ⊢
  obtain ⟨N, hN⟩ : ∃ N, 2 ^ h = N := ⟨_, rfl⟩
  rw [hN] at HC HPA c1 hN8
  have HIR := Lib.hid (show (Tryd.prog.info? 31).map (·.size) = some R.length by rw [HRO.out.1]; exact Tryd.infoE)
  have HGL := Lib.hid HC.out.lt
  clear hc he hk hi k hSG hD hR hP hL hST hN hs4
  go_enter Tryd.func10, Tryd.ntmps10
  go_wp2_with fail
  refine (HPA.out w HE.out HK.out).mono ?_
  rintro e w3 ⟨⟨pv, rfl, hop⟩, hb3⟩
  obtain ⟨ap, cp, rfl⟩ := hop.form
  rw [HPL.out] at hop ⊢
  have HEP := Lib.hid (hop.at HPO.out)
  have HK3 := Lib.hid (HK.out.below hb3)
  have HC3 := Lib.hid (HC.out.below hb3)
  have HG3 := Lib.hid (show g < w3.heap.size from HC3.out.lt)
  have HB3 := Lib.hid hb3
  clear hop hb3 HK HC HE HPA c1
  go_upto_region 6 with (fail)
  refine wp_region_class_tail (fun w' => SS w3 w') 14 (by kernel_rfl) (by kernel_rfl) (SS.start HK3.out) ?_
  simp only [List.take_succ_cons, List.take_zero, List.drop_succ_cons, List.drop_zero]
  repeat (first
    | (go_big_quiet_want; refine quiet_load_cell 9 _ rfl ⟨g, 0, none⟩ (.string ⟨seed.toArray⟩) rfl (fun w' h => keys_seed (HC3.out.below h.1)) Tryd.isAgg9 ?_; go_big_quiet_on; simp only [Act.put, List.setIfInBounds_toArray, List.set_cons_zero, List.set_cons_succ])
    | (go_big_quiet_want; refine quiet_load_elem 31 _ rfl g 2 R _ rfl (fun w' h => keys_root (HC3.out.below h.1)) Tryd.underlying31 rfl HIR.out ?_; go_big_quiet_on; simp only [Act.put, List.setIfInBounds_toArray, List.set_cons_zero, List.set_cons_succ])
    | go_big_quiet_step ((intro hs'; first
        | rfl
        | (go_at_call 16; exact (HDG.out _ hs'.2).mono fun e w' h => ⟨h.1, hs'.next h.2⟩)
        | (go_at_call 27; exact (HSG.out _ hs'.2).mono fun e w' h => ⟨h.1, hs'.next h.2⟩))))
  refine wpQuiet_nil ?_
  intro w4 hs4
  have HEP4 := Lib.hid (HEP.out.below hs4.1)
  have HB4 := Lib.hid (HB3.out.trans (hs4.1.mono HB3.out.size))
  clear hs4 HEP HB3 HC3 HK3 HDG HSG
  obtain ⟨gb, cb, w5, hconv, ho5, hb5⟩ := conv_bytes SG w4 (by rw [HSL.out]; decide)
  have HO5 := Lib.hid (show OwnT w4.heap.size 5 .u8 (.slice (some ⟨gb, 0, none⟩) SG.length cb) (sigL SG P 0) w5 by rw [sigL_zero]; exact ho5)
  have HW5 := Lib.hid hb5
  clear ho5 hb5
  go_wp2_with fail
  clear hconv
  go_loopw [10, 43] (fun v n wq => ∃ k : Nat, k ≤ h ∧ n = .int .i64 k ∧ OwnT w4.heap.size 5 .u8 v (sigL SG P k) wq ∧ Below w4.heap.size w4 wq) (fun _ n _ => h - (intOf n).toNat)
  case atStart => exact ⟨0, by omega, rfl, HO5.out, HW5.out⟩
  case round =>
    clear HO5 HW5
    obtain ⟨k, hk, rfl, ho, hb⟩ := hrel
    obtain ⟨gv, cv, rfl⟩ := ho.form
    have HO := Lib.hid ho
    have HB := Lib.hid hb
    clear ho hb
    by_cases hlk : k < h
    · have hlk2 : (k : Int) < (h : Int) := by omega
      have hl : k < P.length := by rw [HPL.out]; exact hlk
      obtain ⟨b, o, rfl, hbb⟩ := HEP4.out.some (by omega)
      obtain ⟨hx1, hx2⟩ := HPO.out.getD hl
      have HX := Lib.hid (rangeAt_below (HEP4.out.get hl) HB.out hbb)
      have HNX := Shut.mk (sigL_next SG hl)
      have HSN := Shut.mk (sigL_len SG HPO.out (Nat.le_of_lt hl))
      obtain ⟨x, hx⟩ : ∃ x, P.getD k [] = x := ⟨_, rfl⟩
      rw [hx] at hx1 HX HNX
      obtain ⟨S0, hS0⟩ : ∃ S0, sigL SG P k = S0 := ⟨_, rfl⟩
      rw [hS0] at HNX HSN HO ⊢
      have HX1 := Lib.hid hx1
      have HIX := Lib.hid (show (Tryd.prog.info? 31).map (·.size) = some x.length by rw [hx1]; exact Tryd.infoE)
      have HLX := Lib.hid (show (List.replicate 16 0).length = x.length by rw [hx1]; rfl)
      have HW := Lib.hid (show w4.heap.size ≤ wr.heap.size from HB.out.size)
      clear hl hbb hx hx1 hx2 hS0
      go_wp2_with (first
        | (refine wpList_load_elem rfl 31 _ rfl b (o + k * 16) x _ rfl HX.out Tryd.underlying31 rfl HIX.out ?_)
        | (refine wpList_store_nums rfl 31 _ _ rfl rfl wr.heap.size .u8 (List.replicate 16 0) x 31 rfl rfl (heap_alloc_new wr _) HIX.out HLX.out ?_))
      intro w6 hc6 hb6
      have ha6 : Below wr.heap.size wr (wr.alloc (.cells (nums .u8 (List.replicate 16 0)).toArray 31)) := (Below.refl _ _).alloc (Nat.le_refl _) _
      have hb66 : Below wr.heap.size wr w6 := But.toBelow ha6 hb6.out (Nat.le_refl _) ha6.size
      have HN6 := Lib.hid (blk_news (show Blk wr.heap.size 31 .u8 x w6 from hc6.out))
      have HO6 := Lib.hid (HO.out.below hb66)
      have HB6 := Lib.hid (HB.out.trans (hb66.mono HB.out.size))
      have HLA := Lib.hid (show S0.length + x.length ≤ maxLen by rw [HSN.out, HSL.out, HX1.out]; unfold maxLen; omega)
      have HLB := Lib.hid (show (S0.length + x.length) * 1 ≤ 140737488355328 by rw [HSN.out, HSL.out, HX1.out]; omega)
      clear hc6 hb6 ha6 hb66 HO HB HX HIX HLX
      go_wp2_with (at_builtin; refine wpList_append_tails rfl (.tmp 47) (.tmp 48) 44 5 rfl w4.heap.size .u8 1 Tryd.underlying44 Tryd.infoByte4 _ S0 x ⟨wr.heap.size, 0, none⟩ 16 16 HX1.out.symm rfl HO6.out rfl HN6.out HLA.out HLB.out HB6.out.size ?_)
      intro v8 w8 ho8 hb8
      have HB8 := Lib.hid (show Below w4.heap.size w4 w8 from HB6.out.trans hb8.out)
      clear hb8 HLA HLB
      go_wp2_with fail
      exact ⟨⟨k + 1, by omega, by go_num, by rw [HNX.out]; exact ho8.out, HB8.out⟩, by simp [intOf]; omega⟩
    · obtain rfl : k = h := by omega
      have hnw : ¬ (k : Int) < (k : Int) := by omega
      have hcv := conv_ownT (sigL_lt SG HPO.out k) HO.out
      have HFU := sigL_full SG P
      rw [HPL.out, HSS.out] at HFU
      rw [HFU] at hcv
      have HB9 := Lib.hid (HB4.out.trans (HB.out.mono HB4.out.size))
      clear HFU HO HB
      go_wp2_with fail
      go_ret2
      exact ⟨rfl, HB9.out⟩
end Go.Proofs.YtcjjhddppcmgoaaDoor
