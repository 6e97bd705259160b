/-
  The walk of the law TreeRoots.
-/
import Derived.Test.YtgmckanjgnpbhaaDoorBytes5
import Derived.Test.YtgmckanjgnpbhaaDoorRPath
namespace Go.Proofs.YtgmckanjgnpbhaaDoor.treeRoots
open Go.RowKit Go.BigFrame

def zerE : List Nat := List.replicate 16 0
theorem zerE_lt : ∀ x ∈ zerE, x < 256 := by decide

set_option maxHeartbeats 1000000 in
set_option maxRecDepth 100000 in
theorem walk (w : World) (hk : KAt w) (ao : Option Addr) (L : List (List Nat)) (cap : Nat) (hE : EAt ao L w) (hL : Elems L) (hn : L.length ≤ 8796093021952) (_hnil : ao = none → cap = 0) (a : Int) (_wa : (Lit.int .i64 a).wf = true) :
    Calls Tryd.prog 3 #[.slice ao L.length cap, .int .i64 a] w fun e w' => e = .returned (.bool true) ∧ Below w.heap.size w w' := by
  have HK := Lib.hid hk
  have HE := Lib.hid hE
  have LE := Lib.hid hL
  clear hk hE hL
  go_enter Tryd.func3, Tryd.ntmps3
  go_wp2_with fail
  refine (alive5_any w HK.out).mono ?_
  rintro e w2 ⟨rfl, hb2⟩
  have HB2 := Lib.hid hb2
  have HK2 := Lib.hid (HK.out.below hb2)
  clear hb2 HK
  by_cases hlong : 32 < L.length
  · have hl2 : (32 : Int) < L.length := by omega
    go_wp2_with fail
    go_ret
    exact ⟨rfl, HB2.out⟩
  · have hl2 : ¬ (32 : Int) < L.length := by omega
    go_wp2_with fail
    refine (elems_any L ao cap w2 LE.out (HE.out.below HB2.out) hn).mono ?_
    rintro e w3 ⟨⟨v, rfl, ho⟩, hb3⟩
    obtain ⟨a1, c1, rfl⟩ := ho.form
    have HO3 := Lib.hid ho
    have HB3 := Lib.hid (HB2.out.trans (hb3.mono HB2.out.size))
    have HK3 := Lib.hid (HK2.out.below hb3)
    clear ho hb3 HB2 HK2
    cases hgood : goodN L.length with
    | false =>
      have HG := Shut.mk hgood
      clear hgood
      go_wp2_with fail
      refine (dev_root_not L.length a1 c1 w3 HG.out (by omega)).mono ?_
      rintro e w4 ⟨rfl, hb4⟩
      rw [show (List.replicate 16 0 : List Nat) = zerE from rfl]
      have HB4 := Lib.hid (HB3.out.trans (hb4.mono HB3.out.size))
      clear hb4 HO3 HB3 HK3
      have HX := Lib.hid (show Blk w4.heap.size 27 .u8 (List.replicate 16 0) (w4.alloc (.cells (nums .u8 (List.replicate 16 0)).toArray 27)) from heap_alloc_new w4 _)
      go_wp2_with (refine wpList_store_nums rfl 27 _ _ rfl rfl w4.heap.size .u8 _ zerE 27 rfl rfl HX.out Tryd.infoE rfl ?_)
      intro w5 hc hb
      have HX5 := Lib.hid (show Blk w4.heap.size 27 .u8 zerE w5 from hc.out)
      have hb5 : Below w4.heap.size w4 w5 := But.toBelow ((Below.refl _ w4).alloc (Nat.le_refl _) _) hb.out (Nat.le_refl _) (by simp)
      have HB5 := Lib.hid (HB4.out.trans (hb5.mono HB4.out.size))
      obtain ⟨gx, hgx⟩ : ∃ g, g = w4.heap.size := ⟨_, rfl⟩
      rw [← hgx] at HX5 ⊢
      clear hc hb hb5 HX HB4 hgx
      go_wp2_with fail
      refine (dev_path_not L.length a a1 c1 w5 (by omega) (.inl HG.out)).mono ?_
      rintro e w6 ⟨rfl, hb6⟩
      have HX6 := Lib.hid (HX5.out.below hb6)
      have HB6 := Lib.hid (HB5.out.trans (hb6.mono HB5.out.size))
      clear hb6 HX5 HB5
      go_wp2_with fail
      refine (ref_good L.length w6).mono ?_
      rintro e w7 ⟨rfl, rfl⟩
      rw [HG.out]
      have heq : ∀ w, (Op.equalIn 10000 27 (.agg (nums .u8 zerE).toArray) (.agg #[.int .u8 0, .int .u8 0, .int .u8 0, .int .u8 0, .int .u8 0, .int .u8 0, .int .u8 0, .int .u8 0, .int .u8 0, .int .u8 0, .int .u8 0, .int .u8 0, .int .u8 0, .int .u8 0, .int .u8 0, .int .u8 0])).run Tryd.prog w = .ok true w := fun w => by
        have h := equal_elem zerE zerE rfl rfl zerE_lt zerE_lt w
        rw [beq_self_eq_true] at h
        exact h
      go_wp2_with (refine wpList_load_want (by rfl) 27 _ rfl gx .u8 _ 27 _ rfl HX6.out Tryd.underlying27 rfl Tryd.infoE ?_)
      go_ret
      exact ⟨rfl, HB6.out⟩
    | true =>
      obtain ⟨h, h8, hp⟩ := goodN_pow hgood
      have HG := Shut.mk hgood
      have HN := Shut.mk hp
      obtain ⟨hx1, hx2⟩ := atN_ok LE.out h 0 (by rw [Nat.zero_mul, hp]; exact Nat.two_pow_pos h)
      have HH := Shut.mk (show heightN L.length = h by rw [hp, heightN_pow])
      obtain ⟨x, hx⟩ : ∃ x, atN L h 0 = x := ⟨_, rfl⟩
      rw [hx] at hx1 hx2
      have HXE := Shut.mk hx
      have HIX := Lib.hid (show (Tryd.prog.info? 27).map (·.size) = some x.length by rw [hx1]; exact Tryd.infoE)
      have HLX := Lib.hid (show (List.replicate 16 0).length = x.length by rw [hx1]; rfl)
      have e2 := fun w => equal_elem x x hx1 hx1 hx2 hx2 w
      rw [beq_self_eq_true] at e2
      clear hgood hp hx hx1 hx2
      go_wp2_with fail
      refine (dev_root L h a1 c1 w3 LE.out (HO3.out.at LE.out) HG.out HN.out h8 HK3.out).mono ?_
      rintro e w4 ⟨rfl, hb4⟩
      rw [HXE.out]
      have HO4 := Lib.hid (HO3.out.below hb4)
      have HB4 := Lib.hid (HB3.out.trans (hb4.mono HB3.out.size))
      have HK4 := Lib.hid (HK3.out.below hb4)
      clear hb4 HO3 HB3 HK3
      have HX := Lib.hid (show Blk w4.heap.size 27 .u8 (List.replicate 16 0) (w4.alloc (.cells (nums .u8 (List.replicate 16 0)).toArray 27)) from heap_alloc_new w4 _)
      go_wp2_with (refine wpList_store_nums rfl 27 _ _ rfl rfl w4.heap.size .u8 _ x 27 rfl rfl HX.out HIX.out HLX.out ?_)
      intro w5 hc hb
      have HX5 := Lib.hid (show Blk w4.heap.size 27 .u8 x w5 from hc.out)
      have hb5 : Below w4.heap.size w4 w5 := But.toBelow ((Below.refl _ w4).alloc (Nat.le_refl _) _) hb.out (Nat.le_refl _) (by simp)
      have HO5 := Lib.hid (HO4.out.below hb5)
      have HB5 := Lib.hid (HB4.out.trans (hb5.mono HB4.out.size))
      have HK5 := Lib.hid (HK4.out.below hb5)
      obtain ⟨gx, hgx⟩ : ∃ g, g = w4.heap.size := ⟨_, rfl⟩
      rw [← hgx] at HX5 ⊢
      clear hc hb hb5 HX HO4 HB4 HK4 hgx
      go_wp2_with fail
      obtain ⟨R, fk, LR, hfk, hRl, hpath⟩ : ∃ (R : List (List Nat)) (fk : Int), Elems R ∧ ((a < 0 ∨ (L.length : Int) ≤ a) ∧ fk = 1 ∧ R = [] ∨ ∃ i : Nat, a = i ∧ i < L.length ∧ fk = 0 ∧ R = pathN L i h) ∧ R.length ≤ 8 ∧
          Calls Tryd.prog 11 #[.int .i64 a, .slice a1 L.length c1] w5 fun e w' => (∃ v, e = .returned (.tuple #[v, .int .i64 fk]) ∧ OwnE w5.heap.size 27 v R w') ∧ Below w5.heap.size w5 w' := by
        by_cases hbad : a < 0 ∨ (L.length : Int) ≤ a
        · refine ⟨[], 1, Elems.nil, .inl ⟨hbad, rfl, rfl⟩, by simp, (dev_path_not L.length a a1 c1 w5 (by omega) (.inr hbad)).mono ?_⟩
          rintro e w' ⟨rfl, hb⟩
          exact ⟨⟨_, rfl, OwnE.nil _ _ _⟩, hb⟩
        · obtain ⟨i, rfl⟩ : ∃ i : Nat, a = i := ⟨a.toNat, by omega⟩
          have hi : i < L.length := by omega
          exact ⟨pathN L i h, 0, pathN_ok LE.out HN.out hi (Nat.le_refl _), .inr ⟨i, rfl, hi, rfl, rfl⟩, by rw [pathN_len]; exact h8, dev_path L h i a1 c1 w5 LE.out (HO5.out.at LE.out) HG.out HN.out h8 hi HK5.out⟩
      refine hpath.mono ?_
      rintro e w6 ⟨⟨v6, rfl, ho6⟩, hb6⟩
      obtain ⟨a6, c6, rfl⟩ := ho6.form
      have HP6 := Lib.hid (ho6.at LR)
      have HX6 := Lib.hid (HX5.out.below hb6)
      have HO6 := Lib.hid (HO5.out.below hb6)
      have HB6 := Lib.hid (HB5.out.trans (hb6.mono HB5.out.size))
      clear ho6 hb6 HX5 HO5 HB5 HK5 hpath
      have HLR := Lib.hid LR
      have HFK := Lib.hid hfk
      clear LR hfk
      go_wp2_with fail
      refine (ref_good L.length w6).mono ?_
      rintro e w7 ⟨rfl, rfl⟩
      rw [HG.out]
      go_upto_region 11 with (fail)
      have HAT := Lib.hid (fun w hE => ref_at L a1 c1 LE.out (by omega) h 0 w hE (by rw [Nat.zero_add, Nat.one_mul, HN.out]; exact Nat.le_refl _) h8)
      rw [HXE.out] at HAT
      refine wp_region_class (fun w' => Below w7.heap.size w7 w') (by kernel_rfl) (by kernel_rfl) (Below.refl _ _).drew ?_
      repeat (first
        | go_big_quiet_skip
        | (go_big_quiet_want; refine quiet_load_nums 27 _ rfl gx .u8 x 27 _ rfl (fun w' h => HX6.out.below h) Tryd.underlying27 rfl HIX.out ?_; go_big_quiet_on; simp only [Act.put, List.setIfInBounds_toArray, List.set_cons_zero, List.set_cons_succ])
        | go_big_quiet_step ((intro hs'; first
            | rfl
            | (go_at_call 14; exact (height_any L.length _ (by omega)).mono fun e w' h => ⟨h.1.trans (by rw [HH.out]), by rw [h.2]; exact hs'⟩)
            | (go_at_call 13; exact (HAT.out _ ((HO6.out.at LE.out).below hs')).mono fun e w' h => ⟨h.1, hs'.trans (h.2.mono hs'.size)⟩))))
      refine wpQuiet_nil ?_
      intro w8 hs8
      have HP8 := Lib.hid (HP6.out.below hs8)
      have HO8 := Lib.hid (HO6.out.below hs8)
      have HB8 := Lib.hid (HB6.out.trans (hs8.mono HB6.out.size))
      clear hs8 HAT HP6 HO6 HB6 HX6 e2
      rcases HFK.out with ⟨hbad, rfl, rfl⟩ | ⟨i, rfl, hi, rfl, rfl⟩
      · clear HFK
        by_cases h0 : a < 0
        · clear hbad
          go_wp2_with fail
          go_ret
          exact ⟨rfl, HB8.out⟩
        · have h1 : (L.length : Int) ≤ a := hbad.resolve_left h0
          clear hbad
          go_wp2_with fail
          go_ret
          exact ⟨rfl, HB8.out⟩
      · clear HFK
        have h1 : ¬ (L.length : Int) ≤ (i : Int) := by omega
        go_wp2_with fail
        refine (ref_path L i h a1 c1 w8 LE.out (HO8.out.at LE.out) HN.out h8 hi).mono ?_
        rintro e w9 ⟨⟨v9, rfl, ho9⟩, hb9⟩
        obtain ⟨a9, c9, rfl⟩ := ho9.form
        have HQ9 := Lib.hid (ho9.at HLR.out)
        have HP9 := Lib.hid (HP8.out.below hb9)
        have HB9 := Lib.hid (HB8.out.trans (hb9.mono HB8.out.size))
        clear ho9 hb9 HP8 HO8 HB8
        have HRL := Lib.hid (show (pathN L i h).length ≤ 9000000000000 by omega)
        obtain ⟨R, hR⟩ : ∃ R, pathN L i h = R := ⟨_, rfl⟩
        rw [hR] at HLR HQ9 HP9 HRL ⊢
        clear hR hRl
        go_wp2_with fail
        refine (ref_same R R a6 a9 c6 c9 w9 HLR.out HLR.out HP9.out HQ9.out HRL.out).mono ?_
        rintro e w11 ⟨rfl, hb11⟩
        rw [decide_eq_true (rfl : R = R)]
        have HB11 := Lib.hid (HB9.out.trans (hb11.mono HB9.out.size))
        clear hb11
        go_wp2_with fail
        go_ret
        exact ⟨rfl, HB11.out⟩
end Go.Proofs.YtgmckanjgnpbhaaDoor.treeRoots
