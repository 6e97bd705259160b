/-
  The walk of the law ShaParts.
-/
import Derived.Test.YtolnbifpnoghlaaDoorShaLaws
namespace Go.Proofs.YtolnbifpnoghlaaDoor.shaParts
open Go.RowKit Go.BigFrame

theorem dev_at {p : List UInt8} {ao : Option Addr} {c : Nat} {l : List (List UInt8)} {w1 w' : World} (hs : Hid (StrsAt ao l w1)) (hnil : Hid (ao = none → c = 0)) (hl : Hid (l.length ≤ 8796093000000)) (hb : Hid ((listB (p :: l)).length ≤ 140737488350000)) (h : SS w1 w') :
    Calls Tryd.prog 14 #[.string ⟨p.toArray⟩, .slice ao l.length c] w' fun e w'' => e = .returned (.agg (nums .u8 (shaN (listB (p :: l)))).toArray) ∧ SS w1 w'' :=
  (dev_sum p ao c l w' (hs.out.below h.1) hnil.out hl.out hb.out h.2).mono fun _ _ k => ⟨k.1, h.next k.2⟩
theorem ofref_at {s : List UInt8} {w1 w' : World} (hb : Hid (s.length ≤ 140737488350000)) (h : SS w1 w') :
    Calls Tryd.prog 12 #[.string ⟨s.toArray⟩] w' fun e w'' => e = .returned (.agg (nums .u8 (shaN s)).toArray) ∧ SS w1 w'' :=
  (of_any s w' hb.out).mono fun _ _ k => ⟨k.1, h.next k.2⟩

set_option maxHeartbeats 4000000 in
theorem small (w : World) (hk : KAt w) (p : List UInt8) (hp : p.length ≤ 1024) (ao : Option Addr) (a : List (List UInt8)) (c : Nat) (hs : StrsAt ao a w) (hnil : ao = none → c = 0)
    (q : List UInt8) (hq : q.length ≤ 1024) (bo : Option Addr) (b : List (List UInt8)) (d : Nat) (hs2 : StrsAt bo b w) (hnil2 : bo = none → d = 0)
    (hpq : p.length + q.length ≤ 1024) (ha : great2 a = false) (hb : great2 b = false) (hsame : (p = q ∧ a = b) ∨ ¬ p = q ∨ ¬ a = b) :
    Calls Tryd.prog 6 #[.string ⟨p.toArray⟩, .slice ao a.length c, .string ⟨q.toArray⟩, .slice bo b.length d] w fun e w' => e = .returned (.bool true) ∧ Below w.heap.size w w' := by
  have HK := Lib.hid hk
  have HS := Lib.hid hs
  have HS2 := Lib.hid hs2
  have HN := Lib.hid hnil
  have HN2 := Lib.hid hnil2
  have HA := Lib.hid ha
  have HB := Lib.hid hb
  have HSM := Lib.hid hsame
  have l1 := great2_false ha
  have l2 := great2_false hb
  have la := l1.1
  have lb := l2.1
  have HTA := Lib.hid l1.2.2
  have HTB := Lib.hid l2.2.2
  have HX := Lib.hid (show (listB (p :: a)).length ≤ 140737488350000 by have := listB_small hp ha; omega)
  have HY := Lib.hid (show (listB (q :: b)).length ≤ 140737488350000 by have := listB_small hq hb; omega)
  have HLA := Lib.hid (show a.length ≤ 8796093000000 by omega)
  have HLB := Lib.hid (show b.length ≤ 8796093000000 by omega)
  have HIN := Lib.hid (fun h => listB_inj2 hp hq ha hb h)
  clear hk hs hs2 hnil hnil2 ha hb hsame l1 l2
  go_enter Tryd.func6, Tryd.ntmps6
  go_wp2_with fail
  refine (alive2_any w HK.out).mono ?_
  rintro e w1 ⟨rfl, hb1⟩
  have HB1 := Lib.hid hb1
  have HK1 := Lib.hid (HK.out.below hb1)
  have HS1 := Lib.hid (HS.out.below hb1)
  have HS21 := Lib.hid (HS2.out.below hb1)
  clear hb1 HK HS HS2
  go_wp2_with fail
  have c1 := great2_any ao c a w1 HS1.out (by omega) (fun t ht => by have := HTA.out t ht; omega)
  rw [HA.out] at c1
  refine c1.mono ?_
  rintro e w2 ⟨rfl, rfl⟩
  clear c1
  go_wp2_with fail
  have c1 := great2_any bo d b w1 HS21.out (by omega) (fun t ht => by have := HTB.out t ht; omega)
  rw [HB.out] at c1
  refine c1.mono ?_
  rintro e w2 ⟨rfl, rfl⟩
  clear c1
  go_wp2_with (at_builtin; refine wpList_append_texts rfl _ _ rfl w1.heap.size _ [p] a ao c rfl (ownS_one w1 p) rfl (HS1.out.below ((Below.refl _ _).alloc (Nat.le_refl _) _)) HN.out (by simp; omega) (by simp) ?_)
  intro v w2 hown hb2
  have hb2' : Below w1.heap.size w1 w2 := ((Below.refl w1.heap.size w1).alloc (Nat.le_refl _) _).trans hb2.out
  obtain ⟨a1, c1, rfl⟩ := hown.out.form
  have HO := Lib.hid (show OwnS w1.heap.size (.slice a1 (p :: a).length c1) (p :: a) w2 from hown.out)
  have HS2 := Lib.hid (HS1.out.below hb2')
  have HS22 := Lib.hid (HS21.out.below hb2')
  have HK2 := Lib.hid (HK1.out.below hb2')
  have HB2 := Lib.hid (HB1.out.trans (hb2'.mono HB1.out.size))
  clear hown hb2 hb2' HS1 HS21 HK1 HB1
  go_wp2_with fail
  refine (rlistref_any a1 c1 (p :: a) w2 (strsAt_own HO.out) (by simp; omega) (by have := HX.out; omega)).mono ?_
  rintro e w3 ⟨rfl, hb3⟩
  have HS3 := Lib.hid (HS2.out.below hb3)
  have HS23 := Lib.hid (HS22.out.below hb3)
  have HK3 := Lib.hid (HK2.out.below hb3)
  have HB3 := Lib.hid (HB2.out.trans (hb3.mono HB2.out.size))
  clear hb3 HS2 HS22 HK2 HB2 HO
  go_wp2_with (at_builtin; refine wpList_append_texts rfl _ _ rfl w3.heap.size _ [q] b bo d rfl (ownS_one w3 q) rfl (HS23.out.below ((Below.refl _ _).alloc (Nat.le_refl _) _)) HN2.out (by simp; omega) (by simp) ?_)
  intro v w4 hown hb4
  have hb4' : Below w3.heap.size w3 w4 := ((Below.refl w3.heap.size w3).alloc (Nat.le_refl _) _).trans hb4.out
  obtain ⟨b1, d1, rfl⟩ := hown.out.form
  have HO := Lib.hid (show OwnS w3.heap.size (.slice b1 (q :: b).length d1) (q :: b) w4 from hown.out)
  have HS4 := Lib.hid (HS3.out.below hb4')
  have HS24 := Lib.hid (HS23.out.below hb4')
  have HK4 := Lib.hid (HK3.out.below hb4')
  have HB4 := Lib.hid (HB3.out.trans (hb4'.mono HB3.out.size))
  clear hown hb4 hb4' HS3 HS23 HK3 HB3
  go_wp2_with fail
  refine (rlistref_any b1 d1 (q :: b) w4 (strsAt_own HO.out) (by simp; omega) (by have := HY.out; omega)).mono ?_
  rintro e w5 ⟨rfl, hb5⟩
  have HS5 := Lib.hid (HS4.out.below hb5)
  have HS25 := Lib.hid (HS24.out.below hb5)
  have HK5 := Lib.hid (HK4.out.below hb5)
  have HB5 := Lib.hid (HB4.out.trans (hb5.mono HB4.out.size))
  clear hb5 HS4 HS24 HK4 HB4 HO
  rcases HSM.out with ⟨rfl, rfl⟩ | hne
  · go_wp2_with fail
    refine (same_any ao bo c d a a w5 HS5.out HS25.out (by omega)).mono ?_
    rintro e w6 ⟨rfl, hb6⟩
    rw [decide_eq_true rfl]
    have HS6 := Lib.hid (HS5.out.below hb6)
    have HS26 := Lib.hid (HS25.out.below hb6)
    have HK6 := Lib.hid (HK5.out.below hb6)
    have HB6 := Lib.hid (HB5.out.trans (hb6.mono HB5.out.size))
    clear hb6 HS5 HS25 HK5 HB5
    go_wp2_with fail
    have e1 := equal_sha (listB (p :: a)) (listB (p :: a))
    refine wp_region_class (fun w' => SS w6 w') (by kernel_rfl) (by kernel_rfl) (SS.start HK6.out) ?_
    repeat (go_big_quiet_step ((intro hs; first | rfl | (go_at_call_of 14 (Value.slice ao a.length c); exact dev_at HS6 HN HLA HX hs) | (go_at_call 14; first | exact dev_at HS6 HN HLA HX hs | exact dev_at HS26 HN2 HLA HX hs) | (go_at_call 12; exact ofref_at HX hs))))
    refine wpQuiet_nil ?_
    intro w' hs'
    go_wp2_with fail
    go_ret
    exact ⟨rfl, HB6.out.trans (hs'.1.mono HB6.out.size)⟩
  · by_cases hpe : p = q
    · subst hpe
      have hab : ¬ a = b := by
        rcases hne with h | h
        · exact absurd rfl h
        · exact h
      have he : (listB (p :: a) == listB (p :: b)) = false := by
        rw [beq_eq_false_iff_ne]
        exact fun h => hab (HIN.out h).2
      clear hne
      go_wp2_with fail
      refine (same_any ao bo c d a b w5 HS5.out HS25.out (by omega)).mono ?_
      rintro e w6 ⟨rfl, hb6⟩
      rw [decide_eq_false hab]
      have HS6 := Lib.hid (HS5.out.below hb6)
      have HS26 := Lib.hid (HS25.out.below hb6)
      have HK6 := Lib.hid (HK5.out.below hb6)
      have HB6 := Lib.hid (HB5.out.trans (hb6.mono HB5.out.size))
      clear hb6 HS5 HS25 HK5 HB5 hab
      go_wp2_with fail
      have e1 := equal_sha (listB (p :: a)) (listB (p :: b))
      refine wp_region_class (fun w' => SS w6 w') (by kernel_rfl) (by kernel_rfl) (SS.start HK6.out) ?_
      repeat (go_big_quiet_step ((intro hs; first | rfl | (go_at_call 14; first | exact dev_at HS6 HN HLA HX hs | exact dev_at HS26 HN2 HLB HY hs) | (go_at_call 12; first | exact ofref_at HX hs | exact ofref_at HY hs))))
      refine wpQuiet_nil ?_
      intro w' hs'
      go_wp2_with fail
      go_ret
      exact ⟨rfl, HB6.out.trans (hs'.1.mono HB6.out.size)⟩
    · have he : (listB (p :: a) == listB (q :: b)) = false := by
        rw [beq_eq_false_iff_ne]
        exact fun h => hpe (HIN.out h).1
      have he2 : (p == q) = false := by rw [beq_eq_false_iff_ne]; exact hpe
      clear hne hpe
      go_wp2_with fail
      have e1 := equal_sha (listB (p :: a)) (listB (q :: b))
      refine wp_region_class (fun w' => SS w5 w') (by kernel_rfl) (by kernel_rfl) (SS.start HK5.out) ?_
      repeat (go_big_quiet_step ((intro hs; first | rfl | (go_at_call 14; first | exact dev_at HS5 HN HLA HX hs | exact dev_at HS25 HN2 HLB HY hs) | (go_at_call 12; first | exact ofref_at HX hs | exact ofref_at HY hs))))
      refine wpQuiet_nil ?_
      intro w' hs'
      go_wp2_with fail
      go_ret
      exact ⟨rfl, HB5.out.trans (hs'.1.mono HB5.out.size)⟩

theorem great_a (w : World) (hk : KAt w) (p : List UInt8) (ao : Option Addr) (a : List (List UInt8)) (c : Nat) (hs : StrsAt ao a w) (na : a.length ≤ 140737488351232) (ta : ∀ t ∈ a, t.length ≤ 140737488351232)
    (q : List UInt8) (bo : Option Addr) (b : List (List UInt8)) (d : Nat) (ha : great2 a = true) :
    Calls Tryd.prog 6 #[.string ⟨p.toArray⟩, .slice ao a.length c, .string ⟨q.toArray⟩, .slice bo b.length d] w fun e w' => e = .returned (.bool true) ∧ Below w.heap.size w w' := by
  have HK := Lib.hid hk
  have HS := Lib.hid hs
  have HA := Lib.hid ha
  have HTA := Lib.hid ta
  clear hk hs ha ta
  go_enter Tryd.func6, Tryd.ntmps6
  go_wp2_with fail
  refine (alive2_any w HK.out).mono ?_
  rintro e w1 ⟨rfl, hb1⟩
  have HB1 := Lib.hid hb1
  have HS1 := Lib.hid (HS.out.below hb1)
  clear hb1 HK HS
  go_wp2_with fail
  have c1 := great2_any ao c a w1 HS1.out (by omega) (fun t ht => by have := HTA.out t ht; omega)
  rw [HA.out] at c1
  refine c1.mono ?_
  rintro e w2 ⟨rfl, rfl⟩
  clear c1
  go_wp2_with fail
  go_ret
  exact ⟨rfl, HB1.out⟩

theorem great_b (w : World) (hk : KAt w) (p : List UInt8) (ao : Option Addr) (a : List (List UInt8)) (c : Nat) (hs : StrsAt ao a w) (na : a.length ≤ 140737488351232) (ta : ∀ t ∈ a, t.length ≤ 140737488351232)
    (q : List UInt8) (bo : Option Addr) (b : List (List UInt8)) (d : Nat) (hs2 : StrsAt bo b w) (nb : b.length ≤ 140737488351232) (tb : ∀ t ∈ b, t.length ≤ 140737488351232) (ha : great2 a = false) (hb : great2 b = true) :
    Calls Tryd.prog 6 #[.string ⟨p.toArray⟩, .slice ao a.length c, .string ⟨q.toArray⟩, .slice bo b.length d] w fun e w' => e = .returned (.bool true) ∧ Below w.heap.size w w' := by
  have HK := Lib.hid hk
  have HS := Lib.hid hs
  have HS2 := Lib.hid hs2
  have HA := Lib.hid ha
  have HB := Lib.hid hb
  have HTA := Lib.hid ta
  have HTB := Lib.hid tb
  clear hk hs hs2 ha hb ta tb
  go_enter Tryd.func6, Tryd.ntmps6
  go_wp2_with fail
  refine (alive2_any w HK.out).mono ?_
  rintro e w1 ⟨rfl, hb1⟩
  have HB1 := Lib.hid hb1
  have HS1 := Lib.hid (HS.out.below hb1)
  have HS21 := Lib.hid (HS2.out.below hb1)
  clear hb1 HK HS HS2
  go_wp2_with fail
  have c1 := great2_any ao c a w1 HS1.out (by omega) (fun t ht => by have := HTA.out t ht; omega)
  rw [HA.out] at c1
  refine c1.mono ?_
  rintro e w2 ⟨rfl, rfl⟩
  clear c1
  go_wp2_with fail
  have c1 := great2_any bo d b w1 HS21.out (by omega) (fun t ht => by have := HTB.out t ht; omega)
  rw [HB.out] at c1
  refine c1.mono ?_
  rintro e w2 ⟨rfl, rfl⟩
  clear c1
  go_wp2_with fail
  go_ret
  exact ⟨rfl, HB1.out⟩

theorem long (w : World) (hk : KAt w) (p : List UInt8) (hp : p.length ≤ 140737488351232) (ao : Option Addr) (a : List (List UInt8)) (c : Nat) (hs : StrsAt ao a w) (na : a.length ≤ 140737488351232) (ta : ∀ t ∈ a, t.length ≤ 140737488351232)
    (q : List UInt8) (hq : q.length ≤ 140737488351232) (bo : Option Addr) (b : List (List UInt8)) (d : Nat) (hs2 : StrsAt bo b w) (nb : b.length ≤ 140737488351232) (tb : ∀ t ∈ b, t.length ≤ 140737488351232) (ha : great2 a = false) (hb : great2 b = false)
    (hpq : 1024 < p.length + q.length) :
    Calls Tryd.prog 6 #[.string ⟨p.toArray⟩, .slice ao a.length c, .string ⟨q.toArray⟩, .slice bo b.length d] w fun e w' => e = .returned (.bool true) ∧ Below w.heap.size w w' := by
  have HK := Lib.hid hk
  have HS := Lib.hid hs
  have HS2 := Lib.hid hs2
  have HA := Lib.hid ha
  have HB := Lib.hid hb
  have HTA := Lib.hid ta
  have HTB := Lib.hid tb
  clear hk hs hs2 ha hb ta tb
  go_enter Tryd.func6, Tryd.ntmps6
  go_wp2_with fail
  refine (alive2_any w HK.out).mono ?_
  rintro e w1 ⟨rfl, hb1⟩
  have HB1 := Lib.hid hb1
  have HS1 := Lib.hid (HS.out.below hb1)
  have HS21 := Lib.hid (HS2.out.below hb1)
  clear hb1 HK HS HS2
  go_wp2_with fail
  have c1 := great2_any ao c a w1 HS1.out (by omega) (fun t ht => by have := HTA.out t ht; omega)
  rw [HA.out] at c1
  refine c1.mono ?_
  rintro e w2 ⟨rfl, rfl⟩
  clear c1
  go_wp2_with fail
  have c1 := great2_any bo d b w1 HS21.out (by omega) (fun t ht => by have := HTB.out t ht; omega)
  rw [HB.out] at c1
  refine c1.mono ?_
  rintro e w2 ⟨rfl, rfl⟩
  clear c1
  go_wp2_with fail
  go_ret
  exact ⟨rfl, HB1.out⟩

theorem walk (w : World) (hk : KAt w) (p : List UInt8) (hp : p.length ≤ 140737488351232) (ao : Option Addr) (a : List (List UInt8)) (c : Nat) (hs : StrsAt ao a w) (na : a.length ≤ 140737488351232) (ta : ∀ t ∈ a, t.length ≤ 140737488351232) (hnil : ao = none → c = 0)
    (q : List UInt8) (hq : q.length ≤ 140737488351232) (bo : Option Addr) (b : List (List UInt8)) (d : Nat) (hs2 : StrsAt bo b w) (nb : b.length ≤ 140737488351232) (tb : ∀ t ∈ b, t.length ≤ 140737488351232) (hnil2 : bo = none → d = 0) :
    Calls Tryd.prog 6 #[.string ⟨p.toArray⟩, .slice ao a.length c, .string ⟨q.toArray⟩, .slice bo b.length d] w fun e w' => e = .returned (.bool true) ∧ Below w.heap.size w w' := by
  by_cases h1 : great2 a = true
  · exact great_a w hk p ao a c hs na ta q bo b d h1
  · have h1' : great2 a = false := by simpa using h1
    by_cases h2 : great2 b = true
    · exact great_b w hk p ao a c hs na ta q bo b d hs2 nb tb h1' h2
    · have h2' : great2 b = false := by simpa using h2
      by_cases h3 : 1024 < p.length + q.length
      · exact long w hk p hp ao a c hs na ta q hq bo b d hs2 nb tb h1' h2' h3
      · refine small w hk p (by omega) ao a c hs hnil q (by omega) bo b d hs2 hnil2 (by omega) h1' h2' ?_
        by_cases e1 : p = q
        · by_cases e2 : a = b
          · exact Or.inl ⟨e1, e2⟩
          · exact Or.inr (Or.inr e2)
        · exact Or.inr (Or.inl e1)
end Go.Proofs.YtolnbifpnoghlaaDoor.shaParts
