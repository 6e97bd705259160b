/-
  The document's own H and K: sought (Numbers), published (known), and the same (NumbersAre).
-/
import Derived.Test.YtolnbifpnoghlaaDoorNums
import Derived.Maps.AppendAt
namespace Go.Proofs.YtolnbifpnoghlaaDoor
open Go.RowKit

def shaH : List Nat := [1779033703, 3144134277, 1013904242, 2773480762, 1359893119, 2600822924, 528734635, 1541459225]
def shaK : List Nat := [1116352408, 1899447441, 3049323471, 3921009573, 961987163, 1508970993, 2453635748, 2870763221, 3624381080, 310598401, 607225278, 1426881987, 1925078388, 2162078206, 2614888103, 3248222580, 3835390401, 4022224774, 264347078, 604807628, 770255983, 1249150122, 1555081692, 1996064986, 2554220882, 2821834349, 2952996808, 3210313671, 3336571891, 3584528711, 113926993, 338241895, 666307205, 773529912, 1294757372, 1396182291, 1695183700, 1986661051, 2177026350, 2456956037, 2730485921, 2820302411, 3259730800, 3345764771, 3516065817, 3600352804, 4094571909, 275423344, 430227734, 506948616, 659060556, 883997877, 958139571, 1322822218, 1537002063, 1747873779, 1955562222, 2024104815, 2227730452, 2361852424, 2428436474, 2756734187, 3204031479, 3329325298]

theorem shaH_roots : ((pst 310).take 8).map (fun p => rootN p false) = shaH := by decide +kernel
theorem shaK_roots : (pst 310).map (fun p => rootN p true) = shaK := by decide +kernel
theorem shaH_len : shaH.length = 8 := by decide
theorem shaK_len : shaK.length = 64 := by decide
theorem shaH_lt : ∀ x ∈ shaH, x < 4294967296 := by decide
theorem shaK_lt : ∀ x ∈ shaK, x < 4294967296 := by decide

theorem OwnN.grown {B : Nat} {e : TypeId} {k : IntKind} {v : Value} {l : List Nat} {w w' : World} {r : Option Nat} (h : OwnN B e k v l w) (hg : w.grownBy w' r) (ap : ∀ g, v.ownBlock = some g → r ≠ some g) : OwnN B e k v l w' := by
  refine World.ownsRow.kept h hg ?_
  cases hv : v.ownBlock with
  | none => exact Or.inl rfl
  | some g => exact Or.inr (fun e => ap g hv e.symm)

theorem OwnN.alloc {B : Nat} {e : TypeId} {k : IntKind} {v : Value} {l : List Nat} {w : World} (h : OwnN B e k v l w) (o : Obj) : OwnN B e k v l (w.alloc o) := World.ownsRow.alloc h o

set_option maxHeartbeats 1000000 in
theorem known_any (w : World) :
    Calls Tryd.prog 22 #[] w fun e w' => e = .returned (.tuple #[.slice (some ⟨w.heap.size, 0, none⟩) 8 8, .slice (some ⟨w.heap.size + 1, 0, none⟩) 64 64]) ∧
      OwnN w.heap.size 46 .u32 (.slice (some ⟨w.heap.size, 0, none⟩) 8 8) shaH w' ∧ OwnN w.heap.size 46 .u32 (.slice (some ⟨w.heap.size + 1, 0, none⟩) 64 64) shaK w' ∧ Below w.heap.size w w' := by
  go_enter Tryd.func22, Tryd.ntmps22
  go_wp2_with fail
  go_ret2
  refine ⟨rfl, ?_, ?_, ((Below.refl _ w).alloc (Nat.le_refl _) _).alloc (by simp) _⟩
  · have h := World.ownsRow_lit (base := w.heap.size) (e := 46) (size := 1) w (nums .u32 shaH).toArray 8 (Nat.le_refl _) (by unfold maxLen; omega) rfl
    exact OwnN.alloc h _
  · have h := World.ownsRow_lit (base := w.heap.size) (e := 46) (size := 1) (w.alloc (.cells (nums .u32 shaH).toArray 46)) (nums .u32 shaK).toArray 64 (by simp) (by unfold maxLen; omega) rfl
    have e : (w.alloc (.cells (nums .u32 shaH).toArray 46)).heap.size = w.heap.size + 1 := by simp
    rw [e] at h
    exact h

def hlN (pl : List Nat) (q : Nat) : List Nat := (pl.take (min q 8)).map (fun p => rootN p false)
def klN (pl : List Nat) (q : Nat) : List Nat := (pl.take q).map (fun p => rootN p true)
theorem hl_next {pl : List Nat} {q : Nat} (hq : q < pl.length) (h8 : q < 8) : hlN pl (q + 1) = hlN pl q ++ [rootN pl[q] false] := by
  unfold hlN
  rw [show min (q + 1) 8 = q + 1 by omega, show min q 8 = q by omega, List.take_succ_eq_append_getElem hq, List.map_append]
  rfl
theorem hl_more {pl : List Nat} {q : Nat} (h8 : ¬ q < 8) : hlN pl (q + 1) = hlN pl q := by
  unfold hlN
  rw [show min (q + 1) 8 = 8 by omega, show min q 8 = 8 by omega]
theorem kl_next {pl : List Nat} {q : Nat} (hq : q < pl.length) : klN pl (q + 1) = klN pl q ++ [rootN pl[q] true] := by
  unfold klN
  rw [List.take_succ_eq_append_getElem hq, List.map_append]
  rfl
theorem hl_len (pl : List Nat) (q : Nat) : (hlN pl q).length ≤ 8 := by unfold hlN; rw [List.length_map, List.length_take]; omega
theorem kl_len (pl : List Nat) (q : Nat) : (klN pl q).length ≤ pl.length := by unfold klN; rw [List.length_map, List.length_take]; omega

/-- No two of them in one row. -/
def Apart (v1 v2 : Value) : Prop := ∀ g, v1.ownBlock = some g → v2.ownBlock ≠ some g

theorem Apart.symm {v1 v2 : Value} (h : Apart v1 v2) : Apart v2 v1 := fun g hg e => h g e hg

/-- One number more in a row of the call's own; another row stays. -/
theorem num_pushed {B : Nat} {w0 wr w3 : World} {v v' v2 : Value} {o : Obj} {l l2 l' : List Nat} {e : TypeId} {k : IntKind} (hB : B ≤ wr.heap.size) (hb : Below B w0 wr) (h1 : OwnN B e k v l wr) (h2 : OwnN B e k v2 l2 wr) (hap : Apart v v2)
    (hgrow : (wr.alloc o).grownBy w3 v.ownBlock) (hrw : v'.ownBlock = v.ownBlock ∨ v'.ownBlock = some (wr.heap.size + 1)) (hown : OwnN B e k v' l' w3) :
    Below B w0 w3 ∧ OwnN B e k v' l' w3 ∧ OwnN B e k v2 l2 w3 ∧ Apart v' v2 := by
  refine ⟨(hb.alloc hB _).grown hgrow (by simp; omega) (fun g hg => (World.ownsRow.lt h1 g hg).1), hown, (h2.alloc o).grown hgrow (fun g hg e => hap g e hg), ?_⟩
  rcases hrw with h | h
  · intro g hg
    rw [h] at hg
    exact hap g hg
  · intro g hg e
    rw [h] at hg
    have := (World.ownsRow.lt h2 g e).2
    simp at hg
    omega

set_option maxHeartbeats 2000000 in
theorem numbers_any (w : World) :
    Calls Tryd.prog 23 #[] w fun e w' => ∃ v1 v2, e = .returned (.tuple #[v1, v2]) ∧
      OwnN w.heap.size 46 .u32 v1 shaH w' ∧ OwnN w.heap.size 46 .u32 v2 shaK w' ∧ Below w.heap.size w w' := by
  obtain ⟨i0, hi, hz0, hz1, hz2⟩ := info_parts Tryd.infoU32
  have hlen := pst_310
  have hmem := Lib.hid (pst_mem 310)
  have HC := Lib.hid (primes_any w)
  have HH := Lib.hid shaH_roots
  have HK := Lib.hid shaK_roots
  generalize pst 310 = pl at *
  go_enter Tryd.func23, Tryd.ntmps23
  go_wp2_with fail
  refine HC.out.mono ?_
  rintro e w1 ⟨v, rfl, hown, hb⟩
  obtain ⟨ao, cap, hv⟩ := hown.form
  subst hv
  have hat := Lib.hid hown.at
  have HB := Lib.hid hb
  clear hown hb HC
  go_wp2_with fail
  go_loopw [2, 3, 8] (fun v1 v2 i wr => ∃ q : Nat, q ≤ pl.length ∧ i = .int .i64 q ∧ OwnN w1.heap.size 46 .u32 v1 (hlN pl q) wr ∧
    OwnN w1.heap.size 46 .u32 v2 (klN pl q) wr ∧ Apart v1 v2 ∧ Below w1.heap.size w1 wr) (fun _ _ i _ => 64 - (intOf i).toNat)
  case atStart => exact ⟨0, by omega, rfl, OwnN.nil _ _ _ _, OwnN.nil _ _ _ _, fun g h => by simp [Value.ownBlock] at h, Below.refl _ _⟩
  case round =>
    obtain ⟨q, hq, rfl, h1, h2, hap, hbel⟩ := hrel
    have H1 := Lib.hid h1
    have H2 := Lib.hid h2
    have HAP := Lib.hid hap
    have HB1 := Lib.hid hbel
    clear h1 h2 hap hbel
    by_cases hlt : q < pl.length
    · obtain ⟨xb, xo, hxe, hxc⟩ := (hat.out.below HB1.out).cell hlt
      subst hxe
      have hll := hl_len pl q
      have hkl := kl_len pl q
      have hm := (hmem.out _ (List.getElem_mem hlt)).2
      have HN1 := Lib.hid (@hl_next pl q hlt)
      have HN2 := Lib.hid (@kl_next pl q hlt)
      generalize pl[q] = p at *
      by_cases h8 : q < 8
      · go_wp2_with fail
        refine (root_sq p _ (by omega)).mono ?_
        rintro e w' ⟨rfl, rfl⟩
        have hsz := HB1.out.size
        go_wp2_with (at_builtin; refine wpList_append_own_at _ rfl _ _ 43 rfl w1.heap.size 46 i0 (.int .u32 0) 1 4 Tryd.underlying43 hi hz0 hz1 hz2 rfl (by decide) _ _ _ rfl (World.ownsRow.alloc H1.out _) ⟨wr.heap.size, 0, none⟩ 1 1 [.int .u32 (rootN p false)] rfl rfl (cell_one_new _ _ _) ?c2 ?c3 ?c4 ?c5 ?_)
        case c2 => intro u hu; simp at hu; subst hu; rfl
        case c3 => unfold maxLen; omega
        case c4 => omega
        case c5 => simp; omega
        intro v' w3 hown' hgrow _ hrw
        obtain ⟨HB2, H12, H22, HAP2⟩ := num_pushed (l' := hlN pl (q + 1)) hsz HB1.out H1.out H2.out HAP.out hgrow hrw (by
          unfold OwnN
          rw [HN1.out h8, nums_snoc, List.length_append]
          exact hown')
        have HB2 := Lib.hid HB2
        have H12 := Lib.hid H12
        have H22 := Lib.hid H22
        have HAP2 := Lib.hid HAP2
        clear hown' hgrow hrw HB1 H1 H2 HAP hxc hsz
        go_wp2_with fail
        refine (root_cb p _ (by omega)).mono ?_
        rintro e w' ⟨rfl, rfl⟩
        have hsz := HB2.out.size
        go_wp2_with (at_builtin; refine wpList_append_own_at _ rfl _ _ 43 rfl w1.heap.size 46 i0 (.int .u32 0) 1 4 Tryd.underlying43 hi hz0 hz1 hz2 rfl (by decide) _ _ _ rfl (World.ownsRow.alloc H22.out _) ⟨w3.heap.size, 0, none⟩ 1 1 [.int .u32 (rootN p true)] rfl rfl (cell_one_new _ _ _) ?c2 ?c3 ?c4 ?c5 ?_)
        case c2 => intro u hu; simp at hu; subst hu; rfl
        case c3 => unfold maxLen; omega
        case c4 => omega
        case c5 => simp; omega
        intro v2' w4 hown' hgrow _ hrw
        obtain ⟨HB3, H23, H13, HAP3⟩ := num_pushed (l' := klN pl (q + 1)) hsz HB2.out H22.out H12.out HAP2.out.symm hgrow hrw (by
          unfold OwnN
          rw [HN2.out, nums_snoc, List.length_append]
          exact hown')
        have HB3 := Lib.hid HB3
        have H13 := Lib.hid H13
        have H23 := Lib.hid H23
        have HAP3 := Lib.hid HAP3
        clear hown' hgrow hrw HB2 H12 H22 HAP2 hsz
        go_wp2_with fail
        exact ⟨⟨q + 1, by omega, by go_num, H13.out, H23.out, HAP3.out.symm, HB3.out⟩, by simp [intOf]; omega⟩
      · have HM := Lib.hid (@hl_more pl q h8)
        go_wp2_with fail
        refine (root_cb p _ (by omega)).mono ?_
        rintro e w' ⟨rfl, rfl⟩
        have hsz := HB1.out.size
        go_wp2_with (at_builtin; refine wpList_append_own_at _ rfl _ _ 43 rfl w1.heap.size 46 i0 (.int .u32 0) 1 4 Tryd.underlying43 hi hz0 hz1 hz2 rfl (by decide) _ _ _ rfl (World.ownsRow.alloc H2.out _) ⟨wr.heap.size, 0, none⟩ 1 1 [.int .u32 (rootN p true)] rfl rfl (cell_one_new _ _ _) ?c2 ?c3 ?c4 ?c5 ?_)
        case c2 => intro u hu; simp at hu; subst hu; rfl
        case c3 => unfold maxLen; omega
        case c4 => omega
        case c5 => simp; omega
        intro v2' w4 hown' hgrow _ hrw
        obtain ⟨HB3, H23, H13, HAP3⟩ := num_pushed (l' := klN pl (q + 1)) hsz HB1.out H2.out H1.out HAP.out.symm hgrow hrw (by
          unfold OwnN
          rw [HN2.out, nums_snoc, List.length_append]
          exact hown')
        have HB3 := Lib.hid HB3
        have H13 := Lib.hid H13
        have H23 := Lib.hid H23
        have HAP3 := Lib.hid HAP3
        clear hown' hgrow hrw HB1 H1 H2 HAP hsz
        go_wp2_with fail
        exact ⟨⟨q + 1, by omega, by go_num, by rw [HM.out]; exact H13.out, H23.out, HAP3.out.symm, HB3.out⟩, by simp [intOf]; omega⟩
    · obtain rfl : q = pl.length := by omega
      have e1 : hlN pl pl.length = shaH := by unfold hlN; rw [show min pl.length 8 = 8 by omega]; exact HH.out
      have e2 : klN pl pl.length = shaK := by unfold klN; rw [List.take_length]; exact HK.out
      rw [e1] at H1
      rw [e2] at H2
      clear e1 e2
      go_wp2_with fail
      go_ret2
      exact ⟨_, _, rfl, H1.out.mono HB.out.size, H2.out.mono HB.out.size, HB.out.trans (HB1.out.mono HB.out.size)⟩

theorem NumsAt.drawn {ao : Option Addr} {k : IntKind} {l : List Nat} {w : World} (h : NumsAt ao k l w) (n : Nat) : NumsAt ao k l (w.drewN n) := h

set_option maxHeartbeats 1000000 in
theorem numbersAre_any (w : World) :
    Calls Tryd.prog 10 #[] w fun e w' => e = .returned (.bool true) ∧ Below w.heap.size w w' := by
  go_enter Tryd.func10, Tryd.ntmps10
  go_wp2_with fail
  refine (known_any _).mono ?_
  rintro e w1 ⟨rfl, h1, h2, hb⟩
  have H1 := Lib.hid h1
  have H2 := Lib.hid h2
  have HB := Lib.hid hb
  clear h1 h2 hb
  go_wp2_with fail
  refine (numbers_any _).mono ?_
  rintro e w2 ⟨v1, v2, rfl, h3, h4, hb⟩
  have h1 := (H1.out.below hb).at
  have h2 := (H2.out.below hb).at
  have HB2 := Lib.hid (HB.out.trans (hb.mono HB.out.size))
  obtain ⟨a3, c3, rfl⟩ := h3.form
  obtain ⟨a4, c4, rfl⟩ := h4.form
  have h3 := h3.at
  have h4 := h4.at
  rw [shaH_len, shaK_len]
  have H1 := Lib.hid h1
  have H2 := Lib.hid h2
  have H3 := Lib.hid h3
  have H4 := Lib.hid h4
  clear h1 h2 h3 h4 hb HB
  go_wp2_with fail
  go_loopw [17] (fun i wr => ∃ q : Nat, q ≤ 8 ∧ i = .int .i64 q ∧ NumsAt (some ⟨w.heap.size, 0, none⟩) .u32 shaH wr ∧ NumsAt (some ⟨w.heap.size + 1, 0, none⟩) .u32 shaK wr ∧ NumsAt a3 .u32 shaH wr ∧ NumsAt a4 .u32 shaK wr ∧ Below w.heap.size w wr) (fun i _ => 8 - (intOf i).toNat)
  case atStart => exact ⟨0, by omega, rfl, H1.out, H2.out, H3.out, H4.out, HB2.out⟩
  case round =>
    clear H1 H2 H3 H4 HB2
    obtain ⟨q, hq, rfl, h1, h2, h3, h4, hb⟩ := hrel
    have H1 := Lib.hid h1
    have H2 := Lib.hid h2
    have H3 := Lib.hid h3
    have H4 := Lib.hid h4
    have HB2 := Lib.hid hb
    clear h1 h2 h3 h4 hb
    by_cases hlt : q < 8
    · have hlt' : q < shaH.length := by rw [shaH_len]; exact hlt
      obtain ⟨xb, xo, hxe, hxc⟩ := H1.out.cell hlt'
      obtain ⟨yb, yo, hye, hyc⟩ := H3.out.cell hlt'
      generalize shaH[q] = x at *
      cases hxe
      subst hye
      rw [Nat.zero_add] at hxc
      go_wp2_with fail
      go_quiet (fail)
      go_wp2_with fail
      exact ⟨⟨q + 1, by omega, by go_num, H1.out.drawn _, H2.out.drawn _, H3.out.drawn _, H4.out.drawn _, drawn_below HB2.out _⟩, by simp [intOf]; omega⟩
    · obtain rfl : q = 8 := by omega
      go_wp2_with fail
      go_loopw [32] (fun i wr => ∃ q : Nat, q ≤ 64 ∧ i = .int .i64 q ∧ NumsAt (some ⟨w.heap.size, 0, none⟩) .u32 shaH wr ∧ NumsAt (some ⟨w.heap.size + 1, 0, none⟩) .u32 shaK wr ∧ NumsAt a3 .u32 shaH wr ∧ NumsAt a4 .u32 shaK wr ∧ Below w.heap.size w wr) (fun i _ => 64 - (intOf i).toNat)
      case atStart => exact ⟨0, by omega, rfl, H1.out, H2.out, H3.out, H4.out, HB2.out⟩
      case round =>
        clear H1 H2 H3 H4 HB2
        obtain ⟨q, hq, rfl, h1, h2, h3, h4, hb⟩ := hrel
        have H1 := Lib.hid h1
        have H2 := Lib.hid h2
        have H3 := Lib.hid h3
        have H4 := Lib.hid h4
        have HB2 := Lib.hid hb
        clear h1 h2 h3 h4 hb
        by_cases hlt : q < 64
        · have hlt' : q < shaK.length := by rw [shaK_len]; exact hlt
          obtain ⟨xb, xo, hxe, hxc⟩ := H2.out.cell hlt'
          obtain ⟨yb, yo, hye, hyc⟩ := H4.out.cell hlt'
          generalize shaK[q] = x at *
          cases hxe
          subst hye
          rw [Nat.zero_add] at hxc
          go_wp2_with fail
          go_quiet (fail)
          go_wp2_with fail
          exact ⟨⟨q + 1, by omega, by go_num, H1.out.drawn _, H2.out.drawn _, H3.out.drawn _, H4.out.drawn _, drawn_below HB2.out _⟩, by simp [intOf]; omega⟩
        · obtain rfl : q = 64 := by omega
          go_wp2_with fail
          go_ret
          exact ⟨rfl, HB2.out⟩
end Go.Proofs.YtolnbifpnoghlaaDoor
