/-
  Joined: The document's Good of layer 15.; The document's own Num, Text and List, walked.; The document's num, DraftText.; The document's Text of layer 15.; The document's Num of layer 15.
-/
import Derived.Deep.Cut
import Derived.Deep.CutBlock
import Derived.Deep.CutRange
import Derived.Test.YtenmkfjgjemiiaaJ01
import Derived.Test.YtenmkfjgjemiiaaJ02
import Derived.Test.YtenmkfjgjemiiaaJ03
import Derived.Test.YtenmkfjgjemiiaaJ04
namespace Go.Proofs.Ytenmkfjgjemiiaa
open Go.RowKit Go.BigFrame
theorem nil_beq_dec (v : List UInt8) : (v == []) = decide (v = []) := by cases v <;> simp
theorem noD_iff (d : DraftN) : d = noD ↔ d.kind = 0 ∧ d.key = [] ∧ d.val = [] ∧ d.ref = zeroI := by
  obtain ⟨a, b, c, r⟩ := d
  simp [noD]
set_option maxHeartbeats 4000000 in
set_option maxRecDepth 100000 in
theorem ref_good15 (e : EntN) (he : e.Len) (w : World) :
    Calls Try.prog 11 #[.agg (entV e)] w fun r w' => r = .returned (.bool (decide (GoodE e))) ∧ Below w.heap.size w w' := by
  have hx : Cells w.heap.size 30 (entV e) (w.alloc (.cells (entV e) 30)) := heap_alloc_new w _
  have hb : Below w.heap.size w (w.alloc (.cells (entV e) 30)) := (Below.refl _ _).alloc (Nat.le_refl _) _
  have HX := Lib.hid hx
  have HB := Lib.hid hb
  have HE := Lib.hid he
  have HGD := Lib.hid (fun w' => ref_goodDraft e.d he.ok.ref he.key he.val w')
  clear hx hb he
  obtain ⟨out, hout⟩ : ∃ b, decide (OutE e) = b := ⟨_, rfl⟩
  obtain ⟨non, hnon⟩ : ∃ b, decide (e.d = noD) = b := ⟨_, rfl⟩
  obtain ⟨bare, hbare⟩ : ∃ b, decide (BareE e) = b := ⟨_, rfl⟩
  obtain ⟨gd, hgd⟩ : ∃ b, decide (GoodD e.d) = b := ⟨_, rfl⟩
  have HO := Shut.mk hout
  have HN := Shut.mk hnon
  have HR := Shut.mk hbare
  have HG := Shut.mk hgd
  rw [hgd] at HGD
  clear hout hnon hbare hgd
  go_enter Try.func11, Try.ntmps11
  go_upto_region 1 with (fail)
  obtain ⟨w1, hw1⟩ : ∃ x, x = w.alloc (.cells (entV e) 30) := ⟨_, rfl⟩
  rw [← hw1] at HX HB ⊢
  clear hw1
  obtain ⟨c0, cd, cf, cq, cp, cm, cy, cs⟩ := ent_cells HE.out.ok HX.out
  obtain ⟨d0, d1, d2, d3⟩ := draft_mid cd
  have HCD := Lib.hid cd
  have HCP := Lib.hid cp
  have HD3 := Lib.hid d3
  have HSI := Lib.hid (show (Try.prog.info? 26).map (·.size) = some (nums .u8 e.d.ref).length by rw [nums_len, HE.out.ok.ref.1]; exact Try.sizeI)
  have HSP := Lib.hid (show (Try.prog.info? 26).map (·.size) = some (nums .u8 e.prev).length by rw [nums_len, HE.out.ok.prev.1]; exact Try.sizeI)
  have HSD := Lib.hid (show (Try.prog.info? 28).map (·.size) = some (draftL e.d).length by rw [draftL_len HE.out.ok.ref.1]; exact Try.sizeD)
  have heq := fun w' => equal_idI e.d.ref zeroI HE.out.ok.ref.1 zeroI_ok.1 HE.out.ok.ref.2 zeroI_ok.2 w'
  have hpq := fun w' => equal_idI e.prev zeroI HE.out.ok.prev.1 zeroI_ok.1 HE.out.ok.prev.2 zeroI_ok.2 w'
  rw [zeroI_lit] at heq hpq
  have HEQ := Lib.hid heq
  have HPQ := Lib.hid hpq
  clear cd cp d3 heq hpq
  obtain ⟨k, hk⟩ : ∃ x, e.kind = x := ⟨_, rfl⟩
  obtain ⟨dk, hdk⟩ : ∃ x, e.d.kind = x := ⟨_, rfl⟩
  obtain ⟨f, hf⟩ : ∃ x, e.src = x := ⟨_, rfl⟩
  obtain ⟨q, hq⟩ : ∃ x, e.seq = x := ⟨_, rfl⟩
  obtain ⟨m, hm⟩ : ∃ x, e.mask = x := ⟨_, rfl⟩
  obtain ⟨yl, hyl⟩ : ∃ n, e.pay.length = n := ⟨_, rfl⟩
  obtain ⟨sl, hsl⟩ : ∃ n, e.sig.length = n := ⟨_, rfl⟩
  have HOE := Shut.mk (show OutE e ↔ 1 ≤ m ∧ m ≤ 31 ∧ yl ≤ 2048 by rw [OutE, hm, hyl])
  have HNE := Shut.mk (show e.d = noD ↔ dk = 0 ∧ e.d.key = [] ∧ e.d.val = [] ∧ e.d.ref = zeroI by
    rw [← hdk]
    exact noD_iff e.d)
  have HBE := Shut.mk (show BareE e ↔ f = 0 ∧ q = 0 ∧ e.prev = zeroI ∧ e.sig = [] by rw [BareE, hf, hq])
  have HGE := Shut.mk (show GoodE e ↔ (k = 1 ∧ gd = true ∧ bare = true ∧ m = 0 ∧ e.pay = []) ∨ (k = 2 ∧ out = true ∧ non = true ∧ 0 ≤ f ∧ f ≤ 4 ∧ 1 ≤ q ∧ sl ≤ 1024) ∨ (k = 3 ∧ out = true ∧ non = true ∧ bare = true) by
    rw [GoodE, hk, hm, hf, hq, hsl, ← HO.out, ← HN.out, ← HR.out, ← HG.out]
    simp only [decide_eq_true_eq])
  rw [hk] at c0
  rw [hdk] at d0
  rw [hf] at cf
  rw [hq] at cq
  rw [hm] at cm
  clear hk hdk hf hq hm
  go_cut [3] from 6 to 20 (fun s wx => s = .bool out ∧ wx = w1)
  case first =>
    by_cases h1 : 1 ≤ m
    · have g1 : decide (1 ≤ m) = true := decide_eq_true h1
      by_cases h2 : m ≤ 31
      · have g2 : decide (m ≤ 31) = true := decide_eq_true h2
        by_cases h3 : yl ≤ 2048
        · have g3 : decide ((yl : Int) ≤ 2048) = true := decide_eq_true (by omega)
          go_wp2_with fail
          go_meet
          case rel => exact ⟨by rw [← HO.out, decide_eq_true (HOE.out.2 ⟨h1, h2, h3⟩)], rfl⟩
        · have g3 : decide ((yl : Int) ≤ 2048) = false := decide_eq_false (by omega)
          go_wp2_with fail
          go_meet
          case rel => exact ⟨by rw [← HO.out, decide_eq_false (fun h => by have := (HOE.out.1 h).2.2; omega)], rfl⟩
      · have g2 : decide (m ≤ 31) = false := decide_eq_false h2
        go_wp2_with fail
        go_meet
        case rel => exact ⟨by rw [← HO.out, decide_eq_false (fun h => by have := (HOE.out.1 h).2.1; omega)], rfl⟩
    · have g1 : decide (1 ≤ m) = false := decide_eq_false h1
      go_wp2_with fail
      go_meet
      case rel => exact ⟨by rw [← HO.out, decide_eq_false (fun h => by have := (HOE.out.1 h).1; omega)], rfl⟩
  case rest =>
  obtain ⟨rfl, hwc⟩ := hcut
  rw [hwc]
  clear hwc
  clear HOE
  obtain ⟨kb, hkb⟩ : ∃ b, (e.d.key == []) = b := ⟨_, rfl⟩
  obtain ⟨vb, hvb⟩ : ∃ b, (e.d.val == []) = b := ⟨_, rfl⟩
  obtain ⟨sb, hsb⟩ : ∃ b, (e.sig == []) = b := ⟨_, rfl⟩
  obtain ⟨yb, hyb⟩ : ∃ b, (e.pay == []) = b := ⟨_, rfl⟩
  obtain ⟨rb, hrb⟩ : ∃ b, (e.d.ref == zeroI) = b := ⟨_, rfl⟩
  obtain ⟨pb, hpb⟩ : ∃ b, (e.prev == zeroI) = b := ⟨_, rfl⟩
  have HNB := Shut.mk (show non = (decide (dk = 0) && kb && vb && rb) by
    rw [← HN.out, ← hkb, ← hvb, ← hrb, nil_beq_dec, nil_beq_dec, Bool.eq_iff_iff]
    simp only [decide_eq_true_eq, Bool.and_eq_true, beq_iff_eq]
    rw [HNE.out]
    exact ⟨fun ⟨a, b, c, d⟩ => ⟨⟨⟨a, b⟩, c⟩, d⟩, fun ⟨⟨⟨a, b⟩, c⟩, d⟩ => ⟨a, b, c, d⟩⟩)
  have HBB := Shut.mk (show bare = (decide (f = 0) && decide (q = 0) && pb && sb) by
    rw [← HR.out, ← hpb, ← hsb, nil_beq_dec, Bool.eq_iff_iff]
    simp only [decide_eq_true_eq, Bool.and_eq_true, beq_iff_eq]
    rw [HBE.out]
    exact ⟨fun ⟨a, b, c, d⟩ => ⟨⟨⟨a, b⟩, c⟩, d⟩, fun ⟨⟨⟨a, b⟩, c⟩, d⟩ => ⟨a, b, c, d⟩⟩)
  have HYB := Shut.mk hyb
  rw [hrb] at HEQ
  rw [hpb] at HPQ
  clear HNE HBE hrb hpb
  go_upto_region 2 with (fail)
  go_cut [4] from 20 to 43 (fun s wx => s = .bool non ∧ wx = w1)
  case first =>
    have heq := HEQ.out
    by_cases h1 : dk = 0
    · have g1 : (dk == 0) = true := by simp [h1]
      rw [decide_eq_true h1, Bool.true_and] at HNB
      cases kb with
      | false =>
        go_wp2_with fail
        go_meet
        case rel => exact ⟨by rw [HNB.out]; rfl, rfl⟩
      | true =>
        cases vb with
        | false =>
          go_wp2_with fail
          go_meet
          case rel => exact ⟨by rw [HNB.out]; rfl, rfl⟩
        | true =>
          go_wp2_with (refine wpList_load_mid_want (by rfl) 26 _ rfl w.heap.size 4 rfl _ _ HD3.out Try.underlying26 rfl HSI.out ?_)
          go_meet
          case rel => exact ⟨by rw [HNB.out]; rfl, rfl⟩
    · have g1 : (dk == 0) = false := by simp [h1]
      rw [decide_eq_false h1] at HNB
      go_wp2_with fail
      go_meet
      case rel => exact ⟨by rw [HNB.out]; rfl, rfl⟩
  case rest =>
  obtain ⟨rfl, hwc⟩ := hcut
  rw [hwc]
  clear hwc HNB HEQ HD3 HSI
  go_upto_region 3 with (fail)
  go_cut [5] from 43 to 62 (fun s wx => s = .bool bare ∧ wx = w1)
  case first =>
    have heq := HPQ.out
    by_cases h1 : f = 0
    · have g1 : (f == 0) = true := by simp [h1]
      rw [decide_eq_true h1, Bool.true_and] at HBB
      by_cases h2 : q = 0
      · have g2 : (q == 0) = true := by simp [h2]
        rw [decide_eq_true h2, Bool.true_and] at HBB
        cases pb with
        | false =>
          go_wp2_with (refine wpList_load_mid_want (by rfl) 26 _ rfl w.heap.size 38 rfl _ _ HCP.out Try.underlying26 rfl HSP.out ?_)
          go_meet
          case rel => exact ⟨by rw [HBB.out]; rfl, rfl⟩
        | true =>
          go_wp2_with (refine wpList_load_mid_want (by rfl) 26 _ rfl w.heap.size 38 rfl _ _ HCP.out Try.underlying26 rfl HSP.out ?_)
          go_meet
          case rel => exact ⟨by rw [HBB.out]; rfl, rfl⟩
      · have g2 : (q == 0) = false := by simp [h2]
        rw [decide_eq_false h2] at HBB
        go_wp2_with fail
        go_meet
        case rel => exact ⟨by rw [HBB.out]; rfl, rfl⟩
    · have g1 : (f == 0) = false := by simp [h1]
      rw [decide_eq_false h1] at HBB
      go_wp2_with fail
      go_meet
      case rel => exact ⟨by rw [HBB.out]; rfl, rfl⟩
  case rest =>
  obtain ⟨rfl, hwc⟩ := hcut
  rw [hwc]
  clear hwc HBB HPQ HCP HSP
  by_cases h1 : k = 1
  · have g1 : (k == 1) = true := by simp [h1]
    have HZ := Shut.mk (show decide (GoodE e) = (gd && bare && decide (m = 0) && yb) by
      rw [← HYB.out, nil_beq_dec, Bool.eq_iff_iff]
      simp only [decide_eq_true_eq, Bool.and_eq_true]
      rw [HGE.out]
      constructor
      · rintro (⟨_, a, b, c, d⟩ | ⟨h, _⟩ | ⟨h, _⟩)
        · exact ⟨⟨⟨a, b⟩, c⟩, d⟩
        · omega
        · omega
      · rintro ⟨⟨⟨a, b⟩, c⟩, d⟩
        exact .inl ⟨h1, a, b, c, d⟩)
    clear h1
    go_wp2_with (refine wpList_load_mid rfl 28 _ rfl w.heap.size 1 rfl _ _ HCD.out Try.underlying28 rfl HSD.out ?_)
    refine (HGD.out w1).mono ?_
    rintro r w2 ⟨rfl, hb⟩
    have HB2 := Lib.hid (HB.out.trans (hb.mono HB.out.size))
    have hg := HX.out.lt
    have cm2 := (hb.cell (p := ⟨w.heap.size, 70, none⟩) hg).trans cm
    have cy2 := (hb.cell (p := ⟨w.heap.size, 71, none⟩) hg).trans cy
    clear hb HB hg cm cy
    cases gd with
    | false =>
      go_wp2_with fail
      go_ret
      exact ⟨by rw [HZ.out]; rfl, HB2.out⟩
    | true =>
      cases bare with
      | false =>
        go_wp2_with fail
        go_ret
        exact ⟨by rw [HZ.out]; rfl, HB2.out⟩
      | true =>
        by_cases h2 : m = 0
        · have g2 : (m == 0) = true := by simp [h2]
          rw [decide_eq_true h2] at HZ
          go_wp2_with fail
          go_ret
          exact ⟨by rw [HZ.out]; rfl, HB2.out⟩
        · have g2 : (m == 0) = false := by simp [h2]
          rw [decide_eq_false h2] at HZ
          go_wp2_with fail
          go_ret
          exact ⟨by rw [HZ.out]; rfl, HB2.out⟩
  have g1 : (k == 1) = false := by simp [h1]
  by_cases h2 : k = 2
  · have g2 : (k == 2) = true := by simp [h2]
    have HZ := Shut.mk (show decide (GoodE e) = (out && non && decide (0 ≤ f) && decide (f ≤ 4) && decide (1 ≤ q) && decide ((sl : Int) ≤ 1024)) by
      rw [Bool.eq_iff_iff]
      simp only [decide_eq_true_eq, Bool.and_eq_true]
      rw [HGE.out]
      constructor
      · rintro (⟨h, _⟩ | ⟨_, a, b, c, d, x, y⟩ | ⟨h, _⟩)
        · omega
        · exact ⟨⟨⟨⟨⟨a, b⟩, c⟩, d⟩, x⟩, by omega⟩
        · omega
      · rintro ⟨⟨⟨⟨⟨a, b⟩, c⟩, d⟩, x⟩, y⟩
        exact .inr (.inl ⟨h2, a, b, c, d, x, by omega⟩))
    clear h1 h2
    obtain ⟨b1, hb1⟩ : ∃ b, decide (0 ≤ f) = b := ⟨_, rfl⟩
    obtain ⟨b2, hb2⟩ : ∃ b, decide (f ≤ 4) = b := ⟨_, rfl⟩
    obtain ⟨b3, hb3⟩ : ∃ b, decide (1 ≤ q) = b := ⟨_, rfl⟩
    obtain ⟨b4, hb4⟩ : ∃ b, decide ((sl : Int) ≤ 1024) = b := ⟨_, rfl⟩
    rw [hb1, hb2, hb3, hb4] at HZ
    cases out with
    | false =>
      go_wp2_with fail
      go_ret
      exact ⟨by rw [HZ.out]; rfl, HB.out⟩
    | true =>
    cases non with
    | false =>
      go_wp2_with fail
      go_ret
      exact ⟨by rw [HZ.out]; rfl, HB.out⟩
    | true =>
    cases b1 with
    | false =>
      go_wp2_with fail
      go_ret
      exact ⟨by rw [HZ.out]; rfl, HB.out⟩
    | true =>
    cases b2 with
    | false =>
      go_wp2_with fail
      go_ret
      exact ⟨by rw [HZ.out]; rfl, HB.out⟩
    | true =>
    cases b3 with
    | false =>
      go_wp2_with fail
      go_ret
      exact ⟨by rw [HZ.out]; rfl, HB.out⟩
    | true =>
    cases b4 with
    | false =>
      go_wp2_with fail
      go_ret
      exact ⟨by rw [HZ.out]; rfl, HB.out⟩
    | true =>
      go_wp2_with fail
      go_ret
      exact ⟨by rw [HZ.out]; rfl, HB.out⟩
  have g2 : (k == 2) = false := by simp [h2]
  have HZ := Shut.mk (show decide (GoodE e) = (decide (k = 3) && out && non && bare) by
    rw [Bool.eq_iff_iff]
    simp only [decide_eq_true_eq, Bool.and_eq_true]
    rw [HGE.out]
    constructor
    · rintro (⟨h, _⟩ | ⟨h, _⟩ | ⟨a, b, c, d⟩)
      · omega
      · omega
      · exact ⟨⟨⟨a, b⟩, c⟩, d⟩
    · rintro ⟨⟨⟨a, b⟩, c⟩, d⟩
      exact .inr (.inr ⟨a, b, c, d⟩))
  by_cases h3 : k = 3
  · have g3 : (k == 3) = true := by simp [h3]
    rw [decide_eq_true h3] at HZ
    clear h1 h2 h3
    cases out with
    | false =>
      go_wp2_with fail
      go_ret
      exact ⟨by rw [HZ.out]; rfl, HB.out⟩
    | true =>
    cases non with
    | false =>
      go_wp2_with fail
      go_ret
      exact ⟨by rw [HZ.out]; rfl, HB.out⟩
    | true =>
      go_wp2_with fail
      go_ret
      exact ⟨by rw [HZ.out]; rfl, HB.out⟩
  · have g3 : (k == 3) = false := by simp [h3]
    rw [decide_eq_false h3] at HZ
    clear h1 h2 h3
    go_wp2_with fail
    go_ret
    exact ⟨by rw [HZ.out]; rfl, HB.out⟩
end Go.Proofs.Ytenmkfjgjemiiaa
namespace Go.Proofs.Ytenmkfjgjemiiaa
open Go.RowKit
theorem conv1 (w : World) (d : UInt8) : (convert 53 9 (.slice (some ⟨w.heap.size, 0, none⟩) 1 1)).run Try.prog (w.alloc (.cells #[.int .u8 (d.toNat : Int)] 5)) = .ok (.string ⟨#[d]⟩) (w.alloc (.cells #[.int .u8 (d.toNat : Int)] 5)) := by
  refine run_convert_bytes_back _ _ _ 5 ⟨w.heap.size, 0, none⟩ _ [d] Try.underlying53 Try.underlying5 Try.underlying9 ?_
  intro j hj
  have : j = 0 := by simpa using hj
  subst this
  simp [Addr.add]
theorem cat_cons (d : UInt8) (r : List UInt8) : (({ data := #[d] } : ByteArray) ++ { data := r.toArray }) = { data := (d :: r).toArray } := by
  apply ByteArray.ext; rw [ByteArray.data_append]; simp
theorem ofNat_mod_int (m : Nat) : ((UInt8.ofNat (m % 256)).toNat : Int) = (m : Int) % 256 := by
  rw [toNat_ofNat_mod]; omega
set_option maxHeartbeats 1000000 in
theorem rnumref_any (n : Nat) (w : World) (hn : n < 9223372036854775808) :
    Calls Try.prog 32 #[.int .i64 n] w fun e w' => e = .returned (.string ⟨(numB n).toArray⟩) ∧ Below w.heap.size w w' := by
  have h8 := dig_length_8 hn
  go_enter Try.func32, Try.ntmps32
  go_wp2_with fail
  go_loopw [0, 3, 4] (fun a s k wr => ∃ (m : Nat) (r : List UInt8), m < 9223372036854775808 ∧ dig m ++ r = dig n ∧ a = .int .i64 m ∧ s = .string ⟨r.toArray⟩ ∧ k = .int .i64 r.length ∧ Below w.heap.size w wr) (fun a _ _ _ => (intOf a).toNat)
  case atStart => exact ⟨n, [], hn, by simp, rfl, rfl, rfl, Below.refl _ _⟩
  case round =>
    obtain ⟨m, r, hm, hd, rfl, rfl, rfl, hbel⟩ := hrel
    have hr : r.length ≤ 8 := by have := congrArg List.length hd; simp at this; omega
    have HD := Lib.hid hd
    have HB := Lib.hid hbel
    clear hd hbel
    by_cases h0 : 0 < m
    · have hconv := conv1 wr (UInt8.ofNat (m % 256))
      rw [ofNat_mod_int] at hconv
      have hcat := cat_cons (UInt8.ofNat (m % 256)) r
      go_wp2_with fail
      refine ⟨⟨m / 256, UInt8.ofNat (m % 256) :: r, by omega, ?_, by go_num, rfl, by go_num, HB.out.alloc HB.out.size _⟩, by simp [intOf]; omega⟩
      rw [← HD.out, dig_pos (n := m) (by omega), List.append_assoc]; rfl
    · have e0 : m = 0 := by omega
      subst e0
      have hconv := conv1 wr (UInt8.ofNat r.length)
      rw [show ((UInt8.ofNat r.length).toNat : Int) = (r.length : Int) by simp; omega] at hconv
      have hcat := cat_cons (UInt8.ofNat r.length) r
      go_wp2_with fail
      go_ret
      refine ⟨?_, HB.out.alloc HB.out.size _⟩
      have e : r = dig n := by have := HD.out; rwa [dig_zero, List.nil_append] at this
      rw [numB, ← e]; rfl
theorem rtextref_any (s : List UInt8) (w : World) (hs : s.length ≤ 9223372036854775000) :
    Calls Try.prog 45 #[.string ⟨s.toArray⟩] w fun e w' => e = .returned (.string ⟨(textB s).toArray⟩) ∧ Below w.heap.size w w' := by
  have hcat : (({ data := (numB s.length).toArray } : ByteArray) ++ { data := s.toArray }) = { data := (textB s).toArray } := by
    apply ByteArray.ext; rw [ByteArray.data_append]; simp [textB]
  go_enter Try.func45, Try.ntmps45
  go_wp2_with fail
  refine (rnumref_any s.length _ (by omega)).mono ?_
  rintro e w1 ⟨rfl, hb⟩
  have HB := Lib.hid hb
  have hn := numB_length_9 (n := s.length) (by omega)
  clear hb
  go_wp2_with fail
  go_ret
  exact ⟨rfl, HB.out⟩
set_option maxHeartbeats 1000000 in
theorem rlistref_any (ao : Option Addr) (cap : Nat) (l : List (List UInt8)) (w : World) (h : StrsAt ao l w) (hl : l.length ≤ 9223372036854775807) (hlen : (listB l).length ≤ 9223372036854775000) :
    Calls Try.prog 34 #[.slice ao l.length cap] w fun e w' => e = .returned (.string ⟨(listB l).toArray⟩) ∧ Below w.heap.size w w' := by
  have HS := Lib.hid h
  have hlb := listB_length l
  have HL := Lib.hid hlb
  clear h hlb
  go_enter Try.func34, Try.ntmps34
  go_wp2_with fail
  refine (rnumref_any l.length _ (by omega)).mono ?_
  rintro e w1 ⟨rfl, hb1⟩
  have HB1 := Lib.hid hb1
  clear hb1
  go_wp2_with fail
  go_loopw [3, 11] (fun s i wr => ∃ q : Nat, q ≤ l.length ∧ i = .int .i64 q ∧ s = .string ⟨(numB l.length ++ textsB (l.take q)).toArray⟩ ∧ Below w.heap.size w wr) (fun _ i _ => l.length - (intOf i).toNat)
  case atStart => exact ⟨0, Nat.zero_le _, rfl, by simp [textsB], HB1.out⟩
  case round =>
    obtain ⟨q, hq, rfl, rfl, hbel⟩ := hrel
    by_cases hlt : q < l.length
    · have hparts := textsB_parts l q hlt
      have hlist := HL.out
      have hcell : ∃ b o, ao = some ⟨b, o, none⟩ ∧ wr.cell? ⟨b, o + q, none⟩ = some (.string ⟨l[q].toArray⟩) := by
        rcases HS.out.below hbel with h | ⟨b, o, ha, hb, hc⟩
        · subst h; simp at hlt
        · exact ⟨b, o, ha, hc q hlt⟩
      obtain ⟨cb, co, hao, hc⟩ := hcell
      have htl := textB_length l[q]
      have hlq : l[q].length ≤ 9223372036854775000 := by omega
      have hsum : (numB l.length).length + (textsB (l.take q)).length + (textB l[q]).length ≤ 9223372036854775000 := by omega
      have hcat : (({ data := (numB l.length ++ textsB (l.take q)).toArray } : ByteArray) ++ { data := (textB l[q]).toArray }) = { data := (numB l.length ++ textsB (l.take (q + 1))).toArray } := by
        apply ByteArray.ext; rw [ByteArray.data_append, textsB_take_succ l q hlt]; simp [textB, List.append_assoc]
      have HB := Lib.hid hbel
      subst hao
      clear hbel hparts htl hlist
      go_wp2_with fail
      refine (rtextref_any l[q] _ hlq).mono ?_
      rintro e w3 ⟨rfl, hb3⟩
      have HB3 := Lib.hid (HB.out.trans (hb3.mono HB.out.size))
      clear hb3 HB hc
      go_wp2_with fail
      exact ⟨⟨q + 1, by omega, by go_num, rfl, HB3.out⟩, by simp [intOf]; omega⟩
    · obtain rfl : q = l.length := by omega
      have HB := Lib.hid hbel
      clear hbel
      go_wp2_with fail
      go_ret
      exact ⟨by rw [List.take_length]; rfl, HB.out⟩
end Go.Proofs.Ytenmkfjgjemiiaa
namespace Go.Proofs.Ytenmkfjgjemiiaa
open Go.RowKit Go.BigFrame
theorem ref_num9 (n : Int) (w : World) (h2 : n ≤ 9223372036854775807) :
    Calls Try.prog 44 #[.int .i64 n] w fun e w' => e = .returned (.string ⟨(numB n.toNat).toArray⟩) ∧ Below w.heap.size w w' := by
  by_cases h0 : n < 0
  · have HN := Lib.hid (rnumref_any 0 w (by decide))
    have HE := Shut.mk (show n.toNat = 0 by omega)
    go_enter Try.func44, Try.ntmps44
    go_wp2_with fail
    refine HN.out.mono ?_
    rintro e w1 ⟨rfl, hb⟩
    have HB := Lib.hid hb
    clear hb
    go_wp2_with fail
    go_ret
    exact ⟨by rw [HE.out]; rfl, HB.out⟩
  · obtain ⟨m, rfl⟩ := Int.eq_ofNat_of_zero_le (show 0 ≤ n by omega)
    have HN := Lib.hid (rnumref_any m w (by omega))
    have hnl : ¬ (m : Int) < 0 := h0
    go_enter Try.func44, Try.ntmps44
    go_wp2_with fail
    refine HN.out.mono ?_
    rintro e w1 ⟨rfl, hb⟩
    have HB := Lib.hid hb
    clear hb
    go_wp2_with fail
    go_ret
    exact ⟨by rw [Int.toNat_natCast]; rfl, HB.out⟩
set_option maxHeartbeats 4000000 in
set_option maxRecDepth 100000 in
theorem ref_draftText (d : DraftN) (hd : d.Fit) (w : World) :
    Calls Try.prog 33 #[.agg (draftV d)] w fun e w' => e = .returned (.string ⟨(draftB d).toArray⟩) ∧ Below w.heap.size w w' := by
  have hx : Cells w.heap.size 28 (draftV d) (w.alloc (.cells (draftV d) 28)) := heap_alloc_new w _
  have hb : Below w.heap.size w (w.alloc (.cells (draftV d) 28)) := (Below.refl _ _).alloc (Nat.le_refl _) _
  have HX := Lib.hid hx
  have HB := Lib.hid hb
  have HD := Lib.hid hd
  have HLEN := Lib.hid (draftB_le9 hd)
  clear hx hb hd
  go_enter Try.func33, Try.ntmps33
  go_upto_region 1 with (fail)
  obtain ⟨w1, hw1⟩ : ∃ x, x = w.alloc (.cells (draftV d) 28) := ⟨_, rfl⟩
  rw [← hw1] at HX HB ⊢
  clear hw1
  obtain ⟨c0, c1, c2, c3⟩ := draft_cells HX.out
  have hg := HX.out.lt
  obtain ⟨k, hk⟩ : ∃ k, d.kind = k := ⟨_, rfl⟩
  have HK := Shut.mk hk
  rw [hk] at c0
  have HC0 := Lib.hid (fun (w' : World) (q : Below w1.heap.size w1 w') => (q.cell (p := ⟨w.heap.size, 0, none⟩) hg).trans c0)
  have HC1 := Lib.hid (fun (w' : World) (q : Below w1.heap.size w1 w') => (q.cell (p := ⟨w.heap.size, 1, none⟩) hg).trans c1)
  have HC2 := Lib.hid (fun (w' : World) (q : Below w1.heap.size w1 w') => (q.cell (p := ⟨w.heap.size, 2, none⟩) hg).trans c2)
  have HC3 := Lib.hid (fun (w' : World) (q : Below w1.heap.size w1 w') => conv_mid (P := Try.prog) (src := 53) (dst := 9) (c := 32) Try.underlying53 Try.underlying5 Try.underlying9 HD.out.ref.1.symm HD.out.ref.2 (rangeAt_belowI c3 q hg))
  have HN := Lib.hid (fun w' => ref_num9 k w' (by have := HD.out.high; rw [hk] at this; exact this))
  clear c0 c1 c2 c3 hg hk
  refine wp_region_class_tail (fun w' => Below w1.heap.size w1 w') 10 (by kernel_rfl) (by kernel_rfl) (Below.refl _ _).drew ?_
  simp only [List.take_succ_cons, List.take_zero, List.drop_succ_cons, List.drop_zero]
  repeat (first
    | (go_big_quiet_want; refine quiet_load_cell 3 _ rfl ⟨w.heap.size, 0, none⟩ _ rfl HC0.out Try.isAgg3 ?_; go_big_quiet_on; simp only [Act.put, List.setIfInBounds_toArray, List.set_cons_zero, List.set_cons_succ])
    | (go_big_quiet_want; refine quiet_load_cell 9 _ rfl ⟨w.heap.size, 1, none⟩ _ rfl HC1.out Try.isAgg9 ?_; go_big_quiet_on; simp only [Act.put, List.setIfInBounds_toArray, List.set_cons_zero, List.set_cons_succ])
    | (go_big_quiet_want; refine quiet_load_cell 9 _ rfl ⟨w.heap.size, 2, none⟩ _ rfl HC2.out Try.isAgg9 ?_; go_big_quiet_on; simp only [Act.put, List.setIfInBounds_toArray, List.set_cons_zero, List.set_cons_succ])
    | (go_big_quiet_want; refine quiet_conv 53 9 _ rfl (.slice (some ⟨w.heap.size, 3, none⟩) 32 32) _ rfl HC3.out ?_; go_big_quiet_on; simp only [Act.put, List.setIfInBounds_toArray, List.set_cons_zero, List.set_cons_succ])
    | go_big_quiet_step ((intro hs'; first
        | (go_at_call 44; exact (HN.out _).mono fun e w' h => ⟨h.1, hs'.trans (h.2.mono hs'.size)⟩)
        | rfl)))
  refine wpQuiet_nil ?_
  intro w2 hs2
  have HB2 := Lib.hid (HB.out.trans (hs2.mono HB.out.size))
  clear hs2 HX HB HC0 HC1 HC2 HC3 HN
  go_wp2_with fail
  refine (rlistref_any (some ⟨w2.heap.size, 0, none⟩) 4 [numB k.toNat, d.key, d.val, txt d.ref] _ (at_four9 w2 _ _ _ _) (by simp) (by have := HLEN.out; rw [draftB, HK.out] at this; omega)).mono ?_
  rintro e w3 ⟨rfl, hb⟩
  have HB3 := Lib.hid (HB2.out.trans (((Below.refl _ w2).alloc (Nat.le_refl _) _).trans (hb.mono (by simp)) |>.mono HB2.out.size))
  clear hb HB2
  go_wp2_with fail
  go_ret
  exact ⟨by rw [draftB, HK.out]; rfl, HB3.out⟩
end Go.Proofs.Ytenmkfjgjemiiaa
namespace Go.Proofs.Ytenmkfjgjemiiaa
open Go.RowKit Go.BigFrame
theorem OwnS.lit (w : World) (B : Nat) (L : List (List UInt8)) (n c : Nat) (hB : B ≤ w.heap.size) (hn : n = L.length) (hc : c = L.length) (h : L.length ≤ 1000) : OwnS B (.slice (some ⟨w.heap.size, 0, none⟩) n c) L (w.alloc (.cells (strs L).toArray 9)) := by
  subst hn hc
  have h1 := World.ownsRow_lit (base := B) (e := 9) (size := 1) w (strs L).toArray L.length hB (by unfold maxLen; omega) (by rw [List.size_toArray, strs_length, Nat.mul_one])
  exact h1
theorem op_slice_whole {P : Program} {o : Oper} {a : Act} {w : World} {K : Act → World → Prop} {Q : Exit → Act → World → Prop} (t : TypeId) (x : Operand) (ho : o.op = .slice t x none none none) (vx r : Value) (hx : a.eval x = vx)
    (hr : ∀ w, (Instr.sliceAt t vx none none none).run P w = .ok r w) (h : K (a.put o.dst r) w) : OpWp P o a w K Q := by
  refine ⟨?_⟩
  unfold Oper.wp execOp
  simp only [ho, hx, Option.map_none, Sem.run_bind, Sem.run_pure, hr, Result.andThen_ok]
  exact h
theorem slice_id (g o : Nat) (w : World) : (Instr.sliceAt 26 (.pointer (some ⟨g, o, none⟩)) none none none).run Try.prog w = .ok (.slice (some ⟨g, o, none⟩) 32 32) w := by kernel_rfl
theorem field_ent2 (g : Nat) (w : World) : (Instr.fieldAt 30 (.pointer (some ⟨g, 0, none⟩)) 2).run Try.prog w = .ok (.pointer (some ⟨g, 36, none⟩)) w := by kernel_rfl
theorem field_ent3 (g : Nat) (w : World) : (Instr.fieldAt 30 (.pointer (some ⟨g, 0, none⟩)) 3).run Try.prog w = .ok (.pointer (some ⟨g, 37, none⟩)) w := by kernel_rfl
theorem field_ent4 (g : Nat) (w : World) : (Instr.fieldAt 30 (.pointer (some ⟨g, 0, none⟩)) 4).run Try.prog w = .ok (.pointer (some ⟨g, 38, none⟩)) w := by kernel_rfl
theorem field_ent5 (g : Nat) (w : World) : (Instr.fieldAt 30 (.pointer (some ⟨g, 0, none⟩)) 5).run Try.prog w = .ok (.pointer (some ⟨g, 70, none⟩)) w := by kernel_rfl
theorem field_ent6 (g : Nat) (w : World) : (Instr.fieldAt 30 (.pointer (some ⟨g, 0, none⟩)) 6).run Try.prog w = .ok (.pointer (some ⟨g, 71, none⟩)) w := by kernel_rfl
set_option maxHeartbeats 4000000 in
set_option maxRecDepth 100000 in
theorem ref_text15 (e : EntN) (he : e.Len) (hq : e.seq < 9223372036854775808) (w : World) :
    Calls Try.prog 13 #[.agg (entV e)] w fun r w' => r = .returned (.string ⟨(entB e).toArray⟩) ∧ Below w.heap.size w w' := by
  have hx : Cells w.heap.size 30 (entV e) (w.alloc (.cells (entV e) 30)) := heap_alloc_new w _
  have hb : Below w.heap.size w (w.alloc (.cells (entV e) 30)) := (Below.refl _ _).alloc (Nat.le_refl _) _
  have HX := Lib.hid hx
  have HB := Lib.hid hb
  have HE := Lib.hid he
  have HGD := Lib.hid (fun w' => ref_good15 e he w')
  have HSE := Lib.hid (sizeEV he.ok)
  have HLE := Lib.hid (fun h : GoodE e => partsE_le h ⟨he.ok, hq⟩)
  have HQ := Lib.hid hq
  clear hx hb he hq
  obtain ⟨g, hg⟩ : ∃ b, decide (GoodE e) = b := ⟨_, rfl⟩
  have HG := Shut.mk hg
  rw [hg] at HGD
  clear hg
  go_enter Try.func13, Try.ntmps13
  go_upto_region 1 with (fail)
  obtain ⟨w1, hw1⟩ : ∃ x, x = w.alloc (.cells (entV e) 30) := ⟨_, rfl⟩
  rw [← hw1] at HX HB ⊢
  clear hw1
  have HBL := Lib.hid HX.out.lt
  have HSD := Lib.hid (show (Try.prog.info? 28).map (·.size) = some (draftL e.d).length by rw [draftL_len HE.out.ok.ref.1]; exact Try.sizeD)
  go_wp2_with (refine wpList_load_cells rfl 30 _ rfl w.heap.size (entV e) 30 _ rfl HX.out Try.underlying30 rfl HSE.out ?_)
  refine (HGD.out w1).mono ?_
  rintro r w2 ⟨rfl, hb⟩
  have HB2 := Lib.hid hb
  clear hb HGD
  cases g with
  | false =>
    have HZ := Shut.mk (entB_bad (of_decide_eq_false HG.out))
    go_wp2_with fail
    go_ret
    exact ⟨by rw [HZ.out]; rfl, HB.out.trans (HB2.out.mono HB.out.size)⟩
  | true =>
  have hgood := of_decide_eq_true HG.out
  have HZ := Shut.mk (entB_good hgood)
  have HGO := Lib.hid hgood
  have HLN := Lib.hid (HLE.out hgood)
  clear HLE HG
  obtain ⟨kk, hk, hk3⟩ : ∃ kk : Nat, e.kind = kk ∧ (kk = 1 ∨ kk = 2 ∨ kk = 3) := by
    rcases hgood with h | h | h
    · exact ⟨1, h.1, .inl rfl⟩
    · exact ⟨2, h.1, .inr (.inl rfl)⟩
    · exact ⟨3, h.1, .inr (.inr rfl)⟩
  have HK := Shut.mk hk
  have c0 := (ent_cells HE.out.ok (HX.out.below HB2.out)).1
  rw [hk] at c0
  have hkl : kk < 9223372036854775808 := by omega
  clear hk hgood
  have HK3 := Lib.hid hk3
  clear hk3
  go_wp2_with fail
  refine (rnumref_any kk w2 hkl).mono ?_
  rintro r w3 ⟨rfl, hb⟩
  have HB3 := Lib.hid (HB2.out.trans (hb.mono HB2.out.size))
  clear hb c0 HB2 hkl
  obtain ⟨N1, hN1⟩ : ∃ x, numB kk = x := ⟨_, rfl⟩
  have HN1 := Shut.mk hN1
  rw [hN1]
  clear hN1
  go_upto_region 4 with (fail)
  have HO := Lib.hid (OwnS.lit w3 w1.heap.size [N1] 1 1 HB3.out.size rfl rfl (by simp))
  obtain ⟨w4, hw4⟩ : ∃ x, x = w3.alloc (.cells #[.string ⟨N1.toArray⟩] 9) := ⟨_, rfl⟩
  have HB4 := Lib.hid (show Below w1.heap.size w1 w4 by rw [hw4]; exact HB3.out.alloc HB3.out.size _)
  rw [show (strs [N1]).toArray = #[.string ⟨N1.toArray⟩] from rfl, ← hw4] at HO
  rw [← hw4]
  clear hw4
  have HX4 := Lib.hid (HX.out.below HB4.out)
  obtain ⟨c0, cd, cf, cq, cp, cm, cy, cs⟩ := ent_cells HE.out.ok HX4.out
  have HCD := Lib.hid cd
  have HCP := Lib.hid cp
  rw [HK.out] at c0
  clear cd cp HB3
  rcases HK3.out with rfl | rfl | rfl
  · have hgood := HGO.out
    have hk1 : e.kind = 1 := HK.out
    have hd : GoodD e.d := by
      rcases hgood with h | h | h
      · exact h.2.1
      · have := h.1; omega
      · have := h.1; omega
    have HP := Shut.mk (show partsE e = [N1, draftB e.d] by rw [partsE, if_pos hk1, ← HN1.out])
    have HDT := Lib.hid (fun w' => ref_draftText e.d (hd.fit HE.out.ok.ref) w')
    have c0 : w4.cell? ⟨w.heap.size, 0, none⟩ = some (.int .i64 1) := c0
    rw [HP.out] at HZ HLN
    obtain ⟨DB, hDB⟩ : ∃ x, draftB e.d = x := ⟨_, rfl⟩
    rw [hDB] at HDT HZ HLN
    clear hk1 hd hDB HP hgood cf cq cm cy cs HCP
    go_wp2_with (refine wpList_load_mid rfl 28 _ rfl w.heap.size 1 rfl _ _ HCD.out Try.underlying28 rfl HSD.out ?_)
    refine (HDT.out w4).mono ?_
    rintro r w5 ⟨rfl, hb⟩
    have HO5 := Lib.hid (HO.out.below hb)
    have HB5 := Lib.hid (HB4.out.trans (hb.mono HB4.out.size))
    clear hb c0 HCD HX4 HB4 HO HDT
    have HS := Lib.hid (strs_lit w5 [DB] 9)
    go_wp2_with (refine wpList_push_strs rfl _ _ rfl w1.heap.size _ [N1] [DB] (some ⟨w5.heap.size, 0, none⟩) 1 1 rfl rfl (HO5.out.below ((Below.refl _ w5).alloc (Nat.le_refl _) _)) rfl HS.out (fun h => by cases h) (by simp) (Nat.le_trans HB5.out.size (by rw [World.size_alloc]; exact Nat.le_succ _)) ?_)
    intro v6 w6 ho hb _
    obtain ⟨ao6, c6, rfl⟩ := ho.out.form
    have HS6 := Lib.hid (strsAt_own ho.out)
    have HB6 := Lib.hid (HB5.out.trans (((Below.refl _ w5).alloc HB5.out.size _).trans hb.out))
    clear ho hb HS HO5 HB5
    have c0 : w6.cell? ⟨w.heap.size, 0, none⟩ = some (.int .i64 1) := by
      have h := (ent_cells HE.out.ok (HX.out.below HB6.out)).1
      rw [HK.out] at h
      exact h
    go_wp2_with fail
    refine (rlistref_any ao6 c6 [N1, DB] w6 HS6.out (by simp) (by have := HLN.out; omega)).mono ?_
    rintro r w7 ⟨rfl, hb⟩
    have HB7 := Lib.hid (HB6.out.trans (hb.mono HB6.out.size))
    clear hb
    go_wp2_with fail
    go_ret
    exact ⟨by rw [HZ.out]; rfl, HB.out.trans (HB7.out.mono HB.out.size)⟩
  · have hgood := HGO.out
    have hk1 : e.kind = 2 := HK.out
    obtain ⟨a, b, m, hf, hq, hm, hal, hbl, hml⟩ : ∃ a b m : Nat, e.src = a ∧ e.seq = b ∧ e.mask = m ∧ a < 9223372036854775808 ∧ b < 9223372036854775808 ∧ m < 9223372036854775808 := by
      rcases hgood with h | h | h
      · have := h.1; omega
      · obtain ⟨_, ⟨h1, h2, _⟩, _, h4, h5, h6, _⟩ := h
        have := HQ.out
        exact ⟨e.src.toNat, e.seq.toNat, e.mask.toNat, by omega, by omega, by omega, by omega, by omega, by omega⟩
      · have := h.1; omega
    have HP := Shut.mk (show partsE e = [N1, numB a, numB b, txt e.prev, numB m, e.pay, e.sig] by
      rw [partsE, if_neg (by omega), if_pos hk1, ← HN1.out, hf, hq, hm]
      rfl)
    have c0 : w4.cell? ⟨w.heap.size, 0, none⟩ = some (.int .i64 2) := c0
    rw [HP.out] at HZ HLN
    rw [hf] at cf
    rw [hq] at cq
    have HC6 := Lib.hid (fun (w' : World) (q : Below w4.heap.size w4 w') => (q.cell (p := ⟨w.heap.size, 36, none⟩) (Nat.lt_of_lt_of_le HBL.out HB4.out.size)).trans cf)
    have HC7 := Lib.hid (fun (w' : World) (q : Below w4.heap.size w4 w') => (q.cell (p := ⟨w.heap.size, 37, none⟩) (Nat.lt_of_lt_of_le HBL.out HB4.out.size)).trans cq)
    have HC8 := Lib.hid (fun (w' : World) (q : Below w4.heap.size w4 w') => conv_mid (P := Try.prog) (src := 53) (dst := 9) (c := 32) Try.underlying53 Try.underlying5 Try.underlying9 HE.out.ok.prev.1.symm HE.out.ok.prev.2 (rangeAt_belowI HCP.out q (Nat.lt_of_lt_of_le HBL.out HB4.out.size)))
    have HNA := Lib.hid (fun w' => rnumref_any a w' hal)
    have HNB := Lib.hid (fun w' => rnumref_any b w' hbl)
    obtain ⟨PV, hPV⟩ : ∃ x, txt e.prev = x := ⟨_, rfl⟩
    rw [hPV] at HC8 HZ HLN
    have HM := Shut.mk hm
    clear hk1 HP hgood cf cq cm cy cs HCD hf hq hm hPV hal hbl
    go_upto_region 7 with (fail)
    refine wp_region_free 11 (fun q V w' => Vals q V [(0, .slice (some ⟨w3.heap.size, 0, none⟩) 1 1), (1, .pointer (some ⟨w.heap.size, 36, none⟩)), (2, .int .i64 (a : Int)), (3, .string ⟨(numB a).toArray⟩), (4, .pointer (some ⟨w.heap.size, 37, none⟩)), (5, .int .i64 (b : Int)), (6, .string ⟨(numB b).toArray⟩), (7, .pointer (some ⟨w.heap.size, 38, none⟩)), (8, .slice (some ⟨w.heap.size, 38, none⟩) 32 32), (9, .string ⟨PV.toArray⟩)] ∧ NewS q V 10 3 ([numB a, numB b, PV]) w' ∧ Below w4.heap.size w4 w') (fun _ => undef) (by kernel_rfl) (by kernel_rfl) (by kernel_rfl) (by simp only [List.take_succ_cons, List.take_zero, putAll, Act.put, List.setIfInBounds_toArray, List.set_cons_zero, List.set_cons_succ]) ⟨Vals.none, NewS.none, (Below.refl _ _).drew⟩ ?_ ?_
    · simp only [List.take_succ_cons, List.take_zero, putAll, Nat.zero_add, Nat.reduceAdd, Act.put, List.setIfInBounds_toArray, List.set_cons_zero, List.set_cons_succ]
      refine FreeSteps.cons ?_ (FreeSteps.cons ?_ (FreeSteps.cons ?_ (FreeSteps.cons ?_ (FreeSteps.cons ?_ (FreeSteps.cons ?_ (FreeSteps.cons ?_ (FreeSteps.cons ?_ (FreeSteps.cons ?_ (FreeSteps.cons ?_ (FreeSteps.cons ?_ (FreeSteps.nil)))))))))))
      all_goals (refine FreeStep.fresh rfl ?_; rintro q V wq hr hu ⟨hVs, h10, hb⟩ K hK)
      · exact op_move (.tmp 3) rfl _ rfl (hK _ _ ⟨hVs.set rfl, h10.ne (by decide) (Below.refl _ _), hb⟩)
      · exact op_fieldAt 30 (.tmp 1) 2 rfl _ _ rfl (field_ent2 w.heap.size) (hK _ _ ⟨hVs.set rfl, h10.ne (by decide) (Below.refl _ _), hb⟩)
      · exact op_load_cell 3 (.tmp 24) rfl _ _ (hVs.get 1 (hr { on := 1, ground := .data } (by simp) rfl) rfl) (HC6.out wq hb) Try.isAgg3 (hK _ _ ⟨hVs.set rfl, h10.ne (by decide) (Below.refl _ _), hb⟩)
      · refine op_call Try.func32 rfl rfl rfl [.int .i64 (a : Int)] ((congrArg (fun x => [x]) (hVs.get 2 (hr { on := 2, ground := .data } (by simp) rfl) rfl))) (HNA.out wq) ?_
        rintro e w' ⟨rfl, hb'⟩
        exact ⟨_, rfl, (hK _ _ ⟨hVs.set rfl, h10.ne (by decide) hb', hb.trans (hb'.mono hb.size)⟩)⟩
      · exact op_fieldAt 30 (.tmp 1) 3 rfl _ _ rfl (field_ent3 w.heap.size) (hK _ _ ⟨hVs.set rfl, h10.ne (by decide) (Below.refl _ _), hb⟩)
      · exact op_load_cell 3 (.tmp 27) rfl _ _ (hVs.get 4 (hr { on := 4, ground := .data } (by simp) rfl) rfl) (HC7.out wq hb) Try.isAgg3 (hK _ _ ⟨hVs.set rfl, h10.ne (by decide) (Below.refl _ _), hb⟩)
      · refine op_call Try.func32 rfl rfl rfl [.int .i64 (b : Int)] ((congrArg (fun x => [x]) (hVs.get 5 (hr { on := 5, ground := .data } (by simp) rfl) rfl))) (HNB.out wq) ?_
        rintro e w' ⟨rfl, hb'⟩
        exact ⟨_, rfl, (hK _ _ ⟨hVs.set rfl, h10.ne (by decide) hb', hb.trans (hb'.mono hb.size)⟩)⟩
      · exact op_fieldAt 30 (.tmp 1) 4 rfl _ _ rfl (field_ent4 w.heap.size) (hK _ _ ⟨hVs.set rfl, h10.ne (by decide) (Below.refl _ _), hb⟩)
      · exact op_slice_whole 26 (.tmp 30) rfl _ _ (hVs.get 7 (hr { on := 7, ground := .data } (by simp) rfl) rfl) (slice_id w.heap.size 38) (hK _ _ ⟨hVs.set rfl, h10.ne (by decide) (Below.refl _ _), hb⟩)
      · exact op_conv 53 9 (.tmp 31) rfl _ _ (hVs.get 8 (hr { on := 8, ground := .data } (by simp) rfl) rfl) (HC8.out wq hb) (hK _ _ ⟨hVs.set rfl, h10.ne (by decide) (Below.refl _ _), hb⟩)
      · exact op_build_strs 61 9 3 #[(0, .tmp 26), (1, .tmp 29), (2, .tmp 32)] rfl [(0, .string ⟨(numB a).toArray⟩), (1, .string ⟨(numB b).toArray⟩), (2, .string ⟨PV.toArray⟩)] _ (by
            have v3 := (hVs.get 3 (hr { on := 3, ground := .data } (by simp) rfl) rfl)
            have v6 := (hVs.get 6 (hr { on := 6, ground := .data } (by simp) rfl) rfl)
            have v9 := (hVs.get 9 (hr { on := 9, ground := .data } (by simp) rfl) rfl)
            rw [List.map_toArray]
            show [((0 : Nat), V 3), (1, V 6), (2, V 9)].toArray = _
            rw [v3, v6, v9]) (built_strs3 _ _ _) (hK _ _ ⟨hVs.off rfl, .same, hb.alloc hb.size _⟩)
    rintro q V wq hall ⟨hVs, h10, hb⟩
    have v0 := hVs.get 0 (hall 0 (by decide)) rfl
    have v1 := hVs.get 1 (hall 1 (by decide)) rfl
    have v2 := hVs.get 2 (hall 2 (by decide)) rfl
    have v3 := hVs.get 3 (hall 3 (by decide)) rfl
    have v4 := hVs.get 4 (hall 4 (by decide)) rfl
    have v5 := hVs.get 5 (hall 5 (by decide)) rfl
    have v6 := hVs.get 6 (hall 6 (by decide)) rfl
    have v7 := hVs.get 7 (hall 7 (by decide)) rfl
    have v8 := hVs.get 8 (hall 8 (by decide)) rfl
    have v9 := hVs.get 9 (hall 9 (by decide)) rfl
    obtain ⟨g10, v10, hs10⟩ := h10 (hall 10 (by decide))
    simp only [List.take_succ_cons, List.take_zero, List.drop_succ_cons, List.drop_zero, putAll, Nat.zero_add, Nat.reduceAdd, v0, v1, v2, v3, v4, v5, v6, v7, v8, v9, v10, Act.put, List.setIfInBounds_toArray, List.set_cons_zero, List.set_cons_succ]
    clear hVs v0 v1 v2 v3 v4 v5 v6 v7 v8 v9 v10 hall
    obtain ⟨w5, hw5⟩ : ∃ x, x = wq := ⟨_, rfl⟩
    rw [← hw5] at hb hs10 ⊢
    clear hw5
    have HOn := Lib.hid (HO.out.below hb)
    have HB5 := Lib.hid (HB4.out.trans (hb.mono HB4.out.size))
    have HS := Lib.hid hs10
    clear hb hs10 HO HB4
    obtain ⟨NA, hNA⟩ : ∃ x, numB a = x := ⟨_, rfl⟩
    obtain ⟨NB, hNB⟩ : ∃ x, numB b = x := ⟨_, rfl⟩
    rw [hNA, hNB] at HS HZ HLN
    clear hNA hNB HC6 HC7 HC8 HNA HNB c0 HX4 HCP
    refine wpList_push_strs rfl _ _ rfl w1.heap.size _ [N1] [NA, NB, PV] (some ⟨g10, 0, none⟩) 3 3 rfl rfl HOn.out rfl HS.out (fun h => by cases h) (by simp) HB5.out.size ?_
    intro v6 w6 ho hb _
    obtain ⟨ao6, c6, rfl⟩ := ho.out.form
    have HO6 := Lib.hid ho.out
    have HB6 := Lib.hid (HB5.out.trans hb.out)
    clear ho hb HS HOn HB5
    have c0 : w6.cell? ⟨w.heap.size, 0, none⟩ = some (.int .i64 2) := by
      have h := (ent_cells HE.out.ok (HX.out.below HB6.out)).1
      rw [HK.out] at h
      exact h
    have hm := HM.out
    obtain ⟨_, _, _, _, _, cm, cy, cs⟩ := ent_cells HE.out.ok (HX.out.below HB6.out)
    rw [hm] at cm
    have HCM := Lib.hid (fun (w' : World) (q : Below w6.heap.size w6 w') => (q.cell (p := ⟨w.heap.size, 70, none⟩) (Nat.lt_of_lt_of_le HBL.out HB6.out.size)).trans cm)
    have HCY := Lib.hid (fun (w' : World) (q : Below w6.heap.size w6 w') => (q.cell (p := ⟨w.heap.size, 71, none⟩) (Nat.lt_of_lt_of_le HBL.out HB6.out.size)).trans cy)
    have HNM := Lib.hid (fun w' => rnumref_any m w' hml)
    clear cm cy cs hm
    go_upto_region 9 with (fail)
    refine wp_region_free 7 (fun q V w' => Vals q V [(0, .slice ao6 4 c6), (1, .pointer (some ⟨w.heap.size, 70, none⟩)), (2, .int .i64 (m : Int)), (3, .string ⟨(numB m).toArray⟩), (4, .pointer (some ⟨w.heap.size, 71, none⟩)), (5, .string ⟨e.pay.toArray⟩)] ∧ NewS q V 6 2 ([numB m, e.pay]) w' ∧ Below w6.heap.size w6 w') (fun _ => undef) (by kernel_rfl) (by kernel_rfl) (by kernel_rfl) (by simp only [List.take_succ_cons, List.take_zero, putAll, Act.put, List.setIfInBounds_toArray, List.set_cons_zero, List.set_cons_succ]) ⟨Vals.none, NewS.none, (Below.refl _ _).drew⟩ ?_ ?_
    · simp only [List.take_succ_cons, List.take_zero, putAll, Nat.zero_add, Nat.reduceAdd, Act.put, List.setIfInBounds_toArray, List.set_cons_zero, List.set_cons_succ]
      refine FreeSteps.cons ?_ (FreeSteps.cons ?_ (FreeSteps.cons ?_ (FreeSteps.cons ?_ (FreeSteps.cons ?_ (FreeSteps.cons ?_ (FreeSteps.cons ?_ (FreeSteps.nil)))))))
      all_goals (refine FreeStep.fresh rfl ?_; rintro q V wq hr hu ⟨hVs, h6, hb⟩ K hK)
      · exact op_move (.tmp 3) rfl _ rfl (hK _ _ ⟨hVs.set rfl, h6.ne (by decide) (Below.refl _ _), hb⟩)
      · exact op_fieldAt 30 (.tmp 1) 5 rfl _ _ rfl (field_ent5 w.heap.size) (hK _ _ ⟨hVs.set rfl, h6.ne (by decide) (Below.refl _ _), hb⟩)
      · exact op_load_cell 3 (.tmp 39) rfl _ _ (hVs.get 1 (hr { on := 1, ground := .data } (by simp) rfl) rfl) (HCM.out wq hb) Try.isAgg3 (hK _ _ ⟨hVs.set rfl, h6.ne (by decide) (Below.refl _ _), hb⟩)
      · refine op_call Try.func32 rfl rfl rfl [.int .i64 (m : Int)] ((congrArg (fun x => [x]) (hVs.get 2 (hr { on := 2, ground := .data } (by simp) rfl) rfl))) (HNM.out wq) ?_
        rintro e w' ⟨rfl, hb'⟩
        exact ⟨_, rfl, (hK _ _ ⟨hVs.set rfl, h6.ne (by decide) hb', hb.trans (hb'.mono hb.size)⟩)⟩
      · exact op_fieldAt 30 (.tmp 1) 6 rfl _ _ rfl (field_ent6 w.heap.size) (hK _ _ ⟨hVs.set rfl, h6.ne (by decide) (Below.refl _ _), hb⟩)
      · exact op_load_cell 9 (.tmp 42) rfl _ _ (hVs.get 4 (hr { on := 4, ground := .data } (by simp) rfl) rfl) (HCY.out wq hb) Try.isAgg9 (hK _ _ ⟨hVs.set rfl, h6.ne (by decide) (Below.refl _ _), hb⟩)
      · exact op_build_strs 61 9 2 #[(0, .tmp 41), (1, .tmp 43)] rfl [(0, .string ⟨(numB m).toArray⟩), (1, .string ⟨e.pay.toArray⟩)] _ (by
            have v3 := (hVs.get 3 (hr { on := 3, ground := .data } (by simp) rfl) rfl)
            have v5 := (hVs.get 5 (hr { on := 5, ground := .data } (by simp) rfl) rfl)
            rw [List.map_toArray]
            show [((0 : Nat), V 3), (1, V 5)].toArray = _
            rw [v3, v5]) (built_strs2 _ _) (hK _ _ ⟨hVs.off rfl, .same, hb.alloc hb.size _⟩)
    rintro q V wq hall ⟨hVs, h6, hb⟩
    have v0 := hVs.get 0 (hall 0 (by decide)) rfl
    have v1 := hVs.get 1 (hall 1 (by decide)) rfl
    have v2 := hVs.get 2 (hall 2 (by decide)) rfl
    have v3 := hVs.get 3 (hall 3 (by decide)) rfl
    have v4 := hVs.get 4 (hall 4 (by decide)) rfl
    have v5 := hVs.get 5 (hall 5 (by decide)) rfl
    obtain ⟨g6, v6, hs6⟩ := h6 (hall 6 (by decide))
    simp only [List.take_succ_cons, List.take_zero, List.drop_succ_cons, List.drop_zero, putAll, Nat.zero_add, Nat.reduceAdd, v0, v1, v2, v3, v4, v5, v6, Act.put, List.setIfInBounds_toArray, List.set_cons_zero, List.set_cons_succ]
    clear hVs v0 v1 v2 v3 v4 v5 v6 hall
    obtain ⟨w7, hw7⟩ : ∃ x, x = wq := ⟨_, rfl⟩
    rw [← hw7] at hb hs6 ⊢
    clear hw7
    have HOn := Lib.hid (HO6.out.below hb)
    have HB7 := Lib.hid (HB6.out.trans (hb.mono HB6.out.size))
    have HS := Lib.hid hs6
    clear hb hs6 HO6 HB6
    obtain ⟨NM, hNM⟩ : ∃ x, numB m = x := ⟨_, rfl⟩
    rw [hNM] at HS HZ HLN
    clear hNM
    refine wpList_push_strs rfl _ _ rfl w1.heap.size _ [N1, NA, NB, PV] [NM, e.pay] (some ⟨g6, 0, none⟩) 2 2 rfl rfl HOn.out rfl HS.out (fun h => by cases h) (by simp) HB7.out.size ?_
    intro v8 w8 ho hb _
    obtain ⟨ao8, c8, rfl⟩ := ho.out.form
    have HO8 := Lib.hid ho.out
    have HB8 := Lib.hid (HB7.out.trans hb.out)
    clear ho hb HS HOn HB7
    have c0 : w8.cell? ⟨w.heap.size, 0, none⟩ = some (.int .i64 2) := by
      have h := (ent_cells HE.out.ok (HX.out.below HB8.out)).1
      rw [HK.out] at h
      exact h
    have cs := (ent_cells HE.out.ok (HX.out.below HB8.out)).2.2.2.2.2.2.2
    have HS := Lib.hid (strs_lit w8 [e.sig] 9)
    go_wp2_with (refine wpList_push_strs rfl _ _ rfl w1.heap.size _ [N1, NA, NB, PV, NM, e.pay] [e.sig] (some ⟨w8.heap.size, 0, none⟩) 1 1 rfl rfl (HO8.out.below ((Below.refl _ w8).alloc (Nat.le_refl _) _)) rfl HS.out (fun h => by cases h) (by simp) (Nat.le_trans HB8.out.size (by rw [World.size_alloc]; exact Nat.le_succ _)) ?_)
    intro v9 w9 ho hb _
    obtain ⟨ao9, c9, rfl⟩ := ho.out.form
    have HS9 := Lib.hid (strsAt_own ho.out)
    have HB9 := Lib.hid (HB8.out.trans (((Below.refl _ w8).alloc HB8.out.size _).trans hb.out))
    clear ho hb HS HO8 HB8 cs c0
    go_wp2_with fail
    refine (rlistref_any ao9 c9 [N1, NA, NB, PV, NM, e.pay, e.sig] w9 HS9.out (by simp) (by have := HLN.out; omega)).mono ?_
    rintro r wa ⟨rfl, hb⟩
    have HBa := Lib.hid (HB9.out.trans (hb.mono HB9.out.size))
    clear hb
    go_wp2_with fail
    go_ret
    exact ⟨by rw [HZ.out]; rfl, HB.out.trans (HBa.out.mono HB.out.size)⟩
  · have hgood := HGO.out
    have hk1 : e.kind = 3 := HK.out
    obtain ⟨m, hm, hml⟩ : ∃ m : Nat, e.mask = m ∧ m < 9223372036854775808 := by
      rcases hgood with h | h | h
      · have := h.1; omega
      · have := h.1; omega
      · obtain ⟨_, ⟨h1, h2, _⟩, _⟩ := h
        exact ⟨e.mask.toNat, by omega, by omega⟩
    have HP := Shut.mk (show partsE e = [N1, numB m, e.pay] by
      rw [partsE, if_neg (by omega), if_neg (by omega), ← HN1.out, hm]
      rfl)
    have c0 : w4.cell? ⟨w.heap.size, 0, none⟩ = some (.int .i64 3) := c0
    rw [HP.out] at HZ HLN
    clear hk1 HP hgood cf cq cm cy cs HCD HCP HX4
    obtain ⟨_, _, _, _, _, cm, cy, cs⟩ := ent_cells HE.out.ok (HX.out.below HB4.out)
    rw [hm] at cm
    have HCM := Lib.hid (fun (w' : World) (q : Below w4.heap.size w4 w') => (q.cell (p := ⟨w.heap.size, 70, none⟩) (Nat.lt_of_lt_of_le HBL.out HB4.out.size)).trans cm)
    have HCY := Lib.hid (fun (w' : World) (q : Below w4.heap.size w4 w') => (q.cell (p := ⟨w.heap.size, 71, none⟩) (Nat.lt_of_lt_of_le HBL.out HB4.out.size)).trans cy)
    have HNM := Lib.hid (fun w' => rnumref_any m w' hml)
    clear cm cy cs hm
    go_upto_region 9 with (fail)
    refine wp_region_free 7 (fun q V w' => Vals q V [(0, .slice (some ⟨w3.heap.size, 0, none⟩) 1 1), (1, .pointer (some ⟨w.heap.size, 70, none⟩)), (2, .int .i64 (m : Int)), (3, .string ⟨(numB m).toArray⟩), (4, .pointer (some ⟨w.heap.size, 71, none⟩)), (5, .string ⟨e.pay.toArray⟩)] ∧ NewS q V 6 2 ([numB m, e.pay]) w' ∧ Below w4.heap.size w4 w') (fun _ => undef) (by kernel_rfl) (by kernel_rfl) (by kernel_rfl) (by simp only [List.take_succ_cons, List.take_zero, putAll, Act.put, List.setIfInBounds_toArray, List.set_cons_zero, List.set_cons_succ]) ⟨Vals.none, NewS.none, (Below.refl _ _).drew⟩ ?_ ?_
    · simp only [List.take_succ_cons, List.take_zero, putAll, Nat.zero_add, Nat.reduceAdd, Act.put, List.setIfInBounds_toArray, List.set_cons_zero, List.set_cons_succ]
      refine FreeSteps.cons ?_ (FreeSteps.cons ?_ (FreeSteps.cons ?_ (FreeSteps.cons ?_ (FreeSteps.cons ?_ (FreeSteps.cons ?_ (FreeSteps.cons ?_ (FreeSteps.nil)))))))
      all_goals (refine FreeStep.fresh rfl ?_; rintro q V wq hr hu ⟨hVs, h6, hb⟩ K hK)
      · exact op_move (.tmp 3) rfl _ rfl (hK _ _ ⟨hVs.set rfl, h6.ne (by decide) (Below.refl _ _), hb⟩)
      · exact op_fieldAt 30 (.tmp 1) 5 rfl _ _ rfl (field_ent5 w.heap.size) (hK _ _ ⟨hVs.set rfl, h6.ne (by decide) (Below.refl _ _), hb⟩)
      · exact op_load_cell 3 (.tmp 39) rfl _ _ (hVs.get 1 (hr { on := 1, ground := .data } (by simp) rfl) rfl) (HCM.out wq hb) Try.isAgg3 (hK _ _ ⟨hVs.set rfl, h6.ne (by decide) (Below.refl _ _), hb⟩)
      · refine op_call Try.func32 rfl rfl rfl [.int .i64 (m : Int)] ((congrArg (fun x => [x]) (hVs.get 2 (hr { on := 2, ground := .data } (by simp) rfl) rfl))) (HNM.out wq) ?_
        rintro e w' ⟨rfl, hb'⟩
        exact ⟨_, rfl, (hK _ _ ⟨hVs.set rfl, h6.ne (by decide) hb', hb.trans (hb'.mono hb.size)⟩)⟩
      · exact op_fieldAt 30 (.tmp 1) 6 rfl _ _ rfl (field_ent6 w.heap.size) (hK _ _ ⟨hVs.set rfl, h6.ne (by decide) (Below.refl _ _), hb⟩)
      · exact op_load_cell 9 (.tmp 42) rfl _ _ (hVs.get 4 (hr { on := 4, ground := .data } (by simp) rfl) rfl) (HCY.out wq hb) Try.isAgg9 (hK _ _ ⟨hVs.set rfl, h6.ne (by decide) (Below.refl _ _), hb⟩)
      · exact op_build_strs 61 9 2 #[(0, .tmp 41), (1, .tmp 43)] rfl [(0, .string ⟨(numB m).toArray⟩), (1, .string ⟨e.pay.toArray⟩)] _ (by
            have v3 := (hVs.get 3 (hr { on := 3, ground := .data } (by simp) rfl) rfl)
            have v5 := (hVs.get 5 (hr { on := 5, ground := .data } (by simp) rfl) rfl)
            rw [List.map_toArray]
            show [((0 : Nat), V 3), (1, V 5)].toArray = _
            rw [v3, v5]) (built_strs2 _ _) (hK _ _ ⟨hVs.off rfl, .same, hb.alloc hb.size _⟩)
    rintro q V wq hall ⟨hVs, h6, hb⟩
    have v0 := hVs.get 0 (hall 0 (by decide)) rfl
    have v1 := hVs.get 1 (hall 1 (by decide)) rfl
    have v2 := hVs.get 2 (hall 2 (by decide)) rfl
    have v3 := hVs.get 3 (hall 3 (by decide)) rfl
    have v4 := hVs.get 4 (hall 4 (by decide)) rfl
    have v5 := hVs.get 5 (hall 5 (by decide)) rfl
    obtain ⟨g6, v6, hs6⟩ := h6 (hall 6 (by decide))
    simp only [List.take_succ_cons, List.take_zero, List.drop_succ_cons, List.drop_zero, putAll, Nat.zero_add, Nat.reduceAdd, v0, v1, v2, v3, v4, v5, v6, Act.put, List.setIfInBounds_toArray, List.set_cons_zero, List.set_cons_succ]
    clear hVs v0 v1 v2 v3 v4 v5 v6 hall
    obtain ⟨w5, hw5⟩ : ∃ x, x = wq := ⟨_, rfl⟩
    rw [← hw5] at hb hs6 ⊢
    clear hw5
    have HOn := Lib.hid (HO.out.below hb)
    have HB5 := Lib.hid (HB4.out.trans (hb.mono HB4.out.size))
    have HS := Lib.hid hs6
    clear hb hs6 HO HB4
    obtain ⟨NM, hNM⟩ : ∃ x, numB m = x := ⟨_, rfl⟩
    rw [hNM] at HS HZ HLN
    clear hNM
    refine wpList_push_strs rfl _ _ rfl w1.heap.size _ [N1] [NM, e.pay] (some ⟨g6, 0, none⟩) 2 2 rfl rfl HOn.out rfl HS.out (fun h => by cases h) (by simp) HB5.out.size ?_
    intro v6 w6 ho hb _
    obtain ⟨ao6, c6, rfl⟩ := ho.out.form
    have HO6 := Lib.hid ho.out
    have HB6 := Lib.hid (HB5.out.trans hb.out)
    clear ho hb HS HOn HB5
    have c0 : w6.cell? ⟨w.heap.size, 0, none⟩ = some (.int .i64 3) := by
      have h := (ent_cells HE.out.ok (HX.out.below HB6.out)).1
      rw [HK.out] at h
      exact h
    have HS6 := Lib.hid (strsAt_own HO6.out)
    go_wp2_with fail
    refine (rlistref_any ao6 c6 [N1, NM, e.pay] w6 HS6.out (by simp) (by have := HLN.out; omega)).mono ?_
    rintro r wa ⟨rfl, hb⟩
    have HBa := Lib.hid (HB6.out.trans (hb.mono HB6.out.size))
    clear hb
    go_wp2_with fail
    go_ret
    exact ⟨by rw [HZ.out]; rfl, HB.out.trans (HBa.out.mono HB.out.size)⟩
end Go.Proofs.Ytenmkfjgjemiiaa
namespace Go.Proofs.Ytenmkfjgjemiiaa
open Go.RowKit Go.BigFrame
theorem ref_num15 (s : List UInt8) (w : World) (hs : s.length ≤ 9223372036854775000) :
    Calls Try.prog 38 #[.string ⟨s.toArray⟩] w fun e w' => e = .returned (.int .i64 (numI s)) ∧ Below w.heap.size w w' := by
  have hc := rtn_any s w hs
  have HA := Shut.mk (show numI s = match (match takeNum s with | some (n, []) => some n | _ => none) with | some n => (n : Int) | none => -1 from rfl)
  cases ht : takeNum s with
  | none =>
    rw [ht] at hc HA
    simp only [Option.getD_none, Option.isSome_none] at hc
    have HC := Lib.hid hc
    clear hc ht hs
    go_enter Try.func38, Try.ntmps38
    go_wp2_with fail
    refine HC.out.mono ?_
    rintro e w1 ⟨rfl, hb⟩
    have HB := Lib.hid hb
    clear hb
    go_wp2_with fail
    go_ret
    exact ⟨by rw [HA.out]; rfl, HB.out⟩
  | some p =>
    obtain ⟨n, r⟩ := p
    rw [ht] at hc HA
    simp only [Option.getD_some, Option.isSome_some] at hc
    have HC := Lib.hid hc
    clear hc ht hs
    cases r with
    | nil =>
      go_enter Try.func38, Try.ntmps38
      go_wp2_with fail
      refine HC.out.mono ?_
      rintro e w1 ⟨rfl, hb⟩
      have HB := Lib.hid hb
      clear hb
      go_wp2_with fail
      go_ret
      exact ⟨by rw [HA.out]; rfl, HB.out⟩
    | cons c r =>
      have hne : ((c :: r) == []) = false := rfl
      obtain ⟨q, hq⟩ : ∃ q, c :: r = q := ⟨_, rfl⟩
      rw [hq] at HC hne
      clear hq
      go_enter Try.func38, Try.ntmps38
      go_wp2_with fail
      refine HC.out.mono ?_
      rintro e w1 ⟨rfl, hb⟩
      have HB := Lib.hid hb
      clear hb
      go_wp2_with fail
      go_ret
      exact ⟨by rw [HA.out]; rfl, HB.out⟩
end Go.Proofs.Ytenmkfjgjemiiaa
