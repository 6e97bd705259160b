/-
  What the laws of layer 8 ask first: alive.
-/
import Derived.Test.YthnagnjcbgcnfaaSegDev
namespace Go.Proofs.Ythnagnjcbgcnfaa
open Go.RowKit Go.BigFrame

/-- Rows of texts that lie outside of O. -/
def Rest (O : Nat → Prop) (X : List (Option Addr × List (List UInt8))) (w : World) : Prop := ∀ x ∈ X, StrsAt x.1 x.2 w ∧ (x.2 ≠ [] → ∀ a, x.1 = some a → ¬ O a.block)
theorem Rest.nil (O : Nat → Prop) (w : World) : Rest O [] w := fun x hx => by cases hx
theorem StrsAt.only {O : Nat → Prop} {ao : Option Addr} {l : List (List UInt8)} {w w' : World} (h : StrsAt ao l w) (k : Only O w w') (hb : l ≠ [] → ∀ a, ao = some a → ¬ O a.block) : StrsAt ao l w' := by
  by_cases hl : l = []
  · exact .inl hl
  rcases h with h | ⟨b, o, ha, hlt, hc⟩
  · exact .inl h
  · exact .inr ⟨b, o, ha, Nat.lt_of_lt_of_le hlt k.size, fun j hj => (World.cell?_of_block (w := w) (a := ⟨b, o + j, none⟩) (k.block b hlt (hb hl _ ha))).trans (hc j hj)⟩
theorem StrsAt.lt {ao : Option Addr} {l : List (List UInt8)} {w : World} (h : StrsAt ao l w) (hl : l ≠ []) {a : Addr} (ha : ao = some a) : a.block < w.heap.size := by
  rcases h with h | ⟨b, o, hb, hlt, _⟩
  · exact absurd h hl
  · rw [ha] at hb
    obtain rfl := Option.some.inj hb
    exact hlt
theorem Rest.below {O : Nat → Prop} {X : List (Option Addr × List (List UInt8))} {w w' : World} (h : Rest O X w) (k : Below w.heap.size w w') : Rest O X w' := fun x hx => ⟨(h x hx).1.below k, (h x hx).2⟩
theorem Rest.turn {O O' : Nat → Prop} {X : List (Option Addr × List (List UInt8))} {w w' : World} (h : Rest O X w) (k : Turn O O' w w') : Rest O' X w' := fun x hx => by
  refine ⟨(h x hx).1.only k.only (h x hx).2, fun hne a ha e => ?_⟩
  rcases k.own _ e with h1 | h1
  · exact (h x hx).2 hne a ha h1
  · have := (h x hx).1.lt hne ha
    omega
theorem Rest.cons {O : Nat → Prop} {X : List (Option Addr × List (List UInt8))} {ao : Option Addr} {T : List (List UInt8)} {w : World} (h : Rest O X w) (hs : StrsAt ao T w) (ho : T ≠ [] → ∀ a, ao = some a → ¬ O a.block) : Rest O ((ao, T) :: X) w := fun x hx => by
  rcases List.mem_cons.1 hx with rfl | hx
  · exact ⟨hs, ho⟩
  · exact h x hx
theorem Rest.sub {O : Nat → Prop} {X Y : List (Option Addr × List (List UInt8))} {w : World} (h : Rest O X w) (hY : ∀ y ∈ Y, y ∈ X) : Rest O Y w := fun y hy => h y (hY y hy)
/-- A disk and a seg that the call made, and rows of texts beside them. -/
def SegL (B : Nat) (w0 : World) (vd vs : Value) (s : DS) (e : Nat) (S : List UInt8) (X : List (Option Addr × List (List UInt8))) (w : World) : Prop :=
  ∃ O P, DiskIs O vd s w ∧ SegIs P vs vd e S w ∧ (∀ b, O b → ¬ P b) ∧ (∀ b, OrO O P b → B ≤ b) ∧ Rest (OrO O P) X w ∧ Below B w0 w ∧ B ≤ w.heap.size
theorem SegL.below {B : Nat} {w0 : World} {vd vs : Value} {s : DS} {e : Nat} {S : List UInt8} {X : List (Option Addr × List (List UInt8))} {w w' : World} (h : SegL B w0 vd vs s e S X w) (k : Below w.heap.size w w') : SegL B w0 vd vs s e S X w' := by
  obtain ⟨O, P, hd, hs, hap, hO, hX, hb, hB⟩ := h
  exact ⟨O, P, hd.only (Only.of (O := fun _ => False) k) (fun _ _ => id), hs.only (Only.of (O := fun _ => False) k) (fun _ _ => id), hap, hO, hX.below k, hb.trans (k.mono hB), Nat.le_trans hB k.size⟩
theorem SegL.sub {B : Nat} {w0 : World} {vd vs : Value} {s : DS} {e : Nat} {S : List UInt8} {X Y : List (Option Addr × List (List UInt8))} {w : World} (h : SegL B w0 vd vs s e S X w) (hY : ∀ y ∈ Y, y ∈ X) : SegL B w0 vd vs s e S Y w := by
  obtain ⟨O, P, hd, hs, hap, hO, hX, hb, hB⟩ := h
  exact ⟨O, P, hd, hs, hap, hO, hX.sub hY, hb, hB⟩
theorem SegL.world {B : Nat} {w0 : World} {vd vs : Value} {s : DS} {e : Nat} {S : List UInt8} {X : List (Option Addr × List (List UInt8))} {w : World} (h : SegL B w0 vd vs s e S X w) : Below B w0 w ∧ B ≤ w.heap.size := by
  obtain ⟨O, P, _, _, _, _, _, hb, hB⟩ := h
  exact ⟨hb, hB⟩
theorem SegL.row {B : Nat} {w0 : World} {vd vs : Value} {s : DS} {e : Nat} {S : List UInt8} {X : List (Option Addr × List (List UInt8))} {w : World} (h : SegL B w0 vd vs s e S X w) {x : Option Addr × List (List UInt8)} (hx : x ∈ X) : StrsAt x.1 x.2 w := by
  obtain ⟨O, P, _, _, _, _, hX, _, _⟩ := h
  exact (hX x hx).1
/-- A row that is new, or was there before all. -/
theorem SegL.add {B : Nat} {w0 : World} {vd vs : Value} {s : DS} {e : Nat} {S : List UInt8} {X : List (Option Addr × List (List UInt8))} {ao : Option Addr} {T : List (List UInt8)} {w w' : World} (h : SegL B w0 vd vs s e S X w) (k : Below w.heap.size w w') (hs : StrsAt ao T w') (ho : T ≠ [] → ∀ a, ao = some a → a.block < B ∨ w.heap.size ≤ a.block) : SegL B w0 vd vs s e S ((ao, T) :: X) w' := by
  obtain ⟨O, P, hd, hsg, hap, hO, hX, hb, hB⟩ := h
  refine ⟨O, P, hd.only (Only.of (O := fun _ => False) k) (fun _ _ => id), hsg.only (Only.of (O := fun _ => False) k) (fun _ _ => id), hap, hO, (hX.below k).cons hs (fun hne a ha e => ?_), hb.trans (k.mono hB), Nat.le_trans hB k.size⟩
  rcases ho hne a ha with h1 | h1
  · have := hO _ e
    omega
  · rcases e with e | e
    · have := hd.lt _ e
      omega
    · have := hsg.lt _ e
      omega
/-- A disk that the call made, and rows of texts beside it. -/
def LoneD (B : Nat) (w0 : World) (vd : Value) (s : DS) (X : List (Option Addr × List (List UInt8))) (w : World) : Prop := ∃ O, DiskIs O vd s w ∧ (∀ b, O b → B ≤ b) ∧ Rest O X w ∧ Below B w0 w ∧ B ≤ w.heap.size
theorem LoneD.below {B : Nat} {w0 : World} {vd : Value} {s : DS} {X : List (Option Addr × List (List UInt8))} {w w' : World} (h : LoneD B w0 vd s X w) (k : Below w.heap.size w w') : LoneD B w0 vd s X w' := by
  obtain ⟨O, hd, hO, hX, hb, hB⟩ := h
  exact ⟨O, hd.only (Only.of (O := fun _ => False) k) (fun _ _ => id), hO, hX.below k, hb.trans (k.mono hB), Nat.le_trans hB k.size⟩
theorem LoneD.step {B : Nat} {w0 : World} {v : Value} {s' : DS} {X : List (Option Addr × List (List UInt8))} {w w' : World} {O O' : Nat → Prop} (hO : ∀ b, O b → B ≤ b) (hX : Rest O X w) (hb : Below B w0 w) (hB : B ≤ w.heap.size) (hd : DiskIs O' v s' w') (ht : Turn O O' w w') : LoneD B w0 v s' X w' :=
  ⟨O', hd, fun b h => (ht.own b h).elim (hO b) (Nat.le_trans hB), hX.turn ht, Only.toBelow hb ht.only hO hB, Nat.le_trans hB ht.only.size⟩
theorem LoneD.row {B : Nat} {w0 : World} {vd : Value} {s : DS} {X : List (Option Addr × List (List UInt8))} {w : World} (h : LoneD B w0 vd s X w) {x : Option Addr × List (List UInt8)} (hx : x ∈ X) : StrsAt x.1 x.2 w := by
  obtain ⟨O, _, _, hX, _, _⟩ := h
  exact (hX x hx).1
theorem LoneD.add {B : Nat} {w0 : World} {vd : Value} {s : DS} {X : List (Option Addr × List (List UInt8))} {ao : Option Addr} {T : List (List UInt8)} {w w' : World} (h : LoneD B w0 vd s X w) (k : Below w.heap.size w w') (hs : StrsAt ao T w') (ho : T ≠ [] → ∀ a, ao = some a → a.block < B ∨ w.heap.size ≤ a.block) : LoneD B w0 vd s ((ao, T) :: X) w' := by
  obtain ⟨O, hd, hO, hX, hb, hB⟩ := h
  refine ⟨O, hd.only (Only.of (O := fun _ => False) k) (fun _ _ => id), hO, (hX.below k).cons hs (fun hne a ha e => ?_), hb.trans (k.mono hB), Nat.le_trans hB k.size⟩
  rcases ho hne a ha with h1 | h1
  · have := hO _ e
    omega
  · have := hd.lt _ e
    omega
theorem LoneD.sub {B : Nat} {w0 : World} {vd : Value} {s : DS} {X Y : List (Option Addr × List (List UInt8))} {w : World} (h : LoneD B w0 vd s X w) (hY : ∀ y ∈ Y, y ∈ X) : LoneD B w0 vd s Y w := by
  obtain ⟨O, hd, hO, hX, hb, hB⟩ := h
  exact ⟨O, hd, hO, hX.sub hY, hb, hB⟩
theorem LoneD.world {B : Nat} {w0 : World} {vd : Value} {s : DS} {X : List (Option Addr × List (List UInt8))} {w : World} (h : LoneD B w0 vd s X w) : Below B w0 w ∧ B ≤ w.heap.size := by
  obtain ⟨O, _, _, _, hb, hB⟩ := h
  exact ⟨hb, hB⟩
theorem SegL.lone {B : Nat} {w0 : World} {vd vs : Value} {s : DS} {e : Nat} {S : List UInt8} {X : List (Option Addr × List (List UInt8))} {w : World} (h : SegL B w0 vd vs s e S X w) : LoneD B w0 vd s X w := by
  obtain ⟨O, P, hd, _, _, hO, hX, hb, hB⟩ := h
  exact ⟨O, hd, fun b hb => hO b (.inl hb), fun x hx => ⟨(hX x hx).1, fun hne a ha e => (hX x hx).2 hne a ha (.inl e)⟩, hb, hB⟩
/-- Open of a disk that the call made. -/
theorem LoneD.open {B : Nat} {w0 : World} {vd : Value} {s : DS} {X : List (Option Addr × List (List UInt8))} {e : Nat} {R : List (List UInt8)} {w : World} (h : LoneD B w0 vd s X w) (hf : Fit s 900000) (ho : s.off = false) (hop : Opens (nowS s) e (textsB R)) (hR : ∀ r ∈ R, r.length ≤ 250000) :
    Calls Try.prog 8 #[vd] w fun x w' => ∃ sa ao c, x = .returned (.tuple #[.pointer (some sa), .slice ao R.length c, .int .i64 0]) ∧ SegL B w0 vd (.pointer (some sa)) s e (textsB R) ((ao, R) :: X) w' ∧ Below w.heap.size w w' := by
  obtain ⟨O, hd, hO, hX, hb, hB⟩ := h
  refine (dev8_open O vd s e R w hd hf ho hop hR).mono fun x w' he => ?_
  obtain ⟨⟨vs, P, ao, c, rfl, hs, hP, ha, han⟩, hb2⟩ := he
  obtain ⟨sa, rfl⟩ := hs.ptr
  have hlt := hd.lt
  refine ⟨sa, ao, c, rfl, ⟨O, P, hd.only (Only.of (O := fun _ => False) hb2) (fun _ _ => id), hs, fun b h1 h2 => ?_, fun b h => h.elim (hO b) (fun h => Nat.le_trans hB (hP b h)), ?_, hb.trans (hb2.mono hB), Nat.le_trans hB hb2.size⟩, hb2⟩
  · have := hlt b h1
    have := hP b h2
    omega
  · refine Rest.cons (fun x hx => ⟨(hX x hx).1.below hb2, fun hne a haa e => ?_⟩) ha (fun hne a haa e => ?_)
    · rcases e with e | e
      · exact (hX x hx).2 hne a haa e
      · have := (hX x hx).1.lt hne haa
        have := hP _ e
        omega
    · obtain ⟨h1, h2⟩ := han hne a haa
      rcases e with e | e
      · have := hlt _ e
        omega
      · exact h2 e
theorem SegL.len {B : Nat} {w0 : World} {vd vs : Value} {s : DS} {e : Nat} {S : List UInt8} {X : List (Option Addr × List (List UInt8))} {w : World} (h : SegL B w0 vd vs s e S X w) (hS : S.length ≤ 3000000) :
    Calls Try.prog 14 #[vs] w fun x w' => x = .returned (.int .i64 (S.length : Nat)) ∧ Below w.heap.size w w' := by
  obtain ⟨O, P, _, hs, _⟩ := h
  exact dev8_len P vs vd e S w hs hS
theorem LoneD.read {B : Nat} {w0 : World} {vd : Value} {s : DS} {X : List (Option Addr × List (List UInt8))} {w : World} (h : LoneD B w0 vd s X w) (hf : Fit s 999999) (at' : Int) :
    Calls Try.prog 15 #[vd, .int .i64 at'] w fun e w' => (∃ ao c, e = .returned (.tuple #[.slice ao (readB s at').length c, .int .i64 (whyS s at' : Nat)]) ∧ NewB w.heap.size ao (readB s at') w' ∧ (readB s at').length ≤ c) ∧ Below w.heap.size w w' := by
  obtain ⟨O, hd, _⟩ := h
  exact dev7_read_cap O vd s at' w hd hf
/-- Append on it. -/
theorem SegL.app {B : Nat} {w0 : World} {vd vs : Value} {s : DS} {e : Nat} {S : List UInt8} {X : List (Option Addr × List (List UInt8))} {L : List (List UInt8)} {lo : Option Addr} {lc n : Nat} {w : World} (h : SegL B w0 vd vs s e S X w) (hx : (lo, L) ∈ X) (hl : Live s e S) (hf : Fit s n) (hn : n + s.safe.length + 4 ≤ 900000)
    (hLl : ∀ t ∈ L, t.length ≤ 250000) (hfit : (S ++ textsB L).length ≤ 128 * (s.safe.length - 2)) (he : e + 1 ≤ 4611686018427387904) :
    Calls Try.prog 10 #[vs, .slice lo L.length lc] w fun x w' => ∃ E s', x = .returned (.int .i64 (E : Nat)) ∧ LoneD B w0 vd s' X w' ∧ Fit s' (n + s.safe.length + 4) ∧ s'.safe.length = s.safe.length ∧ AppR s e S (S ++ textsB L) E s' (SegL B w0 vd vs s' (e + 1) (S ++ textsB L) X w') := by
  obtain ⟨O, P, hd, hs, hap, hO, hX, hb, hB⟩ := h
  refine (dev8_append O P vs vd s e S L lo lc n w hd hs hap hl hf hn (hX _ hx).1 (hX _ hx).2 hLl hfit he).mono fun x w' hh => ?_
  obtain ⟨E, s', O', P', rfl, hd', ht, hap', hf', hl', hR⟩ := hh
  have hO' : ∀ b, OrO O' P' b → B ≤ b := fun b h => (ht.own b h).elim (hO b) (Nat.le_trans hB)
  have hX' := hX.turn ht
  have hb' := Only.toBelow hb ht.only hO hB
  have hB' := Nat.le_trans hB ht.only.size
  refine ⟨E, s', rfl, ⟨O', hd', fun b h => hO' b (.inl h), fun x hx => ⟨(hX' x hx).1, fun hne a ha e => (hX' x hx).2 hne a ha (.inl e)⟩, hb', hB'⟩, hf', hl', ?_⟩
  rcases hR with ⟨h1, h2, h3, h4⟩ | h1
  · exact .inl ⟨h1, h2, ⟨O', P', hd', h3, hap', hO', hX', hb', hB'⟩, h4⟩
  · exact .inr h1
/-- A new disk opens to nothing. -/
theorem live_new (n : Nat) (h2 : 2 ≤ n) (hn : n ≤ 16384) : Live (newS (n : Int)) 0 (textsB []) := by
  have e : sizeN (n : Int) = n := by rw [sizeN, Int.toNat_natCast]; omega
  refine ⟨newS_ok _, rfl, rfl, ?_⟩
  rw [newS, e]
  exact opens_new h2
theorem newS_len (n : Nat) (hn : n ≤ 16384) : (newS (n : Int)).safe.length = n := by rw [newS, List.length_replicate, sizeN, Int.toNat_natCast]; omega
theorem Live.now {s : DS} {e : Nat} {S : List UInt8} (h : Live s e S) : Opens (nowS s) e S := by
  rw [nowS, h.pend]
  exact h.opens
/-- What a read of an opened disk's sector begins with. -/
theorem Live.read {s : DS} {e : Nat} {S : List UInt8} (h : Live s e S) (h2 : 2 < s.safe.length) (hS : S.length ≤ 128) : whyS s 2 = 0 ∧ (readB s 2).length = 128 ∧ ∀ j, j < S.length → (readB s 2)[j]? = S[j]? := by
  have hw : whyS s 2 = 0 := by rw [whyS, if_neg (by omega), if_neg (by rw [h.off]; decide)]
  have hr : readB s 2 = s.safe.getD 2 [] := by
    rw [readB, if_pos hw, readS, h.pend]
    rfl
  refine ⟨hw, by rw [hr, List.getD_eq_getElem?_getD, List.getElem?_eq_getElem h2]; exact h.ok.safe _ (List.getElem_mem h2), fun j hj => ?_⟩
  have h1 := h.opens.data j hj
  rw [show j = 128 * 0 + j by omega, dataL_get h.opens.ok (by omega) (by omega), Nat.add_zero] at h1
  rw [hr]
  simpa using h1

set_option maxHeartbeats 4000000 in
set_option maxRecDepth 100000 in
theorem alive8_any (w : World) :
    Calls Try.prog 5 #[] w fun e w' => e = .returned (.bool true) ∧ Below w.heap.size w w' := by
  have HF0 := Lib.hid (fit_new 4)
  have HLV := Lib.hid (live_new 4 (by decide) (by decide))
  have HLN := Shut.mk (newS_len 4 (by decide))
  have HT := Shut.mk (show textsB [[104, 105]] = [1, 2, 104, 105] by simp [textsB, textB, numB, dig])
  have HTE := Shut.mk (show textsB [] = [] from rfl)
  rw [HTE.out] at HLV
  have HFU := Shut.mk (show (newS ((4 : Nat) : Int)).fuse = 0 from rfl)
  obtain ⟨s0, h0⟩ : ∃ s, newS ((4 : Nat) : Int) = s := ⟨_, rfl⟩
  have HF0' := Lib.hid (show Fit (newS ((4 : Nat) : Int)) 0 from HF0.out)
  rw [h0] at HF0' HLV HLN HFU
  have H0 := Shut.mk (show newS 4 = s0 from h0)
  clear h0 HF0
  go_enter Try.func5, Try.ntmps5
  go_wp2_with fail
  refine (dev7_new 4 w).mono ?_
  rintro e w1 ⟨⟨v, O, rfl, hd, hO⟩, hb⟩
  rw [H0.out] at hd
  obtain ⟨ad, rfl⟩ := hd.ptr
  have HLD := Lib.hid (show LoneD w.heap.size w (.pointer (some ad)) s0 [] w1 from ⟨O, hd, hO, Rest.nil _ _, hb, hb.size⟩)
  clear hd hO hb
  go_wp2_with fail
  refine (HLD.out.open (R := []) (HF0'.out.mono (by omega)) HLV.out.off (by rw [HTE.out]; exact HLV.out.now) (fun r hr => by cases hr)).mono ?_
  rintro e w2 ⟨sa, ao, c, rfl, hs, hb2⟩
  have HSG := Lib.hid hs
  clear hs hb2 HLD
  simp only [List.length_nil]
  go_wp2_with fail
  have hba : Below w2.heap.size w2 (w2.alloc (.cells #[.string ⟨#[104, 105]⟩] 9)) := (Below.refl _ _).alloc (Nat.le_refl _) _
  have HSA := Lib.hid (HSG.out.add (ao := some ⟨w2.heap.size, 0, none⟩) (T := [[104, 105]]) hba (.inr ⟨w2.heap.size, 0, rfl, by simp, fun j hj => by
    obtain rfl : j = 0 := by simpa using hj
    rw [Lib.cell_of_heap (heap_alloc_new w2 _)]; rfl⟩) (fun _ a ha => by
    obtain rfl := Option.some.inj ha
    exact .inr (Nat.le_refl _)))
  clear HSG hba
  refine (HSA.out.app (L := [[104, 105]]) (lo := some ⟨w2.heap.size, 0, none⟩) (by simp) (by rw [HTE.out]; exact HLV.out) HF0'.out (by rw [HLN.out]; omega) (by simp) (by rw [HTE.out, HT.out, HLN.out]; decide) (by decide)).mono ?_
  rintro e w3 ⟨E, s1, rfl, hld, hf1, hl1, happ⟩
  rcases happ with ⟨rfl, hlv, hsg, _⟩ | ⟨_, hne, _⟩
  · rw [HTE.out, List.nil_append, HT.out] at hlv hsg
    have HSG := Lib.hid hsg
    have HLV1 := Lib.hid hlv
    have HF1 := Lib.hid (hf1.mono (m := 999999) (by rw [HLN.out]; omega))
    have HL1 := Shut.mk (hl1.trans HLN.out)
    have HBN := Lib.hid hsg.world
    clear hlv hsg hld hf1 hl1 HSA
    go_wp2_with fail
    refine (HSG.out.len (by decide)).mono ?_
    rintro e w4 ⟨rfl, hb4⟩
    have HSG4 := Lib.hid (HSG.out.below hb4)
    clear hb4 HSG
    simp only [List.length_cons, List.length_nil]
    go_wp2_with fail
    have hrd := HSG4.out.lone.read HF1.out 2
    obtain ⟨r1, r2, r3⟩ := HLV1.out.read (by rw [HL1.out]; omega) (by decide)
    rw [r1, r2] at hrd
    refine hrd.mono ?_
    rintro e w5 ⟨⟨ao5, c5, rfl, hnb, hc5⟩, hb5⟩
    have HB5 := Lib.hid (HSG4.out.below hb5).world.1
    obtain ⟨x, hx⟩ : ∃ x, readB s1 2 = x := ⟨_, rfl⟩
    rw [hx] at hnb r2 r3
    rcases hnb with hnil | ⟨g, o, rfl, _, hlt, hcell⟩
    · rw [hnil] at r2; cases r2
    have hgen : ∀ L4 : List UInt8, L4.length ≤ x.length → (∀ j, j < L4.length → x[j]? = L4[j]?) → NumsAt (some ⟨g, o, none⟩) .u8 (byteNs L4) w5 := fun L4 hl4 h4 => .inr ⟨g, o, rfl, hlt, fun j hj => by
      rw [byteNs_len] at hj
      rw [(hcell j (by omega)).1]
      have hxj := h4 j hj
      rw [List.getElem?_eq_getElem (by omega), List.getElem?_eq_getElem hj] at hxj
      rw [Option.some.inj hxj]
      simp [byteNs]⟩
    have hnums := hgen [1, 2, 104, 105] (by rw [r2]; decide) r3
    have hconv := conv_in (P := Try.prog) Try.underlying40 Try.underlying5 Try.underlying9 (c := c5) hnums
    have h4 : (4 : Int) ≤ (c5 : Int) := by omega
    simp only [List.length_cons, List.length_nil, Nat.zero_add, Nat.reduceAdd] at hconv
    clear hrd hcell hnums hgen hx r1 r2 r3 hb5 HSG4 HLV1 HF1 HL1 HBN
    go_wp2_with fail
    go_ret
    exact ⟨rfl, HB5.out⟩
  · exact absurd HFU.out hne
end Go.Proofs.Ythnagnjcbgcnfaa
