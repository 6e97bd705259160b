/-
  Two disks and their segs in one world.
-/
import Derived.Test.YthnagnjcbgcnfaaLosesM
namespace Go.Proofs.Ythnagnjcbgcnfaa
open Go.RowKit Go.BigFrame

/-- A seg over its disk. -/
structure OneAt (O P : Nat → Prop) (vd vs : Value) (s : DS) (e : Nat) (S : List UInt8) (w : World) : Prop where
  disk : DiskIs O vd s w
  seg : SegIs P vs vd e S w
  apart : ∀ b, O b → ¬ P b
theorem OneAt.only {O P Q : Nat → Prop} {vd vs : Value} {s : DS} {e : Nat} {S : List UInt8} {w w' : World} (h : OneAt O P vd vs s e S w) (k : Only Q w w') (hQ : ∀ b, OrO O P b → ¬ Q b) : OneAt O P vd vs s e S w' := ⟨h.disk.only k (fun b hb => hQ b (.inl hb)), h.seg.only k (fun b hb => hQ b (.inr hb)), h.apart⟩
theorem OneAt.below {O P : Nat → Prop} {vd vs : Value} {s : DS} {e : Nat} {S : List UInt8} {w w' : World} (h : OneAt O P vd vs s e S w) (k : Below w.heap.size w w') : OneAt O P vd vs s e S w' := h.only (Only.of (O := fun _ => False) k) (fun _ _ => id)
theorem OneAt.lt {O P : Nat → Prop} {vd vs : Value} {s : DS} {e : Nat} {S : List UInt8} {w : World} (h : OneAt O P vd vs s e S w) {b : Nat} (hb : OrO O P b) : b < w.heap.size := hb.elim (h.disk.lt b) (h.seg.lt b)
def Twin (B : Nat) (w0 : World) (vd vs : Value) (s : DS) (e : Nat) (S : List UInt8) (vq vt : Value) (s2 : DS) (e2 : Nat) (S2 : List UInt8) (w : World) : Prop :=
  ∃ O P O' P', OneAt O P vd vs s e S w ∧ OneAt O' P' vq vt s2 e2 S2 w ∧ (∀ b, OrO O P b → ¬ OrO O' P' b) ∧ (∀ b, OrO O P b → B ≤ b) ∧ (∀ b, OrO O' P' b → B ≤ b) ∧ Below B w0 w ∧ B ≤ w.heap.size
section
variable {B : Nat} {w0 : World} {vd vs : Value} {s : DS} {e : Nat} {S : List UInt8} {vq vt : Value} {s2 : DS} {e2 : Nat} {S2 : List UInt8} {w w' : World}
theorem Twin.swap (h : Twin B w0 vd vs s e S vq vt s2 e2 S2 w) : Twin B w0 vq vt s2 e2 S2 vd vs s e S w := by
  obtain ⟨O, P, O', P', h1, h2, h3, h4, h5, hb, hB⟩ := h
  exact ⟨O', P', O, P, h2, h1, fun b h e => h3 b e h, h5, h4, hb, hB⟩
theorem Twin.below (h : Twin B w0 vd vs s e S vq vt s2 e2 S2 w) (k : Below w.heap.size w w') : Twin B w0 vd vs s e S vq vt s2 e2 S2 w' := by
  obtain ⟨O, P, O', P', h1, h2, h3, h4, h5, hb, hB⟩ := h
  exact ⟨O, P, O', P', h1.below k, h2.below k, h3, h4, h5, hb.trans (k.mono hB), Nat.le_trans hB k.size⟩
theorem Twin.world (h : Twin B w0 vd vs s e S vq vt s2 e2 S2 w) : Below B w0 w ∧ B ≤ w.heap.size := by
  obtain ⟨O, P, O', P', h1, h2, h3, h4, h5, hb, hB⟩ := h
  exact ⟨hb, hB⟩
/-- Append on the first, nothing armed. -/
theorem Twin.app {L : List (List UInt8)} {lo : Option Addr} {lc n : Nat} (h : Twin B w0 vd vs s e S vq vt s2 e2 S2 w) (k : Below w.heap.size w w') (hl : Live s e S) (h0 : s.fuse = 0) (hf : Fit s n) (hn : n + s.safe.length + 4 ≤ 900000)
    (hL : StrsAt lo L w') (hLO : L ≠ [] → ∀ a, lo = some a → a.block < B ∨ w.heap.size ≤ a.block) (hLl : ∀ t ∈ L, t.length ≤ 250000) (hfit : (S ++ textsB L).length ≤ 128 * (s.safe.length - 2)) (he : e + 1 ≤ 4611686018427387904) :
    Calls Try.prog 10 #[vs, .slice lo L.length lc] w' fun x w'' => x = .returned (.int .i64 0) ∧ ∃ s', Twin B w0 vd vs s' (e + 1) (S ++ textsB L) vq vt s2 e2 S2 w'' ∧ Live s' (e + 1) (S ++ textsB L) ∧ s'.fuse = 0 ∧ Fit s' (n + s.safe.length + 4) ∧ s'.safe.length = s.safe.length := by
  obtain ⟨O, P, O', P', h1, h2, h3, h4, h5, hb, hB⟩ := h
  have g1 := h1.below k
  have g2 := h2.below k
  have hLO' : L ≠ [] → ∀ a, lo = some a → ¬ OrO O P a.block := fun hne a ha e => by
    rcases hLO hne a ha with h | h
    · have := h4 _ e
      omega
    · have := h1.lt e
      omega
  refine (dev8_append O P vs vd s e S L lo lc n w' g1.disk g1.seg g1.apart hl hf hn hL hLO' hLl hfit he).mono fun x w'' hh => ?_
  obtain ⟨E, s', Q, R, rfl, hd', ht, hap', hf', hl', hR⟩ := hh
  rcases hR with ⟨rfl, hlv, hsg, hfu⟩ | ⟨_, hne, _⟩
  · refine ⟨rfl, s', ⟨Q, R, O', P', ⟨hd', hsg, hap'⟩, g2.only ht.only (fun b hb e => h3 b e hb), fun b hq e => ?_, fun b hq => (ht.own b hq).elim (h4 b) (fun h => Nat.le_trans (Nat.le_trans hB k.size) h), h5, ?_, ?_⟩, hlv, hfu h0, hf', hl'⟩
    · rcases ht.own b hq with h | h
      · exact h3 b h e
      · have := g2.lt e
        omega
    · exact Only.toBelow (hb.trans (k.mono hB)) ht.only h4 (Nat.le_trans hB k.size)
    · exact Nat.le_trans (Nat.le_trans hB k.size) ht.only.size
  · exact absurd h0 hne
/-- Open of the first. -/
theorem Twin.open {R : List (List UInt8)} (h : Twin B w0 vd vs s e (textsB R) vq vt s2 e2 S2 w) (hl : Live s e (textsB R)) (hf : Fit s 900000) (hR : ∀ r ∈ R, r.length ≤ 250000) :
    Calls Try.prog 8 #[vd] w fun x w' => (∃ v ao c, x = .returned (.tuple #[v, .slice ao R.length c, .int .i64 0]) ∧ StrsAt ao R w') ∧ Below w.heap.size w w' := by
  obtain ⟨O, P, O', P', h1, _⟩ := h
  refine (dev8_open O vd s e R w h1.disk hf hl.off hl.now hR).mono fun x w' hh => ?_
  obtain ⟨⟨v, P, ao, c, rfl, _, _, ha, _⟩, hb⟩ := hh
  exact ⟨⟨v, ao, c, rfl, ha⟩, hb⟩
end
/-- Two new disks, opened one behind the other. -/
theorem twin_new {B : Nat} {w0 w2 w3 w4 w5 w6 : World} {O O' P P' : Nat → Prop} {vd vq vs vt : Value} {s : DS} {e : Nat} {S : List UInt8} (hB : B ≤ w2.heap.size) (hb2 : Below B w0 w2) (hd : DiskIs O vd s w3) (hO : ∀ b, O b → w2.heap.size ≤ b) (hb3 : Below w2.heap.size w2 w3)
    (hq : DiskIs O' vq s w4) (hO' : ∀ b, O' b → w3.heap.size ≤ b) (hb4 : Below w3.heap.size w3 w4) (hs : SegIs P vs vd e S w5) (hP : ∀ b, P b → w4.heap.size ≤ b) (hb5 : Below w4.heap.size w4 w5) (ht : SegIs P' vt vq e S w6) (hP' : ∀ b, P' b → w5.heap.size ≤ b) (hb6 : Below w5.heap.size w5 w6) :
    Twin B w0 vd vs s e S vq vt s e S w6 := by
  have z3 := hb3.size
  have z4 := hb4.size
  have z5 := hb5.size
  have l1 := hd.lt
  have l2 := hq.lt
  have l3 := hs.lt
  have d4 := hd.only (Only.of (O := fun _ => False) hb4) (fun _ _ => id)
  have d5 := d4.only (Only.of (O := fun _ => False) hb5) (fun _ _ => id)
  have d6 := d5.only (Only.of (O := fun _ => False) hb6) (fun _ _ => id)
  have q5 := hq.only (Only.of (O := fun _ => False) hb5) (fun _ _ => id)
  have q6 := q5.only (Only.of (O := fun _ => False) hb6) (fun _ _ => id)
  have s6 := hs.only (Only.of (O := fun _ => False) hb6) (fun _ _ => id)
  refine ⟨O, P, O', P', ⟨d6, s6, fun b h1 h2 => ?_⟩, ⟨q6, ht, fun b h1 h2 => ?_⟩, fun b h1 h2 => ?_, fun b h => ?_, fun b h => ?_, ?_, by have := hb6.size; omega⟩
  · have := l1 b h1
    have := hP b h2
    omega
  · have := l2 b h1
    have := hP' b h2
    omega
  · rcases h1 with h1 | h1 <;> rcases h2 with h2 | h2
    · have := l1 b h1
      have := hO' b h2
      omega
    · have := l1 b h1
      have := hP' b h2
      omega
    · have := l2 b h2
      have := hP b h1
      omega
    · have := l3 b h1
      have := hP' b h2
      omega
  · rcases h with h | h
    · have := hO b h
      omega
    · have := hP b h
      omega
  · rcases h with h | h
    · have := hO' b h
      omega
    · have := hP' b h
      omega
  · exact (((hb2.trans (hb3.mono hB)).trans (hb4.mono (by omega))).trans (hb5.mono (by omega))).trans (hb6.mono (by omega))
/-- Zeros made, turned into a text. -/
theorem conv_made {B g N : Nat} {w : World} (h : w.ownsRow B 5 1 (.slice (some ⟨g, 0, none⟩) N N) N (madeCells #[Value.int .u8 0] N).toList) :
    ∃ Z : List UInt8, Z.length = N ∧ (convert 40 9 (.slice (some ⟨g, 0, none⟩) N N)).run Try.prog w = .ok (.string ⟨Z.toArray⟩) w := by
  have hm := madeCells_bytes N
  rw [Nat.mul_one] at hm
  rw [show (madeCells #[Value.int .u8 0] N).toList = bv (List.replicate N 0) from hm] at h
  have hl : (List.replicate N (0 : UInt8)).length = N := List.length_replicate
  refine ⟨List.replicate N 0, hl, ?_⟩
  have hn : NumsAt (some ⟨g, 0, none⟩) .u8 (byteNs (List.replicate N 0)) w := .inr ⟨g, 0, rfl, (World.ownsRow.lt h g rfl).2, fun j hj => by
    rw [byteNs_len, hl] at hj
    rw [Nat.zero_add, World.ownsRow.cellAt h j (by omega), bv_get (by rw [hl]; exact hj)]
    simp [byteNs]⟩
  have hc := conv_in (P := Try.prog) Try.underlying40 Try.underlying5 Try.underlying9 (c := N) hn
  rw [hl] at hc
  exact hc
theorem textB_bound {t : List UInt8} (h : t.length < 16777216) : (textB t).length ≤ 4 + t.length := by
  have h2 := dig_length_le 3 t.length (by simpa using h)
  rw [textB_length, numB_length]
  omega
theorem SegL.long {B : Nat} {w0 : World} {vd vs : Value} {s : DS} {e : Nat} {S : List UInt8} {X : List (Option Addr × List (List UInt8))} {t : List UInt8} {lo : Option Addr} {lc : Nat} {w : World} (h : SegL B w0 vd vs s e S X w) (hL : StrsAt lo [t] w) (ht : 250000 < t.length) (htl : t.length ≤ 260000) :
    Calls Try.prog 10 #[vs, .slice lo 1 lc] w fun x w' => x = .returned (.int .i64 3) ∧ Below w.heap.size w w' := by
  obtain ⟨O, P, hd, hs, _⟩ := h
  exact dev8_append_long O P vs vd s e S t lo lc w hd hs hL ht htl
end Go.Proofs.Ythnagnjcbgcnfaa
