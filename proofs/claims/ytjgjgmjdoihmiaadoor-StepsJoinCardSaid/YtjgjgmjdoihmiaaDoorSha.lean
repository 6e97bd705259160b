/-
  The digest, as plain mathematics: padded bytes, words, rounds, blocks.
-/
import Derived.Test.YtjgjgmjdoihmiaaDoorTail
namespace Go.Proofs.YtjgjgmjdoihmiaaDoor
open Go.RowKit

/-- A sum modulo 2^32. -/
abbrev M32 : Nat := 4294967296
def s0 (x : Nat) : Nat := rotr x 7 ^^^ rotr x 18 ^^^ x / 8
def s1 (x : Nat) : Nat := rotr x 17 ^^^ rotr x 19 ^^^ x / 1024
def S1 (x : Nat) : Nat := rotr x 6 ^^^ rotr x 11 ^^^ rotr x 25
def S0 (x : Nat) : Nat := rotr x 2 ^^^ rotr x 13 ^^^ rotr x 22
def ch (e f g : Nat) : Nat := (e &&& f) ^^^ ((4294967295 ^^^ e) &&& g)
def mj (a b c : Nat) : Nat := (a &&& b) ^^^ (a &&& c) ^^^ (b &&& c)

theorem xor_lt {a b : Nat} (ha : a < 4294967296) (hb : b < 4294967296) : a ^^^ b < 4294967296 := Nat.xor_lt_two_pow (n := 32) ha hb
theorem and_lt {a b : Nat} (hb : b < 4294967296) : a &&& b < 4294967296 := Nat.lt_of_le_of_lt Nat.and_le_right hb
theorem s0_lt {x : Nat} (h : x < 4294967296) : s0 x < 4294967296 := xor_lt (xor_lt (rotr_lt _ _ h) (rotr_lt _ _ h)) (by omega)
theorem s1_lt {x : Nat} (h : x < 4294967296) : s1 x < 4294967296 := xor_lt (xor_lt (rotr_lt _ _ h) (rotr_lt _ _ h)) (by omega)
theorem S0_lt {x : Nat} (h : x < 4294967296) : S0 x < 4294967296 := xor_lt (xor_lt (rotr_lt _ _ h) (rotr_lt _ _ h)) (rotr_lt _ _ h)
theorem S1_lt {x : Nat} (h : x < 4294967296) : S1 x < 4294967296 := xor_lt (xor_lt (rotr_lt _ _ h) (rotr_lt _ _ h)) (rotr_lt _ _ h)
theorem ch_lt {e f g : Nat} (hf : f < 4294967296) (hg : g < 4294967296) : ch e f g < 4294967296 := xor_lt (and_lt hf) (and_lt hg)
theorem mj_lt {a b c : Nat} (hb : b < 4294967296) (hc : c < 4294967296) : mj a b c < 4294967296 := xor_lt (xor_lt (and_lt hb) (and_lt hc)) (and_lt hc)

/-- A block's words, b its bytes. -/
def wordN (b : Nat → Nat) (i : Nat) : Nat := b (4 * i) * 16777216 + b (4 * i + 1) * 65536 + b (4 * i + 2) * 256 + b (4 * i + 3)
def nextW (l : List Nat) (i : Nat) : Nat := (l.getD (i - 16) 0 + l.getD (i - 7) 0 + s0 (l.getD (i - 15) 0) + s1 (l.getD (i - 2) 0)) % 4294967296
def wl (b : Nat → Nat) : Nat → List Nat
  | 0 => []
  | i + 1 => wl b i ++ [if i < 16 then wordN b i else nextW (wl b i) i]
theorem wl_len (b : Nat → Nat) (i : Nat) : (wl b i).length = i := by
  induction i with
  | zero => rfl
  | succ i ih => rw [wl, List.length_append, ih]; rfl
theorem wl_word {b : Nat → Nat} {i : Nat} (h : i < 16) : wl b (i + 1) = wl b i ++ [wordN b i] := by rw [wl, if_pos h]
theorem wl_next {b : Nat → Nat} {i : Nat} (h : ¬ i < 16) : wl b (i + 1) = wl b i ++ [nextW (wl b i) i] := by rw [wl, if_neg h]
theorem wordN_lt {b : Nat → Nat} (hb : ∀ j, b j < 256) (i : Nat) : wordN b i < 4294967296 := by
  have h0 := hb (4 * i)
  have h1 := hb (4 * i + 1)
  have h2 := hb (4 * i + 2)
  have h3 := hb (4 * i + 3)
  unfold wordN
  omega
theorem wl_lt {b : Nat → Nat} (hb : ∀ j, b j < 256) (i : Nat) : ∀ x ∈ wl b i, x < 4294967296 := by
  induction i with
  | zero => intro x h; cases h
  | succ i ih =>
    intro x h
    rw [wl, List.mem_append] at h
    rcases h with h | h
    · exact ih x h
    · rw [List.mem_singleton] at h
      subst h
      split
      · exact wordN_lt hb i
      · exact Nat.mod_lt _ (by decide)

/-- The eight words. -/
structure S8 where
  (a b c d e f g h : Nat)
def S8.list (v : S8) : List Nat := [v.a, v.b, v.c, v.d, v.e, v.f, v.g, v.h]
structure S8.Ok (v : S8) : Prop where
  a : v.a < 4294967296
  b : v.b < 4294967296
  c : v.c < 4294967296
  d : v.d < 4294967296
  e : v.e < 4294967296
  f : v.f < 4294967296
  g : v.g < 4294967296
  h : v.h < 4294967296
def tN (v : S8) (k w : Nat) : Nat := (v.h + S1 v.e + ch v.e v.f v.g + k + w) % 4294967296
def uN (v : S8) : Nat := (S0 v.a + mj v.a v.b v.c) % 4294967296
def rnd (v : S8) (k w : Nat) : S8 := ⟨(tN v k w + uN v) % 4294967296, v.a, v.b, v.c, (v.d + tN v k w) % 4294967296, v.e, v.f, v.g⟩
theorem rnd_ok {v : S8} (h : v.Ok) (k w : Nat) : (rnd v k w).Ok := ⟨Nat.mod_lt _ (by decide), h.a, h.b, h.c, Nat.mod_lt _ (by decide), h.e, h.f, h.g⟩
def rl (v : S8) (W : List Nat) : Nat → S8
  | 0 => v
  | i + 1 => rnd (rl v W i) (shaK.getD i 0) (W.getD i 0)
theorem rl_ok {v : S8} (h : v.Ok) (W : List Nat) (i : Nat) : (rl v W i).Ok := by
  induction i with
  | zero => exact h
  | succ i ih => exact rnd_ok ih _ _
def addS (v u : S8) : S8 := ⟨(v.a + u.a) % 4294967296, (v.b + u.b) % 4294967296, (v.c + u.c) % 4294967296, (v.d + u.d) % 4294967296, (v.e + u.e) % 4294967296, (v.f + u.f) % 4294967296, (v.g + u.g) % 4294967296, (v.h + u.h) % 4294967296⟩
theorem addS_ok (v u : S8) : (addS v u).Ok :=
  ⟨Nat.mod_lt _ (by decide), Nat.mod_lt _ (by decide), Nat.mod_lt _ (by decide), Nat.mod_lt _ (by decide), Nat.mod_lt _ (by decide), Nat.mod_lt _ (by decide), Nat.mod_lt _ (by decide), Nat.mod_lt _ (by decide)⟩
def H0 : S8 := ⟨1779033703, 3144134277, 1013904242, 2773480762, 1359893119, 2600822924, 528734635, 1541459225⟩
theorem H0_list : H0.list = shaH := rfl
theorem H0_ok : H0.Ok := ⟨by decide, by decide, by decide, by decide, by decide, by decide, by decide, by decide⟩
/-- One block. -/
def block (v : S8) (b : Nat → Nat) : S8 := addS v (rl v (wl b 64) 64)
theorem t_int (a b c d e f g h k w : Nat) (he : e < 4294967296) (hf : f < 4294967296) (hg : g < 4294967296) :
    ((h : Int) + bits BinOp.xor IntKind.u32 (bits BinOp.xor IntKind.u32 ((rotr e 6 : Nat) : Int) ((rotr e 11 : Nat) : Int)) ((rotr e 25 : Nat) : Int) +
      bits BinOp.xor IntKind.u32 (bits BinOp.and IntKind.u32 (e : Int) (f : Int)) (bits BinOp.and IntKind.u32 (bits BinOp.xor IntKind.u32 IntKind.u32.max (e : Int)) (g : Int)) + (k : Int) + (w : Int)) % 4294967296 =
    ((tN ⟨a, b, c, d, e, f, g, h⟩ k w : Nat) : Int) := by
  have hm : IntKind.u32.max = ((4294967295 : Nat) : Int) := by decide
  rw [hm, u32_xor_nat _ _ (rotr_lt _ _ he) (rotr_lt _ _ he), u32_xor_nat _ _ (xor_lt (rotr_lt _ _ he) (rotr_lt _ _ he)) (rotr_lt _ _ he), u32_and_nat _ _ he hf, u32_xor_nat _ _ (by decide) he, u32_and_nat _ _ (xor_lt (by decide) he) hg, u32_xor_nat _ _ (and_lt hf) (and_lt hg)]
  unfold tN S1 ch
  simp only [Int.natCast_emod, Int.natCast_add]
  rfl
theorem u_int (a b c d e f g h : Nat) (ha : a < 4294967296) (hb : b < 4294967296) (hc : c < 4294967296) :
    (bits BinOp.xor IntKind.u32 (bits BinOp.xor IntKind.u32 ((rotr a 2 : Nat) : Int) ((rotr a 13 : Nat) : Int)) ((rotr a 22 : Nat) : Int) +
      bits BinOp.xor IntKind.u32 (bits BinOp.xor IntKind.u32 (bits BinOp.and IntKind.u32 (a : Int) (b : Int)) (bits BinOp.and IntKind.u32 (a : Int) (c : Int))) (bits BinOp.and IntKind.u32 (b : Int) (c : Int))) % 4294967296 =
    ((uN ⟨a, b, c, d, e, f, g, h⟩ : Nat) : Int) := by
  rw [u32_xor_nat _ _ (rotr_lt _ _ ha) (rotr_lt _ _ ha), u32_xor_nat _ _ (xor_lt (rotr_lt _ _ ha) (rotr_lt _ _ ha)) (rotr_lt _ _ ha), u32_and_nat _ _ ha hb, u32_and_nat _ _ ha hc, u32_and_nat _ _ hb hc, u32_xor_nat _ _ (and_lt hb) (and_lt hc), u32_xor_nat _ _ (xor_lt (and_lt hb) (and_lt hc)) (and_lt hc)]
  unfold uN S0 mj
  simp only [Int.natCast_emod, Int.natCast_add]
  rfl
theorem w_int (y16 y7 y15 y2 : Nat) (h15 : y15 < 4294967296) (h2 : y2 < 4294967296) (h3 : y15 / 8 < 4294967296) (h4 : y2 / 1024 < 4294967296) :
    ((y16 : Int) + (y7 : Int) + bits BinOp.xor IntKind.u32 (bits BinOp.xor IntKind.u32 ((rotr y15 7 : Nat) : Int) ((rotr y15 18 : Nat) : Int)) ((y15 / 8 : Nat) : Int) +
      bits BinOp.xor IntKind.u32 (bits BinOp.xor IntKind.u32 ((rotr y2 17 : Nat) : Int) ((rotr y2 19 : Nat) : Int)) ((y2 / 1024 : Nat) : Int)) % 4294967296 =
    (((y16 + y7 + s0 y15 + s1 y2) % 4294967296 : Nat) : Int) := by
  rw [u32_xor_nat _ _ (rotr_lt _ _ h15) (rotr_lt _ _ h15), u32_xor_nat _ _ (xor_lt (rotr_lt _ _ h15) (rotr_lt _ _ h15)) h3, u32_xor_nat _ _ (rotr_lt _ _ h2) (rotr_lt _ _ h2), u32_xor_nat _ _ (xor_lt (rotr_lt _ _ h2) (rotr_lt _ _ h2)) h4]
  unfold s0 s1
  simp only [Int.natCast_emod, Int.natCast_add]
  rfl
theorem tN_lt (v : S8) (k w : Nat) : tN v k w < 4294967296 := Nat.mod_lt _ (by decide)
theorem uN_lt (v : S8) : uN v < 4294967296 := Nat.mod_lt _ (by decide)

/-- So many blocks of the padded bytes p. -/
def blocks (p : List Nat) : Nat → S8
  | 0 => H0
  | n + 1 => block (blocks p n) (fun j => p.getD (64 * n + j) 0)
theorem blocks_ok (p : List Nat) (n : Nat) : (blocks p n).Ok := by
  cases n with
  | zero => exact H0_ok
  | succ n => exact addS_ok _ _

/-- The zeros behind n bytes; eight bytes of a number. -/
def zerosN (n : Nat) : Nat := (119 - n % 64) % 64
def l8 (N : Nat) : Nat → List Nat
  | 0 => []
  | i + 1 => l8 N i ++ [N * 256 ^ i % 18446744073709551616 / 72057594037927936]
theorem l8_len (N i : Nat) : (l8 N i).length = i := by
  induction i with
  | zero => rfl
  | succ i ih => rw [l8, List.length_append, ih]; rfl
theorem l8_lt (N i : Nat) : ∀ x ∈ l8 N i, x < 256 := by
  induction i with
  | zero => intro x h; cases h
  | succ i ih =>
    intro x h
    rw [l8, List.mem_append] at h
    rcases h with h | h
    · exact ih x h
    · rw [List.mem_singleton] at h
      have : N * 256 ^ i % 18446744073709551616 < 18446744073709551616 := Nat.mod_lt _ (by decide)
      omega
def padN (s : List UInt8) : List Nat := byteNs s ++ [128] ++ List.replicate (zerosN s.length) 0 ++ l8 (s.length * 8) 8
theorem padN_len (s : List UInt8) : (padN s).length = s.length + 9 + zerosN s.length := by
  simp [padN, byteNs_len, l8_len]
  omega
theorem padN_mod (s : List UInt8) : (padN s).length % 64 = 0 := by
  rw [padN_len]
  unfold zerosN
  omega
theorem padN_lt (s : List UInt8) : ∀ x ∈ padN s, x < 256 := by
  intro x h
  simp only [padN, List.mem_append] at h
  rcases h with ((h | h) | h) | h
  · simp only [byteNs, List.mem_map] at h
    obtain ⟨b, _, rfl⟩ := h
    exact b.toNat_lt
  · rw [List.mem_singleton] at h; omega
  · have := List.eq_of_mem_replicate h; omega
  · exact l8_lt _ _ x h
theorem getD_lt {l : List Nat} {m : Nat} (hl : ∀ x ∈ l, x < m) (h0 : 0 < m) (j : Nat) : l.getD j 0 < m := by
  rcases Nat.lt_or_ge j l.length with h | h
  · have e : l.getD j 0 = l[j] := by simp [List.getD, h]
    rw [e]
    exact hl _ (List.getElem_mem h)
  · have e : l.getD j 0 = 0 := by simp [List.getD, h]
    omega
/-- The digest's bytes, of eight words. -/
def outN (l : List Nat) : List Nat := (List.range 32).map fun i => l.getD (i / 4) 0 / 2 ^ (24 - 8 * (i % 4)) % 256
/-- The digest of bytes. -/
def shaN (s : List UInt8) : List Nat := outN (blocks (padN s) ((padN s).length / 64)).list
end Go.Proofs.YtjgjgmjdoihmiaaDoor
