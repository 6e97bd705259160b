/-
  Joined: The document's numbers of layer 2 as mathematics; rows of numbers; digests as mathematics.; An operation's name, as mathematics.; Layer 10 as plain mathematics: which operations are there, which wait, what comes by one that is taken.; Lists of keys and elements: looked up, stored into, deleted from.
-/
import Derived.Test.YtandadfphlandaaGreatDoorJ01
namespace Go.Proofs.YtandadfphlandaaGreatDoor
open Go.RowKit
def rotr (x k : Nat) : Nat := x / 2 ^ k ||| x * 2 ^ (32 - k) % 4294967296
theorem rotr_lt (x k : Nat) (hx : x < 4294967296) : rotr x k < 4294967296 := by
  unfold rotr
  have h1 : x / 2 ^ k < 2 ^ 32 := Nat.lt_of_le_of_lt (Nat.div_le_self _ _) hx
  have h2 : x * 2 ^ (32 - k) % 4294967296 < 2 ^ 32 := Nat.mod_lt _ (by decide)
  exact Nat.or_lt_two_pow h1 h2
theorem turn_or (x k : Nat) (hx : x < 4294967296) : bits BinOp.or IntKind.u32 ((x : Int) / 2 ^ k) ((x : Int) * 2 ^ (32 - k) % 4294967296) = ((rotr x k : Nat) : Int) := by
  have h1 : x / 2 ^ k < 4294967296 := Nat.lt_of_le_of_lt (Nat.div_le_self _ _) hx
  have h2 : x * 2 ^ (32 - k) % 4294967296 < 4294967296 := Nat.mod_lt _ (by decide)
  have := u32_or_nat (x / 2 ^ k) (x * 2 ^ (32 - k) % 4294967296) h1 h2
  unfold rotr
  rw [← this]
  simp
theorem turn_any (x k : Nat) (w : World) (hx : x < 4294967296) (hk1 : 1 ≤ k) (hk : k ≤ 31) :
    Calls Tryz.prog 78 #[.int .u32 x, .int .u32 k] w fun e w' => e = .returned (.int .u32 (rotr x k)) ∧ w = w' := by
  have h := turn_or x k hx
  go_enter Tryz.func78, Tryz.ntmps78
  go_wp2_with fail
  go_ret
  exact ⟨rfl, rfl⟩
def sqOk (p y : Nat) : Bool := decide (y * y / 18446744073709551616 < p) || (decide (y * y / 18446744073709551616 = p) && decide (y * y % 18446744073709551616 = 0))
def cbLow (y : Nat) : Nat := y * y / 18446744073709551616 * y + y * y % 18446744073709551616 * y / 18446744073709551616
def cbOk (p y : Nat) : Bool := decide (cbLow y / 4294967296 < p) || (decide (cbLow y / 4294967296 = p) && (decide (cbLow y % 4294967296 = 0) && decide (y * y % 18446744073709551616 * y % 18446744073709551616 = 0)))
def bitAt (j : Nat) : Nat := 68719476736 / 2 ^ j
def rootT (p : Nat) (cube : Bool) (y : Nat) : Bool := if cube then cbOk p y else sqOk p y
def rootX (p : Nat) (cube : Bool) : Nat → Nat
  | 0 => 0
  | j + 1 => if rootT p cube (rootX p cube j + bitAt j) then rootX p cube j + bitAt j else rootX p cube j
end Go.Proofs.YtandadfphlandaaGreatDoor
namespace Go.Proofs.YtandadfphlandaaGreatDoor
open Go.RowKit
theorem Tryz.infoU32 : (Tryz.prog.info? 115).map (fun i => (i.zero, i.size, i.bytes)) = some (some (.int .u32 0), 1, 4) := by kernel_rfl
end Go.Proofs.YtandadfphlandaaGreatDoor
namespace Go.Proofs.YtandadfphlandaaGreatDoor
open Go.RowKit
def shaH : List Nat := [1779033703, 3144134277, 1013904242, 2773480762, 1359893119, 2600822924, 528734635, 1541459225]
def shaK : List Nat := [1116352408, 1899447441, 3049323471, 3921009573, 961987163, 1508970993, 2453635748, 2870763221, 3624381080, 310598401, 607225278, 1426881987, 1925078388, 2162078206, 2614888103, 3248222580, 3835390401, 4022224774, 264347078, 604807628, 770255983, 1249150122, 1555081692, 1996064986, 2554220882, 2821834349, 2952996808, 3210313671, 3336571891, 3584528711, 113926993, 338241895, 666307205, 773529912, 1294757372, 1396182291, 1695183700, 1986661051, 2177026350, 2456956037, 2730485921, 2820302411, 3259730800, 3345764771, 3516065817, 3600352804, 4094571909, 275423344, 430227734, 506948616, 659060556, 883997877, 958139571, 1322822218, 1537002063, 1747873779, 1955562222, 2024104815, 2227730452, 2361852424, 2428436474, 2756734187, 3204031479, 3329325298]
theorem shaK_len : shaK.length = 64 := by decide
theorem shaK_lt : ∀ x ∈ shaK, x < 4294967296 := by decide
set_option maxHeartbeats 1000000 in
theorem known_any (w : World) :
    Calls Tryz.prog 77 #[] w fun e w' => e = .returned (.tuple #[.slice (some ⟨w.heap.size, 0, none⟩) 8 8, .slice (some ⟨w.heap.size + 1, 0, none⟩) 64 64]) ∧
      OwnN w.heap.size 115 .u32 (.slice (some ⟨w.heap.size, 0, none⟩) 8 8) shaH w' ∧ OwnN w.heap.size 115 .u32 (.slice (some ⟨w.heap.size + 1, 0, none⟩) 64 64) shaK w' ∧ Below w.heap.size w w' := by
  go_enter Tryz.func77, Tryz.ntmps77
  go_wp2_with fail
  go_ret2
  refine ⟨rfl, ?_, ?_, ((Below.refl _ w).alloc (Nat.le_refl _) _).alloc (by simp) _⟩
  · have h := World.ownsRow_lit (base := w.heap.size) (e := 115) (size := 1) w (nums .u32 shaH).toArray 8 (Nat.le_refl _) (by unfold maxLen; omega) rfl
    exact OwnN.alloc h _
  · have h := World.ownsRow_lit (base := w.heap.size) (e := 115) (size := 1) (w.alloc (.cells (nums .u32 shaH).toArray 115)) (nums .u32 shaK).toArray 64 (by simp) (by unfold maxLen; omega) rfl
    have e : (w.alloc (.cells (nums .u32 shaH).toArray 115)).heap.size = w.heap.size + 1 := by simp
    rw [e] at h
    exact h
end Go.Proofs.YtandadfphlandaaGreatDoor
namespace Go.Proofs.YtandadfphlandaaGreatDoor
open Go.RowKit
def s0 (x : Nat) : Nat := rotr x 7 ^^^ rotr x 18 ^^^ x / 8
def s1 (x : Nat) : Nat := rotr x 17 ^^^ rotr x 19 ^^^ x / 1024
def S1 (x : Nat) : Nat := rotr x 6 ^^^ rotr x 11 ^^^ rotr x 25
def S0 (x : Nat) : Nat := rotr x 2 ^^^ rotr x 13 ^^^ rotr x 22
def ch (e f g : Nat) : Nat := (e &&& f) ^^^ ((4294967295 ^^^ e) &&& g)
def mj (a b c : Nat) : Nat := (a &&& b) ^^^ (a &&& c) ^^^ (b &&& c)
theorem xor_lt {a b : Nat} (ha : a < 4294967296) (hb : b < 4294967296) : a ^^^ b < 4294967296 := Nat.xor_lt_two_pow (n := 32) ha hb
theorem and_lt {a b : Nat} (hb : b < 4294967296) : a &&& b < 4294967296 := Nat.lt_of_le_of_lt Nat.and_le_right hb
def wordN (b : Nat → Nat) (i : Nat) : Nat := b (4 * i) * 16777216 + b (4 * i + 1) * 65536 + b (4 * i + 2) * 256 + b (4 * i + 3)
def nextW (l : List Nat) (i : Nat) : Nat := (l.getD (i - 16) 0 + l.getD (i - 7) 0 + s0 (l.getD (i - 15) 0) + s1 (l.getD (i - 2) 0)) % 4294967296
def wl (b : Nat → Nat) : Nat → List Nat
  | 0 => []
  | i + 1 => wl b i ++ [if i < 16 then wordN b i else nextW (wl b i) i]
theorem wl_len (b : Nat → Nat) (i : Nat) : (wl b i).length = i := by
  induction i with
  | zero => rfl
  | succ i ih => rw [wl, List.length_append, ih]; rfl
theorem wl_word {b : Nat → Nat} {i : Nat} (h : i < 16) : wl b (i + 1) = wl b i ++ [wordN b i] := by rw [wl, if_pos h]
theorem wl_next {b : Nat → Nat} {i : Nat} (h : ¬ i < 16) : wl b (i + 1) = wl b i ++ [nextW (wl b i) i] := by rw [wl, if_neg h]
theorem wordN_lt {b : Nat → Nat} (hb : ∀ j, b j < 256) (i : Nat) : wordN b i < 4294967296 := by
  have h0 := hb (4 * i)
  have h1 := hb (4 * i + 1)
  have h2 := hb (4 * i + 2)
  have h3 := hb (4 * i + 3)
  unfold wordN
  omega
theorem wl_lt {b : Nat → Nat} (hb : ∀ j, b j < 256) (i : Nat) : ∀ x ∈ wl b i, x < 4294967296 := by
  induction i with
  | zero => intro x h; cases h
  | succ i ih =>
    intro x h
    rw [wl, List.mem_append] at h
    rcases h with h | h
    · exact ih x h
    · rw [List.mem_singleton] at h
      subst h
      split
      · exact wordN_lt hb i
      · exact Nat.mod_lt _ (by decide)
structure S8 where
  (a b c d e f g h : Nat)
def S8.list (v : S8) : List Nat := [v.a, v.b, v.c, v.d, v.e, v.f, v.g, v.h]
structure S8.Ok (v : S8) : Prop where
  a : v.a < 4294967296
  b : v.b < 4294967296
  c : v.c < 4294967296
  d : v.d < 4294967296
  e : v.e < 4294967296
  f : v.f < 4294967296
  g : v.g < 4294967296
  h : v.h < 4294967296
def tN (v : S8) (k w : Nat) : Nat := (v.h + S1 v.e + ch v.e v.f v.g + k + w) % 4294967296
def uN (v : S8) : Nat := (S0 v.a + mj v.a v.b v.c) % 4294967296
def rnd (v : S8) (k w : Nat) : S8 := ⟨(tN v k w + uN v) % 4294967296, v.a, v.b, v.c, (v.d + tN v k w) % 4294967296, v.e, v.f, v.g⟩
theorem rnd_ok {v : S8} (h : v.Ok) (k w : Nat) : (rnd v k w).Ok := ⟨Nat.mod_lt _ (by decide), h.a, h.b, h.c, Nat.mod_lt _ (by decide), h.e, h.f, h.g⟩
def rl (v : S8) (W : List Nat) : Nat → S8
  | 0 => v
  | i + 1 => rnd (rl v W i) (shaK.getD i 0) (W.getD i 0)
theorem rl_ok {v : S8} (h : v.Ok) (W : List Nat) (i : Nat) : (rl v W i).Ok := by
  induction i with
  | zero => exact h
  | succ i ih => exact rnd_ok ih _ _
def addS (v u : S8) : S8 := ⟨(v.a + u.a) % 4294967296, (v.b + u.b) % 4294967296, (v.c + u.c) % 4294967296, (v.d + u.d) % 4294967296, (v.e + u.e) % 4294967296, (v.f + u.f) % 4294967296, (v.g + u.g) % 4294967296, (v.h + u.h) % 4294967296⟩
theorem addS_ok (v u : S8) : (addS v u).Ok :=
  ⟨Nat.mod_lt _ (by decide), Nat.mod_lt _ (by decide), Nat.mod_lt _ (by decide), Nat.mod_lt _ (by decide), Nat.mod_lt _ (by decide), Nat.mod_lt _ (by decide), Nat.mod_lt _ (by decide), Nat.mod_lt _ (by decide)⟩
def H0 : S8 := ⟨1779033703, 3144134277, 1013904242, 2773480762, 1359893119, 2600822924, 528734635, 1541459225⟩
theorem H0_ok : H0.Ok := ⟨by decide, by decide, by decide, by decide, by decide, by decide, by decide, by decide⟩
def block (v : S8) (b : Nat → Nat) : S8 := addS v (rl v (wl b 64) 64)
theorem t_int (a b c d e f g h k w : Nat) (he : e < 4294967296) (hf : f < 4294967296) (hg : g < 4294967296) :
    ((h : Int) + bits BinOp.xor IntKind.u32 (bits BinOp.xor IntKind.u32 ((rotr e 6 : Nat) : Int) ((rotr e 11 : Nat) : Int)) ((rotr e 25 : Nat) : Int) +
      bits BinOp.xor IntKind.u32 (bits BinOp.and IntKind.u32 (e : Int) (f : Int)) (bits BinOp.and IntKind.u32 (bits BinOp.xor IntKind.u32 IntKind.u32.max (e : Int)) (g : Int)) + (k : Int) + (w : Int)) % 4294967296 =
    ((tN ⟨a, b, c, d, e, f, g, h⟩ k w : Nat) : Int) := by
  have hm : IntKind.u32.max = ((4294967295 : Nat) : Int) := by decide
  rw [hm, u32_xor_nat _ _ (rotr_lt _ _ he) (rotr_lt _ _ he), u32_xor_nat _ _ (xor_lt (rotr_lt _ _ he) (rotr_lt _ _ he)) (rotr_lt _ _ he), u32_and_nat _ _ he hf, u32_xor_nat _ _ (by decide) he, u32_and_nat _ _ (xor_lt (by decide) he) hg, u32_xor_nat _ _ (and_lt hf) (and_lt hg)]
  unfold tN S1 ch
  simp only [Int.natCast_emod, Int.natCast_add]
  rfl
theorem u_int (a b c d e f g h : Nat) (ha : a < 4294967296) (hb : b < 4294967296) (hc : c < 4294967296) :
    (bits BinOp.xor IntKind.u32 (bits BinOp.xor IntKind.u32 ((rotr a 2 : Nat) : Int) ((rotr a 13 : Nat) : Int)) ((rotr a 22 : Nat) : Int) +
      bits BinOp.xor IntKind.u32 (bits BinOp.xor IntKind.u32 (bits BinOp.and IntKind.u32 (a : Int) (b : Int)) (bits BinOp.and IntKind.u32 (a : Int) (c : Int))) (bits BinOp.and IntKind.u32 (b : Int) (c : Int))) % 4294967296 =
    ((uN ⟨a, b, c, d, e, f, g, h⟩ : Nat) : Int) := by
  rw [u32_xor_nat _ _ (rotr_lt _ _ ha) (rotr_lt _ _ ha), u32_xor_nat _ _ (xor_lt (rotr_lt _ _ ha) (rotr_lt _ _ ha)) (rotr_lt _ _ ha), u32_and_nat _ _ ha hb, u32_and_nat _ _ ha hc, u32_and_nat _ _ hb hc, u32_xor_nat _ _ (and_lt hb) (and_lt hc), u32_xor_nat _ _ (xor_lt (and_lt hb) (and_lt hc)) (and_lt hc)]
  unfold uN S0 mj
  simp only [Int.natCast_emod, Int.natCast_add]
  rfl
theorem w_int (y16 y7 y15 y2 : Nat) (h15 : y15 < 4294967296) (h2 : y2 < 4294967296) (h3 : y15 / 8 < 4294967296) (h4 : y2 / 1024 < 4294967296) :
    ((y16 : Int) + (y7 : Int) + bits BinOp.xor IntKind.u32 (bits BinOp.xor IntKind.u32 ((rotr y15 7 : Nat) : Int) ((rotr y15 18 : Nat) : Int)) ((y15 / 8 : Nat) : Int) +
      bits BinOp.xor IntKind.u32 (bits BinOp.xor IntKind.u32 ((rotr y2 17 : Nat) : Int) ((rotr y2 19 : Nat) : Int)) ((y2 / 1024 : Nat) : Int)) % 4294967296 =
    (((y16 + y7 + s0 y15 + s1 y2) % 4294967296 : Nat) : Int) := by
  rw [u32_xor_nat _ _ (rotr_lt _ _ h15) (rotr_lt _ _ h15), u32_xor_nat _ _ (xor_lt (rotr_lt _ _ h15) (rotr_lt _ _ h15)) h3, u32_xor_nat _ _ (rotr_lt _ _ h2) (rotr_lt _ _ h2), u32_xor_nat _ _ (xor_lt (rotr_lt _ _ h2) (rotr_lt _ _ h2)) h4]
  unfold s0 s1
  simp only [Int.natCast_emod, Int.natCast_add]
  rfl
theorem tN_lt (v : S8) (k w : Nat) : tN v k w < 4294967296 := Nat.mod_lt _ (by decide)
theorem uN_lt (v : S8) : uN v < 4294967296 := Nat.mod_lt _ (by decide)
def blocks (p : List Nat) : Nat → S8
  | 0 => H0
  | n + 1 => block (blocks p n) (fun j => p.getD (64 * n + j) 0)
theorem blocks_ok (p : List Nat) (n : Nat) : (blocks p n).Ok := by
  cases n with
  | zero => exact H0_ok
  | succ n => exact addS_ok _ _
def zerosN (n : Nat) : Nat := (119 - n % 64) % 64
def l8 (N : Nat) : Nat → List Nat
  | 0 => []
  | i + 1 => l8 N i ++ [N * 256 ^ i % 18446744073709551616 / 72057594037927936]
theorem l8_len (N i : Nat) : (l8 N i).length = i := by
  induction i with
  | zero => rfl
  | succ i ih => rw [l8, List.length_append, ih]; rfl
theorem l8_lt (N i : Nat) : ∀ x ∈ l8 N i, x < 256 := by
  induction i with
  | zero => intro x h; cases h
  | succ i ih =>
    intro x h
    rw [l8, List.mem_append] at h
    rcases h with h | h
    · exact ih x h
    · rw [List.mem_singleton] at h
      have : N * 256 ^ i % 18446744073709551616 < 18446744073709551616 := Nat.mod_lt _ (by decide)
      omega
def padN (s : List UInt8) : List Nat := byteNs s ++ [128] ++ List.replicate (zerosN s.length) 0 ++ l8 (s.length * 8) 8
theorem padN_len (s : List UInt8) : (padN s).length = s.length + 9 + zerosN s.length := by
  simp [padN, byteNs_len, l8_len]
  omega
theorem padN_mod (s : List UInt8) : (padN s).length % 64 = 0 := by
  rw [padN_len]
  unfold zerosN
  omega
theorem padN_lt (s : List UInt8) : ∀ x ∈ padN s, x < 256 := by
  intro x h
  simp only [padN, List.mem_append] at h
  rcases h with ((h | h) | h) | h
  · simp only [byteNs, List.mem_map] at h
    obtain ⟨b, _, rfl⟩ := h
    exact b.toNat_lt
  · rw [List.mem_singleton] at h; omega
  · have := List.eq_of_mem_replicate h; omega
  · exact l8_lt _ _ x h
def outN (l : List Nat) : List Nat := (List.range 32).map fun i => l.getD (i / 4) 0 / 2 ^ (24 - 8 * (i % 4)) % 256
def shaN (s : List UInt8) : List Nat := outN (blocks (padN s) ((padN s).length / 64)).list
end Go.Proofs.YtandadfphlandaaGreatDoor
namespace Go.Proofs.YtandadfphlandaaGreatDoor
open Go.RowKit
def nameN (o : OpN) : List Nat := shaN (listB [[111, 112], opB o])
theorem nameN_len (o : OpN) : (nameN o).length = 32 := by simp [nameN, shaN, outN]
theorem nameN_lt (o : OpN) : ∀ x ∈ nameN o, x < 256 := by
  intro x hx
  simp only [nameN, shaN, outN, List.mem_map] at hx
  obtain ⟨i, _, rfl⟩ := hx
  exact Nat.mod_lt _ (by decide)
end Go.Proofs.YtandadfphlandaaGreatDoor
namespace Go.Proofs.YtandadfphlandaaGreatDoor
open Go.RowKit
structure DagN where
  ops : List OpN
  wait : List OpN
def DagN.names (s : DagN) : List (List Nat) := s.ops.map nameN
def DagN.waits (s : DagN) : List (List Nat) := s.wait.map nameN
def DagN.new : DagN := ⟨[], []⟩
def atN (L : List (List Nat)) (n : List Nat) : Int := if n ∈ L then (L.idxOf n : Int) else -1
def wholeN (L : List (List Nat)) (o : OpN) : Bool := o.preds.all fun p => decide (p ∈ L)
def depthAt (ops : List OpN) (p : List Nat) : Int := ((ops[(ops.map nameN).idxOf p]?).map (·.depth)).getD 0
def maxD (ops : List OpN) (L : List (List Nat)) : Int := L.foldl (fun n p => if n < depthAt ops p then depthAt ops p else n) 0
def depthN (ops : List OpN) (o : OpN) : Int := maxD ops o.preds + 1
def bestStep (L : List (List Nat)) (W : List OpN) (b : Option Nat) (i : Nat) : Option Nat :=
  match W[i]? with
  | some o => if wholeN L o then (match b with
      | none => some i
      | some j => if cmpN (nameN o) (nameN (W.getD j o)) = -1 then some i else some j) else b
  | none => b
def bestTo (L : List (List Nat)) (W : List OpN) : Nat → Option Nat
  | 0 => none
  | k + 1 => bestStep L W (bestTo L W k) k
def bestN (L : List (List Nat)) (W : List OpN) : Option Nat := bestTo L W W.length
theorem bestTo_lt (L : List (List Nat)) (W : List OpN) : ∀ (k j : Nat), k ≤ W.length → bestTo L W k = some j → j < k
  | 0, j, _, h => by cases h
  | k + 1, j, hk, h => by
    have ih := fun j => bestTo_lt L W k j (by omega)
    rw [bestTo, bestStep, List.getElem?_eq_getElem (by omega)] at h
    simp only at h
    split at h
    · split at h
      · cases h; omega
      · rename_i j' hj'
        split at h
        · cases h; omega
        · cases h; have := ih _ hj'; omega
    · have := ih j h; omega
theorem bestN_lt {L : List (List Nat)} {W : List OpN} {j : Nat} (h : bestN L W = some j) : j < W.length := bestTo_lt L W _ _ (Nat.le_refl _) h
def settleN : Nat → DagN → List (List Nat) × DagN
  | 0, s => ([], s)
  | f + 1, s => match bestN s.names s.wait with
    | none => ([], s)
    | some i => match s.wait[i]? with
      | none => ([], s)
      | some o => if o.depth = depthN s.ops o then
          (nameN o :: (settleN f ⟨s.ops ++ [o], s.wait.eraseIdx i⟩).1, (settleN f ⟨s.ops ++ [o], s.wait.eraseIdx i⟩).2)
        else settleN f ⟨s.ops, s.wait.eraseIdx i⟩
def takeN (s : DagN) (o : OpN) : List (List Nat) × Int × DagN :=
  if ¬ GoodO o then ([], 1, s)
  else if nameN o ∈ s.names ∨ nameN o ∈ s.waits then ([], 9, s)
  else if wholeN s.names o = false then ([], 0, ⟨s.ops, s.wait ++ [o]⟩)
  else if o.depth ≠ depthN s.ops o then ([], 10, s)
  else (nameN o :: (settleN s.wait.length ⟨s.ops ++ [o], s.wait⟩).1, 0, (settleN s.wait.length ⟨s.ops ++ [o], s.wait⟩).2)
def insN (n : List Nat) : List (List Nat) → List (List Nat)
  | [] => [n]
  | x :: r => if cmpN x n = -1 then x :: insN n r else n :: x :: r
def risingN (L : List (List Nat)) : List (List Nat) := L.foldl (fun out n => insN n out) []
theorem insN_len (n : List Nat) : ∀ L : List (List Nat), (insN n L).length = L.length + 1
  | [] => rfl
  | x :: r => by
    rw [insN]
    split
    · rw [List.length_cons, List.length_cons, insN_len n r]
    · rfl
theorem insN_mem {n x : List Nat} : ∀ {L : List (List Nat)}, x ∈ insN n L ↔ x = n ∨ x ∈ L
  | [] => by simp [insN]
  | y :: r => by
    rw [insN]
    split
    · rw [List.mem_cons, insN_mem, List.mem_cons]
      constructor
      · rintro (h | h | h)
        · exact .inr (.inl h)
        · exact .inl h
        · exact .inr (.inr h)
      · rintro (h | h | h)
        · exact .inr (.inl h)
        · exact .inl h
        · exact .inr (.inr h)
    · simp
theorem fold_ins_mem {x : List Nat} : ∀ {L out : List (List Nat)}, x ∈ L.foldl (fun out n => insN n out) out ↔ x ∈ out ∨ x ∈ L
  | [], out => by simp
  | y :: r, out => by
    rw [List.foldl_cons, fold_ins_mem, insN_mem]
    simp only [List.mem_cons]
    constructor
    · rintro ((h | h) | h)
      · exact .inr (.inl h)
      · exact .inl h
      · exact .inr (.inr h)
    · rintro (h | h | h)
      · exact .inl (.inr h)
      · exact .inl (.inl h)
      · exact .inr h
theorem risingN_mem {x : List Nat} {L : List (List Nat)} : x ∈ risingN L ↔ x ∈ L := by
  rw [risingN, fold_ins_mem]
  simp
theorem fold_ins_len : ∀ {L out : List (List Nat)}, (L.foldl (fun out n => insN n out) out).length = out.length + L.length
  | [], out => by simp
  | y :: r, out => by
    rw [List.foldl_cons, fold_ins_len, insN_len, List.length_cons]
    omega
theorem risingN_len (L : List (List Nat)) : (risingN L).length = L.length := by rw [risingN, fold_ins_len]; simp
theorem risingN_snoc (L : List (List Nat)) (n : List Nat) : risingN (L ++ [n]) = insN n (risingN L) := by rw [risingN, List.foldl_append]; rfl
def posN (n : List Nat) : List (List Nat) → Nat
  | [] => 0
  | x :: r => if cmpN x n = -1 then posN n r + 1 else 0
theorem posN_le (n : List Nat) : ∀ L : List (List Nat), posN n L ≤ L.length
  | [] => Nat.le_refl _
  | x :: r => by
    rw [posN]
    split
    · have := posN_le n r; rw [List.length_cons]; omega
    · exact Nat.zero_le _
theorem insN_pos (n : List Nat) : ∀ L : List (List Nat), insN n L = L.take (posN n L) ++ n :: L.drop (posN n L)
  | [] => rfl
  | x :: r => by
    rw [insN, posN]
    split
    · rw [insN_pos n r, List.take_succ_cons, List.drop_succ_cons, List.cons_append]
    · rfl
theorem posN_step (n : List Nat) : ∀ (L : List (List Nat)) (k : Nat), k < L.length → k ≤ posN n L → (k < posN n L ↔ cmpN (L.getD k []) n = -1)
  | [], k, h, _ => by cases h
  | x :: r, 0, _, _ => by
    rw [posN]
    split
    · rename_i h; simp [h]
    · rename_i h; simp [h]
  | x :: r, k + 1, h, hk => by
    rw [posN] at hk ⊢
    split at hk
    · rename_i h1
      rw [if_pos h1]
      have ih := posN_step n r k (by simpa using h) (by omega)
      rw [List.getD_cons_succ, ← ih]
      omega
    · omega
def headsN (s : DagN) : List (List Nat) := risingN (s.names.filter fun n => !(s.ops.any fun o => decide (n ∈ o.preds)))
def nextN' (s : DagN) (a : Int) (d : DraftN) : Option OpN × Int :=
  if ¬ GoodD d ∨ a < 0 ∨ 4 < a then (none, 1)
  else if 32 < (headsN s).length then (none, 3)
  else (some ⟨d, a, maxD s.ops (headsN s) + 1, headsN s⟩, 0)
def DagN.Shallow (s : DagN) : Prop := ∀ x ∈ s.ops, x.depth ≤ s.ops.length
theorem depthAt_le {ops : List OpN} {n : Int} (h : ∀ x ∈ ops, x.depth ≤ n) (h0 : 0 ≤ n) (p : List Nat) : depthAt ops p ≤ n := by
  unfold depthAt
  cases hq : ops[(ops.map nameN).idxOf p]? with
  | none => exact h0
  | some x => exact h x (List.mem_of_getElem? hq)
theorem maxD_to {ops : List OpN} {n : Int} (h : ∀ x ∈ ops, x.depth ≤ n) (h0 : 0 ≤ n) : ∀ (L : List (List Nat)) (m : Int), 0 ≤ m → m ≤ n → 0 ≤ L.foldl (fun n p => if n < depthAt ops p then depthAt ops p else n) m ∧ L.foldl (fun n p => if n < depthAt ops p then depthAt ops p else n) m ≤ n
  | [], m, h1, h2 => ⟨h1, h2⟩
  | p :: L, m, h1, h2 => by
    rw [List.foldl_cons]
    split
    · rename_i hlt
      exact maxD_to h h0 L _ (by omega) (depthAt_le h h0 p)
    · exact maxD_to h h0 L _ h1 h2
theorem maxD_le {ops : List OpN} {n : Int} (h : ∀ x ∈ ops, x.depth ≤ n) (h0 : 0 ≤ n) (L : List (List Nat)) : 0 ≤ maxD ops L ∧ maxD ops L ≤ n := maxD_to h h0 L 0 (Int.le_refl _) h0
theorem Shallow_push {s : DagN} (h : s.Shallow) {o : OpN} (hd : o.depth = depthN s.ops o) (W : List OpN) : DagN.Shallow ⟨s.ops ++ [o], W⟩ := by
  intro x hx
  have hm := (maxD_le h (by omega) o.preds).2
  rw [List.length_append, List.length_singleton]
  rcases List.mem_append.1 hx with hx | hx
  · have := h x hx
    omega
  · obtain rfl := List.mem_singleton.1 hx
    rw [hd, depthN]
    omega
theorem settle_shallow : ∀ (f : Nat) (s : DagN), s.Shallow → (settleN f s).2.Shallow ∧ (settleN f s).2.ops.length + (settleN f s).2.wait.length ≤ s.ops.length + s.wait.length
  | 0, s, h => ⟨h, Nat.le_refl _⟩
  | f + 1, s, h => by
    unfold settleN
    split
    · exact ⟨h, Nat.le_refl _⟩
    · rename_i i hb
      have hi := bestN_lt hb
      split
      · exact ⟨h, Nat.le_refl _⟩
      · rename_i o ho
        have hl : (s.wait.eraseIdx i).length + 1 = s.wait.length := by rw [List.length_eraseIdx, if_pos hi]; omega
        split
        · rename_i hd
          obtain ⟨h1, h2⟩ := settle_shallow f ⟨s.ops ++ [o], s.wait.eraseIdx i⟩ (Shallow_push h hd _)
          refine ⟨h1, Nat.le_trans h2 ?_⟩
          simp only [List.length_append, List.length_singleton]
          omega
        · obtain ⟨h1, h2⟩ := settle_shallow f ⟨s.ops, s.wait.eraseIdx i⟩ h
          refine ⟨h1, Nat.le_trans h2 ?_⟩
          show s.ops.length + (s.wait.eraseIdx i).length ≤ _
          omega
theorem take_shallow {s : DagN} (h : s.Shallow) (o : OpN) : (takeN s o).2.2.Shallow ∧ (takeN s o).2.2.ops.length + (takeN s o).2.2.wait.length ≤ s.ops.length + s.wait.length + 1 := by
  unfold takeN
  split
  · exact ⟨h, by simp⟩
  · split
    · exact ⟨h, by simp⟩
    · split
      · exact ⟨h, by simp; omega⟩
      · split
        · exact ⟨h, by simp⟩
        · rename_i hd
          have hd := Classical.not_not.1 hd
          obtain ⟨h1, h2⟩ := settle_shallow s.wait.length ⟨s.ops ++ [o], s.wait⟩ (Shallow_push h hd _)
          refine ⟨h1, Nat.le_trans h2 ?_⟩
          simp only [List.length_append, List.length_singleton]
          omega
end Go.Proofs.YtandadfphlandaaGreatDoor
namespace Go.Proofs.YtandadfphlandaaGreatDoor
section
variable {β : Type}
theorem lookup_of_get {L : List (List Nat × β)} (hd : (L.map (·.1)).Nodup) {j : Nat} {n : List Nat} {v : β} (h : L[j]? = some (n, v)) : L.lookup n = some v := by
  induction L generalizing j with
  | nil => cases h
  | cons p L ih =>
    rw [List.map_cons, List.nodup_cons] at hd
    obtain ⟨m, x⟩ := p
    cases j with
    | zero =>
      simp only [List.getElem?_cons_zero, Option.some.injEq, Prod.mk.injEq] at h
      obtain ⟨rfl, rfl⟩ := h
      simp
    | succ j =>
      simp only [List.getElem?_cons_succ] at h
      have hm : n ∈ L.map (·.1) := List.mem_map.2 ⟨(n, v), List.mem_of_getElem? h, rfl⟩
      have hne : (n == m) = false := by
        rw [beq_eq_false_iff_ne]
        rintro rfl
        exact hd.1 hm
      rw [List.lookup_cons, hne]
      exact ih hd.2 h
theorem lookup_none {L : List (List Nat × β)} {n : List Nat} (h : n ∉ L.map (·.1)) : L.lookup n = none := by
  induction L with
  | nil => rfl
  | cons p L ih =>
    rw [List.map_cons, List.mem_cons, not_or] at h
    obtain ⟨m, x⟩ := p
    have hne : (n == m) = false := by rw [beq_eq_false_iff_ne]; exact h.1
    rw [List.lookup_cons, hne]
    exact ih h.2
theorem lookup_split {L : List (List Nat × β)} {n : List Nat} {v : β} (h : L.lookup n = some v) : ∃ A B, L = A ++ (n, v) :: B ∧ n ∉ A.map (·.1) := by
  induction L with
  | nil => cases h
  | cons p L ih =>
    obtain ⟨m, x⟩ := p
    rw [List.lookup_cons] at h
    cases hb : n == m with
    | true =>
      rw [hb] at h
      obtain rfl := eq_of_beq hb
      cases h
      exact ⟨[], L, rfl, by simp⟩
    | false =>
      rw [hb] at h
      obtain ⟨A, B, rfl, hA⟩ := ih h
      refine ⟨(m, x) :: A, B, rfl, ?_⟩
      rw [List.map_cons, List.mem_cons, not_or]
      exact ⟨by rw [beq_eq_false_iff_ne] at hb; exact hb, hA⟩
theorem lookup_mem {L : List (List Nat × β)} {n : List Nat} {v : β} (h : L.lookup n = some v) : (n, v) ∈ L := by
  obtain ⟨A, B, rfl, _⟩ := lookup_split h
  simp
theorem lookup_some {L : List (List Nat × β)} {n : List Nat} (h : n ∈ L.map (·.1)) : ∃ v, L.lookup n = some v := by
  cases hl : L.lookup n with
  | some v => exact ⟨v, rfl⟩
  | none =>
    exfalso
    induction L with
    | nil => cases h
    | cons p L ih =>
      obtain ⟨m, x⟩ := p
      rw [List.lookup_cons] at hl
      cases hb : n == m with
      | true => rw [hb] at hl; cases hl
      | false =>
        rw [hb] at hl
        rw [List.map_cons, List.mem_cons] at h
        rcases h with rfl | h
        · simp at hb
        · exact ih h hl
def atE (L : List (List Nat × β)) (z : β) (n : List Nat) : β := (L.lookup n).getD z
def putE (L : List (List Nat × β)) (n : List Nat) (v : β) : List (List Nat × β) :=
  if n ∈ L.map (·.1) then L.map fun p => if p.1 = n then (n, v) else p else L ++ [(n, v)]
def delE (L : List (List Nat × β)) (n : List Nat) : List (List Nat × β) := L.filter fun p => !decide (p.1 = n)
theorem putE_keys {L : List (List Nat × β)} {n : List Nat} {v : β} (h : n ∈ L.map (·.1)) : (putE L n v).map (·.1) = L.map (·.1) := by
  rw [putE, if_pos h, List.map_map]
  refine List.map_congr_left fun p _ => ?_
  simp only [Function.comp_apply]
  split
  · rename_i e; exact e.symm
  · rfl
theorem putE_new {L : List (List Nat × β)} {n : List Nat} {v : β} (h : n ∉ L.map (·.1)) : putE L n v = L ++ [(n, v)] := by rw [putE, if_neg h]
theorem put_same {A : List (List Nat × β)} {n : List Nat} {v : β} (h : n ∉ A.map (·.1)) : (A.map fun p => if p.1 = n then (n, v) else p) = A := by
  refine (List.map_congr_left fun p hp => ?_).trans (List.map_id' _)
  rw [if_neg]
  rintro rfl
  exact h (List.mem_map.2 ⟨p, hp, rfl⟩)
theorem del_same {A : List (List Nat × β)} {n : List Nat} (h : n ∉ A.map (·.1)) : delE A n = A := by
  rw [delE, List.filter_eq_self]
  intro q hq
  have : q.1 ≠ n := fun e => h (List.mem_map.2 ⟨q, hq, e⟩)
  simpa using this
theorem delE_append (A B : List (List Nat × β)) (n : List Nat) : delE (A ++ B) n = delE A n ++ delE B n := by rw [delE, List.filter_append]; rfl
theorem delE_keys {L : List (List Nat × β)} {n m : List Nat} : m ∈ (delE L n).map (·.1) ↔ m ∈ L.map (·.1) ∧ m ≠ n := by
  simp only [List.mem_map, delE, List.mem_filter, Bool.not_eq_true', decide_eq_false_iff_not]
  constructor
  · rintro ⟨p, ⟨h1, h2⟩, rfl⟩
    exact ⟨⟨p, h1, rfl⟩, h2⟩
  · rintro ⟨⟨p, h1, rfl⟩, h2⟩
    exact ⟨p, ⟨h1, h2⟩, rfl⟩
theorem delE_nodup {L : List (List Nat × β)} (h : (L.map (·.1)).Nodup) (n : List Nat) : ((delE L n).map (·.1)).Nodup := (List.Sublist.map _ List.filter_sublist).nodup h
theorem putE_nodup {L : List (List Nat × β)} (h : (L.map (·.1)).Nodup) (n : List Nat) (v : β) : ((putE L n v).map (·.1)).Nodup := by
  by_cases hn : n ∈ L.map (·.1)
  · rw [putE_keys hn]; exact h
  · rw [putE_new hn, List.map_append]
    refine List.nodup_append.2 ⟨h, by simp, fun a ha c hc => ?_⟩
    obtain rfl : c = n := by simpa using hc
    rintro rfl
    exact hn ha
theorem split_all {L : List (List Nat × β)} (hd : (L.map (·.1)).Nodup) {n : List Nat} {v : β} (h : L.lookup n = some v) :
    ∃ A B, L = A ++ (n, v) :: B ∧ (∀ v', putE L n v' = A ++ (n, v') :: B) ∧ delE L n = A ++ B ∧ n ∉ (A ++ B).map (·.1) := by
  obtain ⟨A, B, rfl, hA⟩ := lookup_split h
  have hB : n ∉ B.map (·.1) := by
    rw [List.map_append, List.map_cons, List.nodup_append, List.nodup_cons] at hd
    exact hd.2.1.1
  have hm : n ∈ (A ++ (n, v) :: B).map (·.1) := by simp
  refine ⟨A, B, rfl, fun v' => ?_, ?_, ?_⟩
  · rw [putE, if_pos hm, List.map_append, List.map_cons, put_same hA, put_same hB]
    simp
  · rw [delE_append, del_same hA, show ((n, v) :: B) = [(n, v)] ++ B from rfl, delE_append, del_same hB]
    simp [delE]
  · rw [List.map_append, List.mem_append, not_or]
    exact ⟨hA, hB⟩
theorem lookup_append {A B : List (List Nat × β)} {n : List Nat} (h : n ∉ A.map (·.1)) : (A ++ B).lookup n = B.lookup n := by
  induction A with
  | nil => rfl
  | cons p A ih =>
    obtain ⟨m, x⟩ := p
    rw [List.map_cons, List.mem_cons, not_or] at h
    have hne : (n == m) = false := by rw [beq_eq_false_iff_ne]; exact h.1
    rw [List.cons_append, List.lookup_cons, hne]
    exact ih h.2
theorem lookup_append_left {A B : List (List Nat × β)} {n : List Nat} (h : n ∈ A.map (·.1)) : (A ++ B).lookup n = A.lookup n := by
  induction A with
  | nil => cases h
  | cons p A ih =>
    obtain ⟨m, x⟩ := p
    rw [List.cons_append, List.lookup_cons, List.lookup_cons]
    cases hb : n == m with
    | true => rfl
    | false =>
      rw [List.map_cons, List.mem_cons] at h
      rw [beq_eq_false_iff_ne] at hb
      exact ih (h.resolve_left hb)
theorem lookup_mid {A B : List (List Nat × β)} {n m : List Nat} {x y : β} (h : m ≠ n) : (A ++ (n, x) :: B).lookup m = (A ++ (n, y) :: B).lookup m := by
  by_cases hm : m ∈ A.map (·.1)
  · rw [lookup_append_left hm, lookup_append_left hm]
  · have hne : (m == n) = false := by rw [beq_eq_false_iff_ne]; exact h
    rw [lookup_append hm, lookup_append hm, List.lookup_cons, List.lookup_cons, hne]
theorem lookup_put_ne {L : List (List Nat × β)} (hd : (L.map (·.1)).Nodup) {n m : List Nat} (v : β) (h : m ≠ n) : (putE L n v).lookup m = L.lookup m := by
  by_cases hn : n ∈ L.map (·.1)
  · obtain ⟨x, hx⟩ := lookup_some hn
    obtain ⟨A, B, h1, h2, _⟩ := split_all hd hx
    rw [h2, h1]
    exact lookup_mid h
  · rw [putE_new hn]
    by_cases hm : m ∈ L.map (·.1)
    · rw [lookup_append_left hm]
    · rw [lookup_append hm, lookup_none hm]
      exact lookup_none (by simpa using h)
theorem lookup_del_ne {L : List (List Nat × β)} (hd : (L.map (·.1)).Nodup) {n m : List Nat} (h : m ≠ n) : (delE L n).lookup m = L.lookup m := by
  by_cases hn : n ∈ L.map (·.1)
  · obtain ⟨x, hx⟩ := lookup_some hn
    obtain ⟨A, B, h1, _, h3, _⟩ := split_all hd hx
    rw [h3, h1]
    by_cases hm : m ∈ A.map (·.1)
    · rw [lookup_append_left hm, lookup_append_left hm]
    · have hne : (m == n) = false := by rw [beq_eq_false_iff_ne]; exact h
      rw [lookup_append hm, lookup_append hm, List.lookup_cons, hne]
  · rw [del_same hn]
theorem del_put_ne {L : List (List Nat × β)} {n m : List Nat} (v : β) (h : n ≠ m) : delE (putE L n v) m = putE (delE L m) n v := by
  by_cases hn : n ∈ L.map (·.1)
  · have hn2 : n ∈ (delE L m).map (·.1) := delE_keys.2 ⟨hn, h⟩
    rw [putE, if_pos hn, putE, if_pos hn2, delE, delE, List.filter_map]
    congr 1
    refine List.filter_congr fun p _ => ?_
    simp only [Function.comp_apply]
    by_cases hp : p.1 = n
    · rw [if_pos hp, hp]
    · rw [if_neg hp]
  · have hn2 : n ∉ (delE L m).map (·.1) := fun e => hn (delE_keys.1 e).1
    rw [putE_new hn, putE_new hn2, delE_append]
    congr 1
    rw [delE, List.filter_cons, if_pos (by simpa using h)]
    rfl
theorem get_of_lookup {L : List (List Nat × β)} {n : List Nat} {v : β} (h : L.lookup n = some v) : ∃ j : Nat, L[j]? = some (n, v) := by
  obtain ⟨j, hj, he⟩ := List.getElem_of_mem (lookup_mem h)
  exact ⟨j, by rw [List.getElem?_eq_getElem hj, he]⟩
theorem put_set {L : List (List Nat × β)} (hd : (L.map (·.1)).Nodup) {j : Nat} {n : List Nat} {x : β} (v : β) (h : L[j]? = some (n, x)) : putE L n v = L.set j (n, v) := by
  have hm : n ∈ L.map (·.1) := List.mem_map.2 ⟨(n, x), List.mem_of_getElem? h, rfl⟩
  rw [putE, if_pos hm]
  refine List.ext_getElem? fun i => ?_
  rw [List.getElem?_map]
  by_cases hij : j = i
  · subst hij
    rw [h, List.getElem?_set_self (List.getElem?_eq_some_iff.1 h).1]
    simp
  · rw [List.getElem?_set_ne hij]
    cases hi : L[i]? with
    | none => rfl
    | some p =>
      rw [Option.map_some]
      congr 1
      rw [if_neg]
      intro hp
      have h1 : (L.map (·.1))[i]? = some n := by rw [List.getElem?_map, hi, Option.map_some, hp]
      have h2 : (L.map (·.1))[j]? = some n := by rw [List.getElem?_map, h]; rfl
      have hjl : j < (L.map (·.1)).length := (List.getElem?_eq_some_iff.1 h2).1
      exact hij ((List.getElem?_inj hjl hd).1 (h2.trans h1.symm))
theorem del_erase {L : List (List Nat × β)} (hd : (L.map (·.1)).Nodup) {j : Nat} {n : List Nat} {x : β} (h : L[j]? = some (n, x)) : delE L n = L.eraseIdx j := by
  induction L generalizing j with
  | nil => cases h
  | cons p L ih =>
    rw [List.map_cons, List.nodup_cons] at hd
    cases j with
    | zero =>
      simp only [List.getElem?_cons_zero, Option.some.injEq] at h
      subst h
      rw [delE, List.filter_cons, if_neg (by simp), List.eraseIdx_cons_zero, List.filter_eq_self]
      intro q hq
      have : q.1 ≠ n := fun e => hd.1 (List.mem_map.2 ⟨q, hq, e⟩)
      simpa using this
    | succ j =>
      simp only [List.getElem?_cons_succ] at h
      have : p.1 ≠ n := fun e => hd.1 (e ▸ List.mem_map.2 ⟨(n, x), List.mem_of_getElem? h, rfl⟩)
      rw [delE, List.filter_cons, if_pos (by simpa using this), List.eraseIdx_cons_succ]
      congr 1
      exact ih hd.2 h
end
end Go.Proofs.YtandadfphlandaaGreatDoor
