/-
  Joined: Both sets in one world, through takes; what Take answers are names.
-/
import Derived.Test.YtandadfphlandaaGreatDoorJ21
import Derived.Test.YtandadfphlandaaGreatDoorJ26
namespace Go.Proofs.YtandadfphlandaaGreatDoor
open Go.RowKit Go.BigFrame
structure TwoAt (Z : Nat → Prop) (B : Bs) (gs : Nat) (w4 : World) (k : Nat) (X : Nat → Prop) (T : Ents) (s t : DagN) (hs : List (List Nat)) (M : Bh) (vo vw vn vq : Value) (wr : World) : Prop where
  set : SetAt X B T s hs M wr
  inv : DInv s hs M [] []
  tameS : Tame s
  tameT : Tame t
  ref : RefAt Z gs vo vw vn vq t wr
  cntS : s.ops.length + s.wait.length ≤ k
  cntT : t.ops.length + t.wait.length ≤ k
  xz : ∀ b, X b → Z b
  hi : ∀ b, wr.heap.size ≤ b → X b
  dis : ∀ b, SetO B T b → ¬ RefX gs vo vw vn vq b
  mine : ∀ b, RefX gs vo vw vn vq b → X b
  only : Only Z w4 wr
section
variable {Z : Nat → Prop} {B : Bs} {gs : Nat} {w4 : World} {k : Nat} {X : Nat → Prop} {T : Ents} {s t : DagN} {hs : List (List Nat)} {M : Bh} {vo vw vn vq : Value} {wr w' : World} {x : OpN}
theorem TwoAt.below (h : TwoAt Z B gs w4 k X T s t hs M vo vw vn vq wr) (b : Below wr.heap.size wr w') : TwoAt Z B gs w4 k X T s t hs M vo vw vn vq w' :=
  ⟨h.set.below b, h.inv, h.tameS, h.tameT, h.ref.below b, h.cntS, h.cntT, h.xz, fun c hc => h.hi c (Nat.le_trans b.size hc), h.dis, h.mine, h.only.below b⟩
theorem TwoAt.but (h : TwoAt Z B gs w4 k X T s t hs M vo vw vn vq wr) {g : Nat} (ho : Only (fun b => b = g) wr w') (hX : X g) (h1 : ¬ SetO B T g) (h2 : ¬ RefX gs vo vw vn vq g) : TwoAt Z B gs w4 k X T s t hs M vo vw vn vq w' :=
  ⟨h.set.only ho (fun _ e => e ▸ hX) (fun _ hb e => h1 (e ▸ hb)), h.inv, h.tameS, h.tameT, h.ref.only ho (fun _ e => e ▸ h.xz g hX) (fun _ hb e => h2 (e ▸ hb)), h.cntS, h.cntT, h.xz, fun c hc => h.hi c (Nat.le_trans ho.size hc), h.dis, h.mine,
    h.only.trans ho (fun _ e => .inl (e ▸ h.xz g hX))⟩
theorem TwoAt.dev (h : TwoAt Z B gs w4 k X T s t hs M vo vw vn vq wr) {e : Ending} (hd : DevTake X B T (takeN s x) wr e w') :
    ∃ v X' T' hs' M', e = .returned (.tuple #[v, .int .i64 (takeN s x).2.1]) ∧ OwnI wr.heap.size 25 v (takeN s x).1 w' ∧ TwoAt Z B gs w4 (k + 1) X' T' (takeN s x).2.2 t hs' M' vo vw vn vq w' ∧ Turn (SetO B T) (SetO B T') wr w' ∧ (∀ b, b < wr.heap.size → X b → X' b) := by
  obtain ⟨v, X', T', hs', M', he, hv, h1, h2, h3, h4, _, h5, h6, h7⟩ := hd
  have hc := (take_shallow h.tameS.shallow x).2
  have hs' := h.cntS
  refine ⟨v, X', T', _, M', he, hv, ⟨h1, h2, h3, h.tameT, h.ref.only h4.only (fun b hb => h.xz b (SetO.x h.set hb).1) (fun b hb e => h.dis b e hb), by omega, Nat.le_succ_of_le h.cntT, fun b hb => h.xz b (h5 b hb), h7, fun b hb e => ?_, fun b hb => h6 b (h.ref.lt hb) (h.mine b hb), h.only.trans h4.only (fun b hb => .inl (h.xz b (SetO.x h.set hb).1))⟩, h4, h6⟩
  rcases h4.own b hb with e' | e'
  · exact h.dis b e' e
  · have := h.ref.lt e
    omega
theorem TwoAt.doc (h : TwoAt Z B gs w4 (k + 1) X T s t hs M vo vw vn vq wr) (ht : t.ops.length + t.wait.length ≤ k) {e : Ending} (hd : TakePost Z gs wr.heap.size (RefX gs vo vw vn vq) wr (takeN t x) e w') :
    ∃ v vo' vw' vn' vq', e = .returned (.tuple #[v, .int .i64 (takeN t x).2.1]) ∧ OwnI wr.heap.size 25 v (takeN t x).1 w' ∧ TwoAt Z B gs w4 (k + 1) X T s (takeN t x).2.2 hs M vo' vw' vn' vq' w' ∧ Turn (RefX gs vo vw vn vq) (RefX gs vo' vw' vn' vq') wr w' := by
  obtain ⟨v, vo', vw', vn', vq', he, hv, h1, h2, h3⟩ := hd
  have hc := (take_shallow h.tameT.shallow x).2
  refine ⟨v, vo', vw', vn', vq', he, hv, ⟨h.set.only h2.only h.mine (fun b hb => h.dis b hb), h.inv, h.tameS, h3, h1, h.cntS, by omega, h.xz, fun b hb => h.hi b (Nat.le_trans h2.only.size hb), fun b hb e => ?_, fun b hb => ?_, h.only.trans h2.only (fun b hb => .inl (h.ref.mine b hb))⟩, h2⟩
  · rcases h2.own b e with e' | e'
    · exact h.dis b hb e'
    · have := (SetO.x h.set hb).2
      omega
  · rcases h2.own b hb with e' | e'
    · exact h.mine b e'
    · exact h.hi b e'
end
theorem settle_names : ∀ (f : Nat) (s : DagN), Ids (settleN f s).1 ∧ (settleN f s).1.length ≤ f
  | 0, s => ⟨(fun x hx => by cases hx), Nat.le_refl _⟩
  | f + 1, s => by
    unfold settleN
    split
    · exact ⟨(fun x hx => by cases hx), Nat.zero_le _⟩
    · split
      · exact ⟨(fun x hx => by cases hx), Nat.zero_le _⟩
      · rename_i o _
        split
        · obtain ⟨h1, h2⟩ := settle_names f ⟨s.ops ++ [o], s.wait.eraseIdx ‹Nat›⟩
          refine ⟨fun x hx => ?_, by rw [List.length_cons]; omega⟩
          rcases List.mem_cons.1 hx with rfl | hx
          · exact ⟨nameN_len o, nameN_lt o⟩
          · exact h1 x hx
        · obtain ⟨h1, h2⟩ := settle_names f ⟨s.ops, s.wait.eraseIdx ‹Nat›⟩
          exact ⟨h1, by omega⟩
theorem take_names (s : DagN) (x : OpN) : Ids (takeN s x).1 ∧ (takeN s x).1.length ≤ s.wait.length + 1 := by
  unfold takeN
  split
  · exact ⟨(fun x hx => by cases hx), Nat.zero_le _⟩
  · split
    · exact ⟨(fun x hx => by cases hx), Nat.zero_le _⟩
    · split
      · exact ⟨(fun x hx => by cases hx), Nat.zero_le _⟩
      · split
        · exact ⟨(fun x hx => by cases hx), Nat.zero_le _⟩
        · obtain ⟨h1, h2⟩ := settle_names s.wait.length ⟨s.ops ++ [x], s.wait⟩
          refine ⟨fun y hy => ?_, by rw [List.length_cons]; omega⟩
          rcases List.mem_cons.1 hy with rfl | hy
          · exact ⟨nameN_len x, nameN_lt x⟩
          · exact h1 y hy
theorem OpsX.only {X O : Nat → Prop} {ao : Option Addr} {L : List OpN} {w w' : World} (h : OpsX X ao L w) (k : Only O w w') (hO : ∀ b, O b → X b) (hb : ∀ a, ao = some a → ¬ O a.block) : OpsX X ao L w' := by
  rcases h with h | ⟨b, o, h1, h2, h3⟩
  · exact .inl h
  · refine .inr ⟨b, o, h1, Nat.lt_of_lt_of_le h2 k.size, fun i x hx => ?_⟩
    obtain ⟨pa, pc, q1, q2, q3⟩ := h3 i x hx
    exact ⟨pa, pc, fun j v hj => (World.cell?_of_block (a := ⟨b, o + i * 38 + j, none⟩) (k.block b h2 (hb _ h1))).trans (q1 j v hj), q2.only k (q3.mono hO), q3⟩
def RowI (v : Value) (n : Nat) (w : World) : Prop := ∃ P, OwnI 0 25 v P w ∧ Ids P ∧ P.length = n
theorem RowI.only {O : Nat → Prop} {v : Value} {n : Nat} {w w' : World} (h : RowI v n w) (k : Only O w w') (hv : ∀ g, v.ownBlock = some g → ¬ O g) : RowI v n w' := by
  obtain ⟨P, h1, h2, h3⟩ := h
  exact ⟨P, h1.only k hv, h2, h3⟩
theorem own_of {X : Nat → Prop} {B : Nat} {e : TypeId} {a : Addr} {n c : Nat} {L : List OpN} {w : World} (h : OwnX X B e (.slice (some a) n c) L w) : Value.ownBlock (.slice (some a) n c) = some a.block := by
  rcases h.formB with ⟨h1, _⟩ | ⟨g, cap, h1, _⟩
  · cases h1
  · injection h1 with h1
    injection h1 with h1
    subst h1
    rfl
end Go.Proofs.YtandadfphlandaaGreatDoor
