/-
  Joined: Plain mathematics of layer 1's encodings: a number's bytes, what bytes begin with. It knows of no program.; What all walks of this program share: frames, slices of texts, small facts on texts.; What speaks of no program: rows and blocks of numbers, bytes and texts, in the memory; copies, stores, loads; regions whose operations keep a class of worlds.; Operations as plain mathematics: which can be, their bytes, what bytes are.; Sizes of drafts and operations that the laws let through.; The document's numbers of layer 2 as mathematics; rows of numbers; digests as mathematics.; An operation's name, as mathematics.
-/
import Derived.BigQuiet
import Derived.BigRegion
import Derived.ChangeAlike
import Derived.Deep.Cut
import Derived.Deep.QuietTactic
import Derived.Deep.RegionWith
import Derived.Great.BuildSlice
import Derived.Laws.CopyOwn
import Derived.Laws.Rows
import Derived.Lib.BitFns
import Derived.Lib.BufferWrite
import Derived.Lib.Builder
import Derived.Lib.Hide
import Derived.Maps.AppendAt
import Derived.RegionTactic
import Derived.StillTailTactics
import Derived.Stop.BytesEq
import Derived.Test.YtnbldbbbibpobaaGreatDoorChecked
import Derived.WalkKit
set_option maxHeartbeats 1000000
namespace Go.Proofs.YtnbldbbbibpobaaGreatDoor
def dig (n:Nat):List UInt8:=if _h:n = 0 then [] else dig (n / 256) ++ [UInt8.ofNat (n % 256)]
termination_by n
decreasing_by omega
theorem z65:dig 0 = []:=by unfold dig;simp
theorem z94 {n:Nat} (h:n ≠ 0):dig n = dig (n / 256) ++ [UInt8.ofNat (n % 256)]:=by rw [dig];simp [h]
def val (l:List UInt8):Nat:=l.foldl (fun a d=>a * 256 + d.toNat) 0
theorem z9v (n:Nat):(UInt8.ofNat (n % 256)).toNat = n % 256:=by simp
def z2h (n:Nat):List UInt8:=UInt8.ofNat (dig n).length :: dig n
theorem z7w (k:Nat):∀ n,n < 256 ^ k → (dig n).length ≤ k:=by
 induction k with
 | zero => intro n h; have : n = 0 := by simpa using h
           subst this;rw [z65];simp
 | succ k ih =>
   intro n h
   by_cases h0:n = 0
   ·subst h0;rw [z65];simp
   ·rw [z94 h0]
    have h1:n / 256 < 256 ^ k:=by
     rw [Nat.div_lt_iff_lt_mul (by decide)];rw [Nat.pow_succ] at h;exact h
    have:=ih _ h1
    simp;omega
theorem zbl (k:Nat):∀ n,(dig n).length ≤ k → n < 256 ^ k:=by
 induction k with
 | zero =>
   intro n h
   by_cases h0:n = 0
   ·subst h0;decide
   ·rw [z94 h0] at h;simp at h
 | succ k ih =>
   intro n h
   by_cases h0:n = 0
   ·subst h0;exact Nat.pow_pos (by decide)
   ·rw [z94 h0] at h
    have h1:=ih (n / 256) (by simp at h;omega)
    rw [Nat.pow_succ]
    rwa [Nat.div_lt_iff_lt_mul (by decide)] at h1
theorem z5t {n:Nat} (h:n < 9223372036854775808):(dig n).length ≤ 8 :=
 z7w 8 n (Nat.lt_of_lt_of_le h (by decide))
theorem z5b (n:Nat):(z2h n).length = 1 + (dig n).length:=by simp [z2h];omega
theorem z4y {n:Nat} (h:n < 9223372036854775808):(z2h n).length ≤ 9:=by
 have:=z5t h;rw [z5b];omega
theorem numB_pos (n:Nat):1 ≤ (z2h n).length:=by rw [z5b];omega
def z60 (t:List UInt8):List UInt8:=z2h t.length ++ t
def z1j (l:List (List UInt8)):List UInt8:=(l.map z60).flatten
theorem z4z (t:List UInt8) (l:List (List UInt8)):z1j (t :: l) = z60 t ++ z1j l:=by simp [z1j]
theorem zet (t:List UInt8) (l:List (List UInt8)):z1j (l ++ [t]) = z1j l ++ z60 t:=by simp [z1j]
def z2l (l:List (List UInt8)):List UInt8:=z2h l.length ++ z1j l
theorem z6i:∀ (f n:Nat),n < 2 ^ f → (n = 0 → Lib.bitLenAux f n = 0) ∧ (n ≠ 0 → 2 ^ (Lib.bitLenAux f n - 1) ≤ n ∧ n < 2 ^ Lib.bitLenAux f n ∧ 1 ≤ Lib.bitLenAux f n):=by
 intro f
 induction f with
 | zero=>intro n h;simp at h;subst h;exact ⟨fun _=>rfl,fun h=>absurd rfl h⟩
 | succ f ih =>
   intro n h
   refine ⟨fun e=>by subst e;simp [Lib.bitLenAux],fun e=>?_⟩
   have e2:Lib.bitLenAux (f + 1) n = 1 + Lib.bitLenAux f (n / 2):=by simp [Lib.bitLenAux,e]
   rw [e2]
   have h2:n / 2 < 2 ^ f:=by rw [Nat.pow_succ] at h;omega
   obtain ⟨i0,i1⟩:=ih (n / 2) h2
   by_cases e3:n / 2 = 0
   ·rw [i0 e3];have:n = 1:=by omega
    subst this;decide
   ·obtain ⟨a,b,c⟩:=i1 e3
    generalize Lib.bitLenAux f (n / 2) = m at *
    obtain ⟨q,rfl⟩:∃ q,m = q + 1:=⟨m - 1,by omega⟩
    simp only [Nat.add_sub_cancel] at a
    rw [show 1 + (q + 1) - 1 = q + 1 by omega,show 1 + (q + 1) = q + 1 + 1 by omega,Nat.pow_succ 2 (q + 1),Nat.pow_succ 2 q] at *
    omega
theorem zhf {n:Nat} (h:n < 9223372036854775808):Lib.bitLen n ≤ 63:=by
 obtain ⟨h0,h1⟩:=z6i 64 n (Nat.lt_of_lt_of_le h (by decide))
 unfold Lib.bitLen
 by_cases e:n = 0
 ·rw [h0 e];omega
 ·obtain ⟨a,_,_⟩:=h1 e
  apply Decidable.byContradiction
  intro hc
  have:2 ^ 63 ≤ 2 ^ (Lib.bitLenAux 64 n - 1):=Nat.pow_le_pow_right (by decide) (by omega)
  have e63:(2:Nat) ^ 63 = 9223372036854775808:=by decide
  omega
theorem zgl {n:Nat} (h:n < 9223372036854775808):(Lib.bitLen n + 7) / 8 = (dig n).length:=by
 obtain ⟨h0,h1⟩:=z6i 64 n (Nat.lt_of_lt_of_le h (by decide))
 unfold Lib.bitLen
 by_cases e:n = 0
 ·rw [h0 e,e,z65];rfl
 ·obtain ⟨a,b,c⟩:=h1 e
  generalize Lib.bitLenAux 64 n = m at *
  have p8:∀ k,256 ^ k = 2 ^ (8 * k):=fun k=>by rw [show (256:Nat) = 2 ^ 8 by decide,← Nat.pow_mul]
  apply Nat.le_antisymm
  ·apply Decidable.byContradiction
   intro hc
   have g:=zbl _ n (Nat.le_refl _)
   rw [p8] at g
   have:2 ^ (8 * (dig n).length) ≤ 2 ^ (m - 1):=Nat.pow_le_pow_right (by decide) (by omega)
   omega
  ·apply z7w
   rw [p8]
   exact Nat.lt_of_lt_of_le b (Nat.pow_le_pow_right (by decide) (by omega))
theorem dig_get (n:Nat):∀ (j:Nat) (h:j < (dig n).length),((dig n)[j]).toNat = n / 256 ^ ((dig n).length - 1 - j) % 256:=by
 induction n using Nat.strongRecOn with
 | ind n ih =>
   intro j h
   by_cases h0:n = 0
   ·subst h0;rw [z65] at h;simp at h
   ·have e:=z94 h0
    have hl:(dig n).length = (dig (n / 256)).length + 1:=by rw [e];simp
    simp only [hl,Nat.add_sub_cancel]
    by_cases hj:j < (dig (n / 256)).length
    ·have:=ih (n / 256) (by omega) j hj
     simp only [e,List.getElem_append_left hj]
     rw [this,Nat.div_div_eq_div_mul,← Nat.pow_succ',show ((dig (n / 256)).length - 1 - j).succ = (dig (n / 256)).length - j by omega]
    ·have hj2:j = (dig (n / 256)).length:=by omega
     subst hj2
     simp [e]
theorem zbw (a b:List (List UInt8)):z1j (a ++ b) = z1j a ++ z1j b:=by simp [z1j]
theorem z8k (l:List (List UInt8)) (q:Nat) (h:q < l.length):(z1j l).length = (z1j (l.take q)).length + (z60 l[q]).length + (z1j (l.drop (q + 1))).length:=by
 have e:l = l.take q ++ (l[q] :: l.drop (q + 1)):=by rw [← List.drop_eq_getElem_cons h,List.take_append_drop]
 have:=congrArg (fun x=>(z1j x).length) e
 simp only [zbw,z4z,List.length_append] at this
 omega
theorem z4d (t:List UInt8):(z60 t).length = (z2h t.length).length + t.length:=by simp [z60]
theorem z3c (l:List (List UInt8)):(z2l l).length = (z2h l.length).length + (z1j l).length:=by simp [z2l]
theorem z5d (l:List (List UInt8)) (q:Nat) (h:q < l.length):z1j (l.take (q + 1)) = z1j (l.take q) ++ z2h l[q].length ++ l[q]:=by
 rw [List.take_succ_eq_append_getElem h,zet,z60,List.append_assoc]
open Go.RowKit
structure But (b:Nat) (w w':World):Prop where
 os:w'.os = w.os
 tape:w'.tape = w.tape
 output:w'.output = w.output
 size:w.heap.size ≤ w'.heap.size
 block:∀ k,k < w.heap.size → k ≠ b → w'.heap[k]? = w.heap[k]?
theorem But.refl (b:Nat) (w:World):But b w w:=⟨rfl,rfl,rfl,Nat.le_refl _,fun _ _ _=>rfl⟩
theorem But.trans {b:Nat} {w1 w2 w3:World} (h:But b w1 w2) (k:But b w2 w3):But b w1 w3 :=
 ⟨k.os.trans h.os,k.tape.trans h.tape,k.output.trans h.output,Nat.le_trans h.size k.size,fun i hi hb=>(k.block i (Nat.lt_of_lt_of_le hi h.size) hb).trans (h.block i hi hb)⟩
theorem But.setCell {b:Nat} {w w':World} (h:But b w w') (o:Nat) (v:Value):But b w (w'.setCell ⟨b,o,none⟩ v) :=
 h.trans ⟨rfl,rfl,rfl,by simp [World.setCell],fun k _ hb=>Below.heap_setCell _ _ _ _ hb⟩
theorem But.drew {b:Nat} {w w':World} (h:But b w w'):But b w w'.drew:=⟨h.os,h.tape,h.output,h.size,h.block⟩
theorem But.below {b:Nat} {w w1 w2:World} (h:But b w w1) (k:Below w1.heap.size w1 w2):But b w w2 :=
 ⟨k.os.trans h.os,k.tape.trans h.tape,k.output.trans h.output,Nat.le_trans h.size k.size,fun i hi hb=>(k.block i (Nat.lt_of_lt_of_le hi h.size)).trans (h.block i hi hb)⟩
theorem But.toBelow {b B:Nat} {w0 w w':World} (h:Below B w0 w) (k:But b w w') (hb:B ≤ b) (hB:B ≤ w.heap.size):Below B w0 w' :=
 h.trans ⟨k.os,k.tape,k.output,k.size,fun i hi=>k.block i (by omega) (by omega)⟩
theorem z2n {w:World} {b o:Nat} {v:Value} {c:Array Value} {t:TypeId} {z:Nat × Nat} (h:w.heap[b]? = some (.cells c t z)) :
 (w.setCell ⟨b,o,none⟩ v).heap[b]? = some (.cells (c.setIfInBounds o v) t z):=by
 have hlt:=lt_of_block h
 have h':w.heap[b] = .cells c t z:=by simpa [Array.getElem?_eq_getElem hlt] using h
 show (w.heap.modify b _)[b]? = _
 rw [Array.getElem?_eq_getElem (by simpa using hlt),Array.getElem_modify_self,h']
 simp
theorem zch (s:List UInt8) (n:Nat):(⟨s.toArray⟩:ByteArray).extract n s.length = ⟨(s.drop n).toArray⟩:=by
 apply ByteArray.ext
 simp only [ByteArray.data_extract]
 rw [List.extract_toArray]
 congr 1
 rw [List.extract_eq_take_drop,List.take_of_length_le (by simp)]
theorem Tryz.infoString:(Tryz.prog.info? 9).map (fun i=>(i.zero,i.size,i.bytes)) = some (some (.string ⟨#[]⟩),1,16):=by kernel_rfl
def zdt (l:List (List UInt8)):List Value:=l.map fun t=>Value.string ⟨t.toArray⟩
theorem z9j (l:List (List UInt8)):(zdt l).length = l.length:=by simp [zdt]
def OwnS (B:Nat) (v:Value) (l:List (List UInt8)) (w:World):Prop:=w.ownsRow B 9 1 v l.length (zdt l)
theorem OwnS.form {B:Nat} {v:Value} {l:List (List UInt8)} {w:World} (h:OwnS B v l w):∃ ao cap,v = .slice ao l.length cap:=by
 rcases h.2 with ⟨hv,h0⟩ | ⟨g,cap,cur,hv,_⟩
 ·exact ⟨none,0,by rw [hv,h0]⟩
 ·exact ⟨_,_,hv⟩
def StrsAt (ao:Option Addr) (l:List (List UInt8)) (w:World):Prop :=
 l = [] ∨ ∃ b o,ao = some ⟨b,o,none⟩ ∧ b < w.heap.size ∧ ∀ j (h:j < l.length),w.cell? ⟨b,o + j,none⟩ = some (.string ⟨l[j].toArray⟩)
theorem StrsAt.below {ao:Option Addr} {l:List (List UInt8)} {w w':World} (h:StrsAt ao l w) (k:Below w.heap.size w w'):StrsAt ao l w':=by
 rcases h with h | ⟨b,o,ha,hb,hc⟩
 ·exact Or.inl h
 ·exact Or.inr ⟨b,o,ha,Nat.lt_of_lt_of_le hb k.size,fun j hj=>(k.cell (p:=⟨b,o + j,none⟩) hb).trans (hc j hj)⟩
theorem z64 {B:Nat} {ao:Option Addr} {c:Nat} {l:List (List UInt8)} {w:World} (h:OwnS B (.slice ao l.length c) l w):StrsAt ao l w:=by
 rcases h.2 with ⟨_,h0⟩ | ⟨g,cap,cur,hv,hg,hb,hcap,hm,hcs,htk⟩
 ·exact Or.inl (List.length_eq_zero_iff.1 h0)
 ·simp only [Value.slice.injEq] at hv
  obtain ⟨rfl,_,rfl⟩:=hv
  refine Or.inr ⟨g,0,rfl,lt_of_block hb,fun j hj=>?_⟩
  have:=Lib.cell_of_heap hb (0 + j)
  rw [this]
  have e:=congrArg (fun x=>x[j]?) htk
  simp only [List.getElem?_take] at e
  rw [if_pos (by omega)] at e
  rw [Nat.zero_add,← Array.getElem?_toList,e,zdt]
  simp [hj]
theorem z11 {B:Nat} {w w':World} (h:Below B w w') (n:Nat):Below B w (w'.drewN n):=⟨h.os,h.tape,h.output,h.size,h.block⟩
def z06 (k:IntKind) (l:List Nat):List Value:=l.map fun (n:Nat)=>Value.int k (n:Int)
theorem zdc (k:IntKind) (l:List Nat) (n:Nat):z06 k (l ++ [n]) = z06 k l ++ [.int k (n:Int)]:=by simp [z06]
def OwnN (B:Nat) (e:TypeId) (k:IntKind) (v:Value) (l:List Nat) (w:World):Prop:=w.ownsRow B e 1 v l.length (z06 k l)
def NumsAt (ao:Option Addr) (k:IntKind) (l:List Nat) (w:World):Prop :=
 l = [] ∨ ∃ b o,ao = some ⟨b,o,none⟩ ∧ b < w.heap.size ∧ ∀ j (h:j < l.length),w.cell? ⟨b,o + j,none⟩ = some (.int k (l[j]:Int))
theorem OwnN.form {B:Nat} {e:TypeId} {k:IntKind} {v:Value} {l:List Nat} {w:World} (h:OwnN B e k v l w):∃ ao cap,v = .slice ao l.length cap:=by
 rcases h.2 with ⟨hv,h0⟩ | ⟨g,cap,cur,hv,_⟩
 ·exact ⟨none,0,by rw [hv,h0]⟩
 ·exact ⟨_,_,hv⟩
theorem OwnN.below {B:Nat} {e:TypeId} {k:IntKind} {v:Value} {l:List Nat} {w w':World} (h:OwnN B e k v l w) (b:Below w.heap.size w w'):OwnN B e k v l w':=by
 refine World.ownsRow.kept (row:=none) h ⟨b.os,b.tape,b.output,b.size,fun i hi _=>b.block i hi⟩ ?_
 rcases h.2 with ⟨hv,_⟩ | ⟨g,cap,cur,hv,hg,_⟩
 ·exact Or.inl (by rw [hv];rfl)
 ·exact Or.inr (by rw [hv];simp [Value.ownBlock])
theorem OwnN.mono {B B':Nat} {e:TypeId} {k:IntKind} {v:Value} {l:List Nat} {w:World} (h:OwnN B e k v l w) (hB:B' ≤ B):OwnN B' e k v l w:=by
 refine ⟨h.1,?_⟩
 rcases h.2 with h0 | ⟨g,cap,cur,hv,hg,r⟩
 ·exact Or.inl h0
 ·exact Or.inr ⟨g,cap,cur,hv,by omega,r⟩
theorem OwnN.at {B:Nat} {e:TypeId} {k:IntKind} {ao:Option Addr} {c:Nat} {l:List Nat} {w:World} (h:OwnN B e k (.slice ao l.length c) l w):NumsAt ao k l w:=by
 rcases h.2 with ⟨_,h0⟩ | ⟨g,cap,cur,hv,hg,hb,hcap,hm,hcs,htk⟩
 ·exact Or.inl (List.length_eq_zero_iff.1 h0)
 ·simp only [Value.slice.injEq] at hv
  obtain ⟨rfl,_,rfl⟩:=hv
  refine Or.inr ⟨g,0,rfl,lt_of_block hb,fun j hj=>?_⟩
  have:=Lib.cell_of_heap hb (0 + j)
  rw [this]
  have e:=congrArg (fun x=>x[j]?) htk
  simp only [List.getElem?_take] at e
  rw [if_pos (by omega)] at e
  rw [Nat.zero_add,← Array.getElem?_toList,e,z06]
  simp [List.getElem?_eq_getElem hj]
theorem OwnN.grown {B:Nat} {e:TypeId} {k:IntKind} {v:Value} {l:List Nat} {w w':World} {r:Option Nat} (h:OwnN B e k v l w) (hg:w.grownBy w' r) (ap:∀ g,v.ownBlock = some g → r ≠ some g):OwnN B e k v l w':=by
 refine World.ownsRow.kept h hg ?_
 cases hv:v.ownBlock with
 | none=>exact Or.inl rfl
 | some g=>exact Or.inr (fun e=>ap g hv e.symm)
theorem OwnN.alloc {B:Nat} {e:TypeId} {k:IntKind} {v:Value} {l:List Nat} {w:World} (h:OwnN B e k v l w) (o:Obj):OwnN B e k v l (w.alloc o):=World.ownsRow.alloc h o
def Apart (v1 v2:Value):Prop:=∀ g,v1.ownBlock = some g → v2.ownBlock ≠ some g
theorem num_pushed {B:Nat} {w0 wr w3:World} {v v' v2:Value} {o:Obj} {l l2 l':List Nat} {e:TypeId} {k:IntKind} (hB:B ≤ wr.heap.size) (hb:Below B w0 wr) (h1:OwnN B e k v l wr) (h2:OwnN B e k v2 l2 wr) (hap:Apart v v2)
 (hgrow:(wr.alloc o).grownBy w3 v.ownBlock) (hrw:v'.ownBlock = v.ownBlock ∨ v'.ownBlock = some (wr.heap.size + 1)) (hown:OwnN B e k v' l' w3) :
 Below B w0 w3 ∧ OwnN B e k v' l' w3 ∧ OwnN B e k v2 l2 w3 ∧ Apart v' v2:=by
 refine ⟨(hb.alloc hB _).grown hgrow (by simp;omega) (fun g hg=>(World.ownsRow.lt h1 g hg).1),hown,(h2.alloc o).grown hgrow (fun g hg e=>hap g e hg),?_⟩
 rcases hrw with h | h
 ·intro g hg
  rw [h] at hg
  exact hap g hg
 ·intro g hg e
  rw [h] at hg
  have:=(World.ownsRow.lt h2 g e).2
  simp at hg
  omega
def OwnT (B:Nat) (e:TypeId) (k:IntKind) (v:Value) (l:List Nat) (w:World):Prop :=
 ∃ g cap cur fz,v = .slice (some ⟨g,0,none⟩) l.length cap ∧ B ≤ g ∧ w.heap[g]? = some (.cells cur e fz) ∧ (fz.2 = 0 ∨ cap ≤ fz.1) ∧ l.length ≤ cap ∧ cap ≤ maxLen ∧ cur.size = cap ∧ cur.toList.take l.length = z06 k l
theorem z0v (k:IntKind) (l:List Nat):(z06 k l).length = l.length:=by simp [z06]
theorem OwnT.lt {B:Nat} {e:TypeId} {k:IntKind} {v:Value} {l:List Nat} {w:World} (h:OwnT B e k v l w):∀ g,v.ownBlock = some g → B ≤ g ∧ g < w.heap.size:=by
 obtain ⟨g,cap,cur,fz,rfl,hb,hg,_⟩:=h
 intro g' hg'
 simp [Value.ownBlock] at hg'
 subst hg'
 exact ⟨hb,lt_of_block hg⟩
theorem OwnT.form {B:Nat} {e:TypeId} {k:IntKind} {v:Value} {l:List Nat} {w:World} (h:OwnT B e k v l w):∃ g cap,v = .slice (some ⟨g,0,none⟩) l.length cap:=by
 obtain ⟨g,cap,cur,fz,rfl,_⟩:=h
 exact ⟨_,_,rfl⟩
theorem OwnT.kept {B:Nat} {e:TypeId} {k:IntKind} {v:Value} {l:List Nat} {w w':World} (h:OwnT B e k v l w) (hk:∀ g,v.ownBlock = some g → w'.heap[g]? = w.heap[g]?):OwnT B e k v l w':=by
 obtain ⟨g,cap,cur,fz,rfl,hb,hg,r⟩:=h
 exact ⟨g,cap,cur,fz,rfl,hb,(hk g rfl).trans hg,r⟩
theorem OwnT.below {B:Nat} {e:TypeId} {k:IntKind} {v:Value} {l:List Nat} {w w':World} (h:OwnT B e k v l w) (b:Below w.heap.size w w'):OwnT B e k v l w' :=
 h.kept fun g hg=>b.block g (h.lt g hg).2
theorem OwnT.alloc {B:Nat} {e:TypeId} {k:IntKind} {v:Value} {l:List Nat} {w:World} (h:OwnT B e k v l w) (o:Obj):OwnT B e k v l (w.alloc o) :=
 h.kept fun g hg=>World.grownBy.block (World.grownBy_alloc w o none) g (h.lt g hg).2 (by simp)
theorem OwnT.cells {B:Nat} {e:TypeId} {k:IntKind} {v:Value} {l:List Nat} {w:World} (h:OwnT B e k v l w) {g:Nat} (hv:v.ownBlock = some g):∀ j (hj:j < l.length),w.cell? ⟨g,j,none⟩ = some (.int k (l[j]:Int)):=by
 obtain ⟨g',cap,cur,fz,rfl,hb,hg,hfz,hlc,hcm,hcs,htk⟩:=h
 simp [Value.ownBlock] at hv
 subst hv
 intro j hj
 rw [Lib.cell_of_heap hg j]
 have e:=congrArg (fun x=>x[j]?) htk
 simp only [List.getElem?_take] at e
 rw [if_pos hj] at e
 rw [← Array.getElem?_toList,e,z06]
 simp [List.getElem?_eq_getElem hj]
theorem OwnT.mono {B B':Nat} {e:TypeId} {k:IntKind} {v:Value} {l:List Nat} {w:World} (h:OwnT B e k v l w) (hB:B' ≤ B):OwnT B' e k v l w:=by
 obtain ⟨g,cap,cur,fz,hv,hb,r⟩:=h
 exact ⟨g,cap,cur,fz,hv,by omega,r⟩
def z10 (s:List UInt8):List Nat:=s.map (fun b=>b.toNat)
theorem z0w (s:List UInt8):(z10 s).length = s.length:=by simp [z10]
theorem zgj (w:World) (e:TypeId) (s:List UInt8) (hm:s.length ≤ maxLen) :
 OwnT w.heap.size e .u8 (.slice (some ⟨w.heap.size,0,none⟩) s.length (grownCap w s.length 0 e)) (z10 s)
  (w.drew.alloc (.cells (bytesRow ⟨s.toArray⟩ (grownCap w s.length 0 e)) e ((bytesRow ⟨s.toArray⟩ (grownCap w s.length 0 e)).size,(bytesRow ⟨s.toArray⟩ (grownCap w s.length 0 e)).size + 1))):=by
 have hge:=grownCap_ge w s.length 0 e
 have hcm:=grownCap_le_maxLen w s.length 0 e hm
 have hsz:(bytesRow ⟨s.toArray⟩ (grownCap w s.length 0 e)).size = grownCap w s.length 0 e:=by
  have:(⟨s.toArray⟩:ByteArray).size = s.length:=by simp [ByteArray.size]
  simp [bytesRow,this]
  omega
 refine ⟨w.heap.size,grownCap w s.length 0 e,_,_,by rw [z0w],Nat.le_refl _,heap_alloc_new w.drew _,Or.inr (by rw [hsz];exact Nat.le_refl _),by rw [z0w];exact hge,hcm,hsz,?_⟩
 rw [z0w]
 simp [bytesRow,z06,z10]
section
variable {P:Program}
theorem z9o (w:World) (base:Nat) (t ty e:TypeId) (i:TypeInfo) (z:Value) (bytes:Nat) (k:IntKind) (ht:P.underlying t = some (.slice e)) (hi:P.info? e = some i) (hz:i.zero = some z)
 (hsize:i.size = 1) (hby:i.bytes = bytes) (hzs:z.cells.size = 1) (v:Value) (l:List Nat) (hown:OwnT base e k v l w)
 (a:Addr) (c x:Nat) (hnews:∀ j u,[Value.int k (x:Int)][j]? = some u → w.cell? (a.add j) = some u) (h63:l.length + 1 ≤ maxLen) (hbytes:(l.length + 1) * bytes ≤ 140737488355328) (hbase:base ≤ w.heap.size) :
 ∃ v' w',(Builtin.append_ #[t,t] ty #[v,.slice (some a) 1 c]).run P w = .ok v' w' ∧ OwnT base e k v' (l ++ [x]) w' ∧ w.grownBy w' v.ownBlock ∧ (v'.ownBlock = v.ownBlock ∨ v'.ownBlock = some w.heap.size):=by
 have hcells:∀ g,v.ownBlock = some g → ∀ j (hj:j < l.length),w.cell? ⟨g,j,none⟩ = some (.int k (l[j]:Int)):=fun g hg=>hown.cells hg
 obtain ⟨g,cap,cur,fz,rfl,hb,hg,hfz,hlc,hcm,hcs,htk⟩:=hown
 have hsmall:l.length + 1 ≤ 9223372036854775807:=by simp only [maxLen] at h63;omega
 by_cases hroom:l.length + 1 ≤ cap
 ·have hf:=run_firstCells_some (P:=P) w i.size 1 a 1 c [.int k x] (by simp [hsize]) hnews
  rw [hsize] at hf
  have hfr:w.frozen? ⟨g,l.length,none⟩ = false:=by
   obtain ⟨lo,hi'⟩:=fz
   simp only [World.frozen?,hg,Bool.and_eq_false_iff,decide_eq_false_iff_not]
   simp only at hfz
   rcases hfz with h | h
   ·right;omega
   ·left;omega
  have hc:w.cell? ⟨g,l.length,none⟩ = some (cur[l.length]'(by omega)):=by
   rw [Lib.cell_of_heap hg l.length]
   simp
  have hst:(store ⟨g,l.length,none⟩ (.int k x)).run P w = .ok () (w.setCell ⟨g,l.length,none⟩ (.int k x)):=by
   rw [run_store P w _ _ _ rfl,hc]
   simp [hfr]
  refine ⟨.slice (some ⟨g,0,none⟩) (l.length + 1) cap,w.setCell ⟨g,l.length,none⟩ (.int k x),?_,⟨g,cap,_,fz,by simp,hb,z2n hg,hfz,by simpa using hroom,hcm,by simpa using hcs,?_⟩,?_,Or.inl rfl⟩
  ·simp [Builtin.append_,run_underlying ht,sizeOf,typeInfo,hi,hsize,Builtin.lenOf,hroom,hf,Addr.add_lit,storeCells,hst]
  ·rw [Array.toList_setIfInBounds,zdc,← htk,List.length_append,List.length_singleton]
   have hl:l.length < (cur.toList.set l.length (.int k x)).length:=by simp;omega
   rw [List.take_succ_eq_append_getElem hl,List.take_set_of_le (Nat.le_refl _)]
   simp
  ·exact ⟨rfl,rfl,rfl,by simp [World.setCell],fun j _ hj=>heap_setCell_other w ⟨g,l.length,none⟩ j _ (fun e=>hj (by simp [Value.ownBlock,e]))⟩
 ·have hr:=run_append_grow (P:=P) w t ty e i z ht hi hz ⟨g,0,none⟩ l.length cap (z06 k l) (by rw [z0v,hsize,Nat.mul_one]) (fun j u hj=>by
   have hj':j < l.length:=by
    have:=(List.getElem?_eq_some_iff.1 hj).1
    rwa [z0v] at this
   rw [Addr.add_lit,Nat.zero_add,hcells g rfl j hj',← hj]
   simp [z06,List.getElem?_eq_getElem hj']) a 1 c [.int k x] (by simp [hsize]) hnews (by omega) (by omega) (growslice_fits (by omega) (by rw [hby];exact hbytes))
  have hge:=grownCap_ge w (l.length + 1) cap e
  have hcm2:=grownCap_le_maxLen w (l.length + 1) cap e h63
  refine ⟨_,_,hr,⟨w.heap.size,_,_,(0,0),by simp,hbase,heap_alloc_new w.drew _,Or.inl rfl,by simpa using hge,hcm2,?_,?_⟩,⟨rfl,rfl,rfl,by simp,fun j hj _=>World.grownBy.block (World.grownBy_alloc w.drew _ none) j hj (by simp)⟩,Or.inr rfl⟩
  ·simp only [Array.size_append,List.size_toArray,size_zeroCells,hzs,z0v,List.length_singleton]
   omega
  ·simp only [Array.toList_append,List.append_assoc,zdc]
   rw [← List.append_assoc,List.take_append_of_le_length (by simp [z0v]),List.take_of_length_le (by simp [z0v])]
theorem z2q {w:World} {ops:Array Oper} {rest:List Oper} {o:Oper} {a:Act} {Q:Exit → Act → World → Prop} (hgd:o.guard = none) (s x:Operand) (t:TypeId)
 (ho:o.op = .call { callee:=.builtin .append,args:=#[s,x],argTypes:=#[t,t] })
 (base:Nat) (e:TypeId) (i:TypeInfo) (z:Value) (bytes:Nat) (k:IntKind) (ht:P.underlying t = some (.slice e)) (hi:P.info? e = some i) (hz:i.zero = some z)
 (hsize:i.size = 1) (hby:i.bytes = bytes) (hzs:z.cells.size = 1)
 (v:Value) (l:List Nat) (hs:a.eval s = v) (hown:OwnT base e k v l w)
 (ad:Addr) (c y:Nat) (hx:a.eval x = .slice (some ad) 1 c) (hnews:∀ j u,[Value.int k (y:Int)][j]? = some u → w.cell? (ad.add j) = some u)
 (h63:l.length + 1 ≤ maxLen) (hbytes:(l.length + 1) * bytes ≤ 140737488355328) (hbase:base ≤ w.heap.size)
 (h:∀ v' w',OwnT base e k v' (l ++ [y]) w' → w.grownBy w' v.ownBlock → (v'.ownBlock = v.ownBlock ∨ v'.ownBlock = some w.heap.size) → wpList P ops Q rest (a.put o.dst v') w') :
 wpList P ops Q (o :: rest) a w:=by
 refine wpList_plain hgd fun K hK=>?_
 obtain ⟨v',w',hr,h2,h3,h4⟩:=z9o (P:=P) w base t o.type e i z bytes k ht hi hz hsize hby hzs v l hown ad c y hnews h63 hbytes hbase
 unfold Oper.wp execOp
 simp only [ho,resolve,invoke,builtin,Sem.run_bind,Sem.run_pure,Result.andThen_ok,List.map_toArray,List.map_cons,List.map_nil,hs,hx,hr]
 exact hK _ _ (h v' w' h2 h3 h4)
end
theorem z1v {l:List Nat} {m:Nat} (hl:∀ x ∈ l,x < m) (h0:0 < m) (j:Nat):l.getD j 0 < m:=by
 rcases Nat.lt_or_ge j l.length with h | h
 ·have e:l.getD j 0 = l[j]:=by simp [List.getD,h]
  rw [e]
  exact hl _ (List.getElem_mem h)
 ·have e:l.getD j 0 = 0:=by simp [List.getD,h]
  omega
theorem Tryz.infoU8:(Tryz.prog.info? 5).map (fun i=>(i.zero,i.size,i.bytes)) = some (some (.int .u8 0),1,1):=by kernel_rfl
theorem zgc (s:List UInt8) (w:World) (hm:s.length ≤ maxLen):∃ g cap w',(convert 9 121 (.string ⟨s.toArray⟩)).run Tryz.prog w = .ok (.slice (some ⟨g,0,none⟩) s.length cap) w' ∧
 OwnT w.heap.size 5 .u8 (.slice (some ⟨g,0,none⟩) s.length cap) (z10 s) w' ∧ Below w.heap.size w w':=by
 have hs:(⟨s.toArray⟩:ByteArray).size = s.length:=by simp [ByteArray.size]
 have hr:=run_bytes_of_string (P:=Tryz.prog) w 9 121 5 ⟨s.toArray⟩ Tryz.underlying9 Tryz.underlying121 Tryz.underlying5
 rw [hs] at hr
 exact ⟨_,_,_,hr,zgj w 5 s hm,((z11 (Below.refl w.heap.size w) 1).alloc (Nat.le_refl _) _)⟩
def lenV:Value → Nat
 | .slice _ n _=>n
 | _=>0
theorem z6n {B:Nat} {w0 wr w3:World} {v:Value} {o:Obj} {l:List Nat} {e:TypeId} {k:IntKind} (hb:Below B w0 wr) (hB:B ≤ wr.heap.size) (h1:OwnT B e k v l wr) (hgrow:(wr.alloc o).grownBy w3 v.ownBlock):Below B w0 w3 :=
 (hb.alloc hB _).grown hgrow (by simp;omega) (fun g hg=>(h1.lt g hg).1)
theorem OwnN.cellAt {B g c:Nat} {e:TypeId} {k:IntKind} {l:List Nat} {w:World} (h:OwnN B e k (.slice (some ⟨g,0,none⟩) l.length c) l w) (j x:Nat) (hj:l[j]? = some x):w.cell? ⟨g,j,none⟩ = some (.int k (x:Int)):=by
 have hl:=(List.getElem?_eq_some_iff.1 hj).1
 have:=World.ownsRow.cellAt h j (by rw [Nat.mul_one];exact hl)
 rw [this,z06,List.getElem?_map,hj]
 rfl
theorem OwnN.cellN {B g c n:Nat} {e:TypeId} {k:IntKind} {l:List Nat} {w:World} (hn:n = l.length) (h:OwnN B e k (.slice (some ⟨g,0,none⟩) n c) l w) (j:Nat) (hj:j < n):w.cell? ⟨g,j,none⟩ = some (.int k ((l.getD j 0:Nat):Int)):=by
 subst hn
 exact h.cellAt j _ (by rw [List.getD_eq_getElem?_getD,List.getElem?_eq_getElem hj];rfl)
theorem OwnN.frozenAt {B g c n:Nat} {e:TypeId} {k:IntKind} {l:List Nat} {w:World} (hn:n = l.length) (h:OwnN B e k (.slice (some ⟨g,0,none⟩) n c) l w) (j:Nat):w.frozen? ⟨g,j,none⟩ = false:=by
 subst hn
 exact World.ownsRow.frozenAt h j
theorem OwnN.stored {B g c n:Nat} {e:TypeId} {k:IntKind} {l:List Nat} {w:World} (hn:n = l.length) (h:OwnN B e k (.slice (some ⟨g,0,none⟩) n c) l w) (j x:Nat) :
 OwnN B e k (.slice (some ⟨g,0,none⟩) n c) (l.set j x) (w.setCell ⟨g,j,none⟩ (.int k (x:Int))):=by
 subst hn
 have:=(World.ownsRow.stored h j (.int k (x:Int))).1
 rw [OwnN,List.length_set]
 simpa [z06,List.map_set] using this
theorem zcz {B b:Nat} {w0 w:World} (h:Below B w0 w) (hb:B ≤ b) (o:Nat) (v:Value):Below B w0 (w.setCell ⟨b,o,none⟩ v) :=
 ⟨h.os,h.tape,h.output,by simpa [World.setCell] using h.size,fun k hk=>(Below.heap_setCell _ _ _ _ (by show k ≠ b;omega)).trans (h.block k hk)⟩
theorem OwnN.formB {B:Nat} {e:TypeId} {k:IntKind} {v:Value} {l:List Nat} {w:World} (h:OwnN B e k v l w) (h0:0 < l.length):∃ g cap,v = .slice (some ⟨g,0,none⟩) l.length cap ∧ B ≤ g ∧ g < w.heap.size:=by
 rcases h.2 with ⟨_,h1⟩ | ⟨g,cap,cur,hv,hb,hg,_⟩
 ·omega
 ·exact ⟨g,cap,hv,hb,lt_of_block hg⟩
theorem z4w (k:IntKind) (l:List Nat):∀ u ∈ z06 k l,u.oneCell' = true:=by
 intro u hu
 simp only [z06,List.mem_map] at hu
 obtain ⟨n,_,rfl⟩:=hu
 rfl
theorem zfj (k:IntKind) (l:List Nat) (j x:Nat):(z06 k l).set j (.int k (x:Int)) = z06 k (l.set j x):=by simp [z06,List.map_set]
theorem OwnN.but {B b:Nat} {e:TypeId} {k:IntKind} {v:Value} {l:List Nat} {w w':World} (h:OwnN B e k v l w) (hb:But b w w') (ap:∀ g,v.ownBlock = some g → b ≠ g):OwnN B e k v l w':=by
 refine World.ownsRow.kept (row:=some b) h ⟨hb.os,hb.tape,hb.output,hb.size,fun i hi hne=>hb.block i hi (fun e=>hne (by rw [e]))⟩ ?_
 rcases hv:v.ownBlock with _ | g
 ·exact Or.inl rfl
 ·exact Or.inr (fun e=>ap g hv (Option.some.inj e).symm)
theorem OwnT.but {B b:Nat} {e:TypeId} {k:IntKind} {v:Value} {l:List Nat} {w w':World} (h:OwnT B e k v l w) (hb:But b w w') (ap:∀ g,v.ownBlock = some g → b ≠ g):OwnT B e k v l w' :=
 h.kept fun g hg=>hb.block g (h.lt g hg).2 (Ne.symm (ap g hg))
def Blk (b:Nat) (t:TypeId) (k:IntKind) (l:List Nat) (w:World):Prop:=w.heap[b]? = some (.cells (z06 k l).toArray t (0,0))
theorem Blk.lt {b:Nat} {t:TypeId} {k:IntKind} {l:List Nat} {w:World} (h:Blk b t k l w):b < w.heap.size:=lt_of_block h
theorem Blk.cell {b:Nat} {t:TypeId} {k:IntKind} {l:List Nat} {w:World} (h:Blk b t k l w) (j:Nat) (hj:j < l.length):w.cell? ⟨b,j,none⟩ = some (.int k ((l.getD j 0:Nat):Int)):=by
 rw [Lib.cell_of_heap h j,List.getElem?_toArray,z06,List.getElem?_map,List.getElem?_eq_getElem hj,List.getD_eq_getElem?_getD,List.getElem?_eq_getElem hj]
 rfl
theorem Blk.frozen {b:Nat} {t:TypeId} {k:IntKind} {l:List Nat} {w:World} (h:Blk b t k l w) (j:Nat):w.frozen? ⟨b,j,none⟩ = false:=frozen_of_row w b j _ t h
theorem Blk.set {b:Nat} {t:TypeId} {k:IntKind} {l:List Nat} {w:World} (h:Blk b t k l w) (j x:Nat):Blk b t k (l.set j x) (w.setCell ⟨b,j,none⟩ (.int k (x:Int))):=by
 have e:=z2n (o:=j) (v:=.int k (x:Int)) h
 rw [List.setIfInBounds_toArray,zfj] at e
 exact e
theorem Blk.below {b:Nat} {t:TypeId} {k:IntKind} {l:List Nat} {w w':World} (h:Blk b t k l w) (hb:Below w.heap.size w w'):Blk b t k l w':=(hb.block b h.lt).trans h
theorem Blk.but {b g:Nat} {t:TypeId} {k:IntKind} {l:List Nat} {w w':World} (h:Blk b t k l w) (hb:But g w w') (hne:b ≠ g):Blk b t k l w':=(hb.block b h.lt hne).trans h
theorem Blk.alloc {b:Nat} {t:TypeId} {k:IntKind} {l:List Nat} {w:World} (h:Blk b t k l w) (o:Obj):Blk b t k l (w.alloc o):=(heap_alloc_old w o h.lt).trans h
theorem Blk.drawn {b:Nat} {t:TypeId} {k:IntKind} {l:List Nat} {w:World} (h:Blk b t k l w) (n:Nat):Blk b t k l (w.drewN n):=h
theorem Blk.row {b:Nat} {t:TypeId} {k:IntKind} {l l':List Nat} {w:World} (h:Blk b t k l w):Blk b t k l' (w.setRow b (z06 k l').toArray):=setRow_heap _ _ _ _ _ _ h
theorem But.setRow {b:Nat} {w w':World} (h:But b w w') (cs:Array Value):But b w (w'.setRow b cs) :=
 h.trans ⟨rfl,rfl,rfl,by simp,fun k _ hb=>setRow_other w' b k cs hb⟩
theorem But.new {b g:Nat} {w w1 w2:World} (h:But b w w1) (k:But g w1 w2) (hg:w.heap.size ≤ g):But b w w2 :=
 ⟨k.os.trans h.os,k.tape.trans h.tape,k.output.trans h.output,Nat.le_trans h.size k.size,fun i hi hb=>(k.block i (Nat.lt_of_lt_of_le hi h.size) (by omega)).trans (h.block i hi hb)⟩
theorem But.alloc {b:Nat} {w w':World} (h:But b w w') (o:Obj):But b w (w'.alloc o):=h.below ((Below.refl _ _).alloc (Nat.le_refl _) _)
theorem z13 (k:IntKind) (l:List Nat):(z06 k l).toArray.size = l.length:=by simp [z06]
theorem z78 (k:IntKind) (l:List Nat):(z06 k l).toArray.all (·.oneCell') = true:=by
 rw [Array.all_eq_true_iff_forall_mem]
 intro x hx
 exact z4w k l x (by simpa using hx)
theorem zah {P:Program} (t e:TypeId) (n:Nat) (k:IntKind) (l:List Nat) (j:Nat) (w:World) (h:P.underlying t = some (.array n e)) (hl:l.length = n) (hz:∀ w,(sizeOf e).run P w = .ok 1 w) (ha:∀ w,(isAgg e).run P w = .ok false w) (hj:j < n) :
 (Instr.index t (.agg (z06 k l).toArray) (.int .i64 (j:Int))).run P w = .ok (.int k ((l.getD j 0:Nat):Int)) w:=by
 have h2:(0:Int) ≤ j ∧ (j:Int) < n:=by omega
 have hn:(z06 k l)[j]? = some (.int k ((l.getD j 0:Nat):Int)):=by
  rw [z06,List.getElem?_map,List.getElem?_eq_getElem (by omega),List.getD_eq_getElem?_getD,List.getElem?_eq_getElem (by omega)]
  rfl
 simp [Instr.index,run_underlying h,asIntOf,hj,go_sem,hz,ha]
 rw [hn]
 simp
theorem zad (l:List UInt8):Lib.byteCells l = z06 .u8 (z10 l):=by simp [Lib.byteCells,z06,z10]
theorem zac {P:Program} (w:World) (dT sT ty elem:TypeId) (g cap:Nat) (s:List UInt8) (l:List Nat) (t:TypeId)
 (hu:P.underlying dT = some (.slice elem)) (hs:(P.info? elem).map (·.size) = some 1) (hg:Blk g t .u8 l w) :
 (Builtin.copy_ #[dT,sT] ty #[.slice (some ⟨g,0,none⟩) l.length cap,.string ⟨s.toArray⟩]).run P w =
  .ok (goInt (min s.length l.length)) (w.setRow g (z06 .u8 (z10 (s.take l.length) ++ l.drop s.length)).toArray):=by
 have hlen:(Lib.byteCells (s.take l.length)).length = min s.length l.length:=by rw [Lib.byteCells_length,List.length_take,Nat.min_comm]
 have hst:=run_storeCells_at P g 0 t (Lib.byteCells (s.take l.length)) 0 (z06 .u8 l).toArray w hg (by rw [hlen,z13];omega) (Lib.byteCells_one _)
 have htk:List.take (min s.length l.length) (List.map (fun b:UInt8=>Value.int IntKind.u8 (b.toNat:Int)) s) = Lib.byteCells (s.take l.length):=by
  rw [← List.map_take,Lib.byteCells]
  congr 1
  rcases Nat.le_total s.length l.length with h | h
  ·rw [Nat.min_eq_left h,List.take_of_length_le (Nat.le_refl _),List.take_of_length_le h]
  ·rw [Nat.min_eq_right h]
 have hsz:(⟨s.toArray⟩:ByteArray).size = s.length:=by simp [ByteArray.size]
 have hend:(z06 .u8 (z10 (s.take l.length) ++ l.drop s.length)) = Lib.byteCells (s.take l.length) ++ (z06 .u8 l).drop (min s.length l.length):=by
  rw [zad,z06,List.map_append]
  congr 1
  rcases Nat.le_total s.length l.length with h | h
  ·rw [Nat.min_eq_left h,z06,List.map_drop]
  ·rw [Nat.min_eq_right h,List.drop_of_length_le h,List.drop_of_length_le (by rw [z0v];exact Nat.le_refl _)]
   rfl
 rw [hlen] at hst
 rw [hend]
 simp only [Nat.add_zero] at hst
 cases hq:P.info? elem with
 | none=>simp [hq] at hs
 | some i =>
   have hmin:s.length.min l.length = min s.length l.length:=rfl
   simp [Builtin.copy_,run_underlying hu,Builtin.lenOf,Builtin.firstCells,sizeOf,typeInfo,hq,hsz,hmin]
   rw [htk,hst]
   simp [Result.andThen]
   congr 1
   omega
theorem z31 {P:Program} {w:World} {ops:Array Oper} {rest:List Oper} {o:Oper} {a:Act} {Q:Exit → Act → World → Prop} (hgd:o.guard = none) (d x:Operand) (dT sT:TypeId)
 (ho:o.op = .call { callee:=.builtin .copy,args:=#[d,x],argTypes:=#[dT,sT] }) (elem:TypeId) (hu:P.underlying dT = some (.slice elem)) (hs:(P.info? elem).map (·.size) = some 1)
 (g cap n:Nat) (s:List UInt8) (l:List Nat) (t:TypeId) (hn:n = l.length) (hd:a.eval d = .slice (some ⟨g,0,none⟩) n cap) (hx:a.eval x = .string ⟨s.toArray⟩) (hg:Blk g t .u8 l w)
 (h:∀ w',Hid (Blk g t .u8 (z10 (s.take l.length) ++ l.drop s.length) w') → Hid (But g w w') → wpList P ops Q rest (a.put o.dst (goInt (min s.length l.length))) w') :
 wpList P ops Q (o :: rest) a w:=by
 subst hn
 refine wpList_plain hgd fun K hK=>?_
 have hrun:=zac (P:=P) w dT sT o.type elem g cap s l t hu hs hg
 unfold Oper.wp
 simp [execOp,ho,resolve,invoke,builtin,hd,hx,hrun,Result.andThen]
 exact hK _ _ (h _ hg.row ((But.refl g w).setRow _))
theorem z04 {P:Program} {w:World} {ops:Array Oper} {rest:List Oper} {o:Oper} {a:Act} {Q:Exit → Act → World → Prop} (hgd:o.guard = none) (ty:TypeId) (x y:Operand) (ho:o.op = .store ty x y)
 (hd:o.dst = none) (g:Nat) (k:IntKind) (l l':List Nat) (t:TypeId) (hx:a.eval x = .pointer (some ⟨g,0,none⟩)) (hy:a.eval y = .agg (z06 k l').toArray)
 (hg:Blk g t k l w) (hi:(P.info? ty).map (·.size) = some l'.length) (hl:l.length = l'.length)
 (h:∀ w',Hid (Blk g t k l' w') → Hid (But g w w') → wpList P ops Q rest a w'):wpList P ops Q (o :: rest) a w :=
 wpList_store_rowTo hgd ty x y ho hd g (z06 k l').toArray hx hy t _ hg (by rw [z13];exact hi) (by rw [z13,z13];exact hl) (z78 _ _) (h _ hg.row ((But.refl g w).setRow _))
theorem z03 {P:Program} {w:World} {ops:Array Oper} {rest:List Oper} {o:Oper} {a:Act} {Q:Exit → Act → World → Prop} (hgd:o.guard = none) (ty:TypeId) (x:Operand) (ho:o.op = .load ty x)
 (g:Nat) (k:IntKind) (l:List Nat) (t:TypeId) (d:TypeDesc) (hx:a.eval x = .pointer (some ⟨g,0,none⟩)) (hg:Blk g t k l w)
 (hu:P.underlying ty = some d) (hd:(match d with | .struct _ | .array _ _=>true | _=>false) = true) (hi:(P.info? ty).map (·.size) = some l.length)
 (h:wpList P ops Q rest (a.put o.dst (.agg (z06 k l).toArray)) w):wpList P ops Q (o :: rest) a w :=
 wpList_load_row hgd ty x ho g hx t _ _ d hg hu hd (by rw [z13];exact hi) h
theorem z27 {P:Program} {fn:Func} {p:Tmp} {ty:TypeId} (h:fn.results = #[.cell p ty]) (tmps:Array Value) (w:World) (g:Nat) (k:IntKind) (l:List Nat) (t:TypeId) (d:TypeDesc)
 (hp:tmps.getD p undef = .pointer (some ⟨g,0,none⟩)) (hg:Blk g t k l w)
 (hu:P.underlying ty = some d) (hd:(match d with | .struct _ | .array _ _=>true | _=>false) = true) (hi:(P.info? ty).map (·.size) = some l.length) :
 (results fn tmps).run P w = .ok (.agg (z06 k l).toArray) w :=
 results_cell_row h tmps w g t _ (0,0) d hp hg hu hd (by rw [z13];exact hi)
theorem zct (r:List UInt8):∀ x ∈ z10 r,x < 256:=by
 intro x h
 simp only [z10,List.mem_map] at h
 obtain ⟨b,_,rfl⟩:=h
 exact b.toNat_lt
def txt (l:List Nat):List UInt8:=l.map UInt8.ofNat
theorem z2f (l:List Nat):(txt l).length = l.length:=by simp [txt]
theorem z3s {l:List Nat} (h:∀ x ∈ l,x < 256):z10 (txt l) = l:=by
 induction l with
 | nil=>rfl
 | cons y l ih =>
   have hy:=h y (by simp)
   simp only [txt,z10,List.map_cons,List.map_map] at ih ⊢
   rw [ih (fun z hz=>h z (by simp [hz]))]
   congr 1
   rw [UInt8.toNat_ofNat']
   omega
theorem zek (s:List UInt8):z06 .u8 (z10 s) = s.map fun b=>Value.int .u8 (b.toNat:Int):=by simp [z06,z10]
theorem txt_inj {l m:List Nat} (hl:∀ x ∈ l,x < 256) (hm:∀ x ∈ m,x < 256) (h:txt l = txt m):l = m:=by
 rw [← z3s hl,← z3s hm,h]
theorem zg4 (l m:List Nat):txt (l ++ m) = txt l ++ txt m:=by simp [txt]
theorem z79 {l:List Nat} (h:∀ x ∈ l,x < 256):z06 .u8 l = (txt l).map Extern.Stop.cell:=by
 have e:(txt l).map Extern.Stop.cell = z06 .u8 (z10 (txt l)):=(zek (txt l)).symm
 rw [e,z3s h]
theorem zh0 {a b:List Nat} (la:∀ x ∈ a,x < 256) (lb:∀ x ∈ b,x < 256):(txt a == txt b) = (a == b):=by
 rw [Bool.eq_iff_iff,beq_iff_eq,beq_iff_eq]
 exact ⟨txt_inj la lb,fun h=>by rw [h]⟩
theorem zg6 {P:Program} (t e:TypeId) (n:Nat) (ht:P.underlying t = some (.array n e)) (he:P.underlying e = some (.int .u8)) (hsz:∀ w,(sizeOf e).run P w = .ok 1 w)
 (a b:List Nat) (ha:a.length = n) (hb:b.length = n) (la:∀ x ∈ a,x < 256) (lb:∀ x ∈ b,x < 256) (w:World) :
 (Op.equalIn 10000 t (.agg (z06 .u8 a).toArray) (.agg (z06 .u8 b).toArray)).run P w = .ok (a == b) w:=by
 rw [z79 la,z79 lb,run_equalIn_bytes w 9998 t e n ht he hsz (txt a) (txt b) (by rw [z2f,ha]) (by rw [z2f,hb]),zh0 la lb]
theorem z09 {P:Program} {id:Nat} {Q:Exit → Act → World → Prop} {a:Act} {w:World} {l:List Oper} (C:World → Prop) (hm:P.follows .mixedOrders = true) (hB:Region.lexB .any l.toArray = true) (hC:C w.drew)
 (h:wpQuiet P l.toArray C (fun a'=>∀ w',C w' → Q .normal a' w') l a):(Code.region id l.toArray true).wp P Q a w :=
 wp_region_quiet (C:=C) hm hB hC (by simpa using h)
theorem z0q {P:Program} {o:Oper} {a:Act} {C:World → Prop} {K:Act → Prop} (ty:TypeId) (x:Operand) (ho:o.op = .load ty x) (b:Nat) (k:IntKind) (l:List Nat) (t:TypeId) (d:TypeDesc)
 (hx:a.eval x = .pointer (some ⟨b,0,none⟩)) (hC:∀ w,C w → Blk b t k l w) (hu:P.underlying ty = some d) (hd:(match d with | .struct _ | .array _ _=>true | _=>false) = true) (hi:(P.info? ty).map (·.size) = some l.length)
 (hk:K (a.put o.dst (.agg (z06 k l).toArray))):o.quiet P a C K:=by
 refine ⟨_,fun w hw=>?_,hk⟩
 unfold Oper.quietAt execOp
 simp only [ho,hx,Instr.loadAt,Instr.sureAddr,Sem.run_bind,Sem.run_pure,Result.andThen_ok,run_loadVar_row w b t ty _ (0,0) d (hC w hw) hu hd (by rw [z13];exact hi)]
 exact ⟨rfl,rfl⟩
structure DraftN where
 kind:Int
 key:List UInt8
 val:List UInt8
 ref:List Nat
deriving DecidableEq
structure OpN where
 d:DraftN
 author:Int
 depth:Int
 preds:List (List Nat)
deriving DecidableEq
def IdOk (l:List Nat):Prop:=l.length = 32 ∧ ∀ x ∈ l,x < 256
structure OpN.Ok (o:OpN):Prop where
 ref:IdOk o.d.ref
 preds:∀ p ∈ o.preds,IdOk p
def zeroI:List Nat:=List.replicate 32 0
theorem zeroI_ok:IdOk zeroI:=⟨List.length_replicate,fun x hx=>by rw [(List.mem_replicate.1 hx).2];decide⟩
def z1s:List Nat → List Nat → Int
 | a :: x,b :: y=>if a < b then -1 else if b < a then 1 else z1s x y
 | _,_=>0
def GoodD (d:DraftN):Prop:=1 ≤ d.kind ∧ d.kind ≤ 5 ∧ 1 ≤ d.key.length ∧ d.key.length ≤ 16 ∧ d.val.length ≤ 64 ∧ (d.kind ≤ 3 → d.ref = zeroI) ∧ (d.kind = 5 → d.ref ≠ zeroI ∧ d.val = [])
instance (d:DraftN):Decidable (GoodD d):=by unfold GoodD;infer_instance
def AscN (L:List (List Nat)):Prop:=∀ i,i < L.length → 0 < i → z1s (L.getD (i - 1) []) (L.getD i []) = -1
instance (L:List (List Nat)):Decidable (AscN L):=by unfold AscN;infer_instance
def GoodO (o:OpN):Prop:=AscN o.preds ∧ (o.preds = [] → o.depth = 1) ∧ (o.preds ≠ [] → 2 ≤ o.depth) ∧ o.preds.length ≤ 32 ∧ GoodD o.d ∧ 0 ≤ o.author ∧ o.author ≤ 4
instance (o:OpN):Decidable (GoodO o):=by unfold GoodO;infer_instance
def z3j (d:DraftN):List UInt8:=z2l [z2h d.kind.toNat,d.key,d.val,txt d.ref]
def z3k (L:List (List Nat)):List UInt8:=(L.map txt).flatten
def opB (o:OpN):List UInt8:=z2l [z2h o.author.toNat,z2h o.depth.toNat,z3k o.preds,z3j o.d]
theorem zfz {L:List (List Nat)} (h:∀ p ∈ L,IdOk p):(z3k L).length = 32 * L.length:=by
 induction L with
 | nil=>rfl
 | cons p L ih =>
   have h1:=ih (fun q hq=>h q (by simp [hq]))
   have h2:=(h p (by simp)).1
   rw [z3k,List.map_cons,List.flatten_cons,List.length_append,z2f,h2,List.length_cons]
   rw [z3k] at h1
   omega
theorem zgd (d:DraftN):(z3j d).length = 2 + (z2h (z2h d.kind.toNat).length).length + (z2h d.kind.toNat).length + (z60 d.key).length + (z60 d.val).length + (z60 (txt d.ref)).length:=by
 rw [z3j,z3c]
 simp only [List.length_cons,List.length_nil,Nat.zero_add,Nat.reduceAdd,z4z,List.length_append]
 have e:(z2h 4).length = 2:=by simp [z2h,dig]
 have e2:(z1j []).length = 0:=rfl
 rw [e,e2,z4d (z2h _)]
 omega
theorem z2r {t:List UInt8} (h:t.length < 9223372036854775808):(z60 t).length ≤ t.length + 9:=by
 have:=z4y h
 rw [z4d]
 omega
theorem z5s {n:Nat} (h:n < 9223372036854775808):(z2h n).length ≤ 9:=z4y h
theorem zcb {d:DraftN} (hk:d.kind < 9223372036854775808) (h1:d.key.length ≤ 512) (h2:d.val.length ≤ 512) (h3:d.ref.length = 32):(z3j d).length ≤ 1200:=by
 have e:=zgd d
 have a1:=z5s (n:=d.kind.toNat) (by omega)
 have a2:=z5s (n:=(z2h d.kind.toNat).length) (by omega)
 have a3:=z2r (t:=d.key) (by omega)
 have a4:=z2r (t:=d.val) (by omega)
 have a5:=z2r (t:=txt d.ref) (by rw [z2f];omega)
 rw [z2f] at a5
 omega
theorem opB_le {o:OpN} (hk:o.d.kind < 9223372036854775808) (ha:o.author < 9223372036854775808) (hd:o.depth < 9223372036854775808) (h1:o.d.key.length ≤ 512) (h2:o.d.val.length ≤ 512) (h3:o.Ok) (h4:o.preds.length ≤ 70):(opB o).length ≤ 4000:=by
 have hl:=zcb hk h1 h2 h3.ref.1
 have hp:=zfz h3.preds
 rw [opB,z3c]
 simp only [List.length_cons,List.length_nil,Nat.zero_add,Nat.reduceAdd,z4z,List.length_append]
 have e:(z2h 4).length = 2:=by simp [z2h,dig]
 have e2:(z1j []).length = 0:=rfl
 have a1:=z5s (n:=o.author.toNat) (by omega)
 have a2:=z5s (n:=o.depth.toNat) (by omega)
 have b1:=z2r (t:=z2h o.author.toNat) (by omega)
 have b2:=z2r (t:=z2h o.depth.toNat) (by omega)
 have b3:=z2r (t:=z3k o.preds) (by omega)
 have b4:=z2r (t:=z3j o.d) (by omega)
 omega
end Go.Proofs.YtnbldbbbibpobaaGreatDoor
namespace Go.Proofs.YtnbldbbbibpobaaGreatDoor
structure DraftN.Fit (d:DraftN):Prop where
 ref:IdOk d.ref
 low:-9223372036854775808 ≤ d.kind
 high:d.kind ≤ 9223372036854775807
 key:d.key.length ≤ 512
 val:d.val.length ≤ 512
structure OpN.Fit (o:OpN):Prop where
 d:o.d.Fit
 alow:-9223372036854775808 ≤ o.author
 ahigh:o.author ≤ 9223372036854775807
 dlow:-9223372036854775808 ≤ o.depth
 dhigh:o.depth ≤ 9223372036854775807
 preds:∀ p ∈ o.preds,IdOk p
 many:o.preds.length ≤ 70
theorem OpN.Fit.ok {o:OpN} (h:o.Fit):o.Ok:=⟨h.d.ref,h.preds⟩
open Go.RowKit
def z6e (x k:Nat):Nat:=x / 2 ^ k ||| x * 2 ^ (32 - k) % 4294967296
theorem z21 (x k:Nat) (hx:x < 4294967296):z6e x k < 4294967296:=by
 unfold z6e
 have h1:x / 2 ^ k < 2 ^ 32:=Nat.lt_of_le_of_lt (Nat.div_le_self _ _) hx
 have h2:x * 2 ^ (32 - k) % 4294967296 < 2 ^ 32:=Nat.mod_lt _ (by decide)
 exact Nat.or_lt_two_pow h1 h2
theorem turn_or (x k:Nat) (hx:x < 4294967296):bits BinOp.or IntKind.u32 ((x:Int) / 2 ^ k) ((x:Int) * 2 ^ (32 - k) % 4294967296) = ((z6e x k:Nat):Int):=by
 have h1:x / 2 ^ k < 4294967296:=Nat.lt_of_le_of_lt (Nat.div_le_self _ _) hx
 have h2:x * 2 ^ (32 - k) % 4294967296 < 4294967296:=Nat.mod_lt _ (by decide)
 have:=u32_or_nat (x / 2 ^ k) (x * 2 ^ (32 - k) % 4294967296) h1 h2
 unfold z6e
 rw [← this]
 simp
theorem turn_any (x k:Nat) (w:World) (hx:x < 4294967296) (hk1:1 ≤ k) (hk:k ≤ 31) :
 Calls Tryz.prog 108 #[.int .u32 x,.int .u32 k] w fun e w'=>e = .returned (.int .u32 (z6e x k)) ∧ w = w':=by
 have h:=turn_or x k hx
 go_enter Tryz.func108,Tryz.ntmps108
 go_wp2_with fail
 go_ret
 exact ⟨rfl,rfl⟩
def sqOk (p y:Nat):Bool:=decide (y * y / 18446744073709551616 < p) || (decide (y * y / 18446744073709551616 = p) && decide (y * y % 18446744073709551616 = 0))
def cbLow (y:Nat):Nat:=y * y / 18446744073709551616 * y + y * y % 18446744073709551616 * y / 18446744073709551616
def cbOk (p y:Nat):Bool:=decide (cbLow y / 4294967296 < p) || (decide (cbLow y / 4294967296 = p) && (decide (cbLow y % 4294967296 = 0) && decide (y * y % 18446744073709551616 * y % 18446744073709551616 = 0)))
def bitAt (j:Nat):Nat:=68719476736 / 2 ^ j
def rootT (p:Nat) (cube:Bool) (y:Nat):Bool:=if cube then cbOk p y else sqOk p y
def rootX (p:Nat) (cube:Bool):Nat → Nat
 | 0=>0
 | j + 1=>if rootT p cube (rootX p cube j + bitAt j) then rootX p cube j + bitAt j else rootX p cube j
theorem Tryz.infoU32:(Tryz.prog.info? 143).map (fun i=>(i.zero,i.size,i.bytes)) = some (some (.int .u32 0),1,4):=by kernel_rfl
def shaH:List Nat:=[1779033703,3144134277,1013904242,2773480762,1359893119,2600822924,528734635,1541459225]
def shaK:List Nat:=[1116352408,1899447441,3049323471,3921009573,961987163,1508970993,2453635748,2870763221,3624381080,310598401,607225278,1426881987,1925078388,2162078206,2614888103,3248222580,3835390401,4022224774,264347078,604807628,770255983,1249150122,1555081692,1996064986,2554220882,2821834349,2952996808,3210313671,3336571891,3584528711,113926993,338241895,666307205,773529912,1294757372,1396182291,1695183700,1986661051,2177026350,2456956037,2730485921,2820302411,3259730800,3345764771,3516065817,3600352804,4094571909,275423344,430227734,506948616,659060556,883997877,958139571,1322822218,1537002063,1747873779,1955562222,2024104815,2227730452,2361852424,2428436474,2756734187,3204031479,3329325298]
theorem shaK_len:shaK.length = 64:=by decide
theorem zio:∀ x ∈ shaK,x < 4294967296:=by decide
theorem zhi (w:World) :
 Calls Tryz.prog 107 #[] w fun e w'=>e = .returned (.tuple #[.slice (some ⟨w.heap.size,0,none⟩) 8 8,.slice (some ⟨w.heap.size + 1,0,none⟩) 64 64]) ∧
  OwnN w.heap.size 143 .u32 (.slice (some ⟨w.heap.size,0,none⟩) 8 8) shaH w' ∧ OwnN w.heap.size 143 .u32 (.slice (some ⟨w.heap.size + 1,0,none⟩) 64 64) shaK w' ∧ Below w.heap.size w w':=by
 go_enter Tryz.func107,Tryz.ntmps107
 go_wp2_with fail
 go_ret2
 refine ⟨rfl,?_,?_,((Below.refl _ w).alloc (Nat.le_refl _) _).alloc (by simp) _⟩
 ·have h:=World.ownsRow_lit (base:=w.heap.size) (e:=143) (size:=1) w (z06 .u32 shaH).toArray 8 (Nat.le_refl _) (by unfold maxLen;omega) rfl
  exact OwnN.alloc h _
 ·have h:=World.ownsRow_lit (base:=w.heap.size) (e:=143) (size:=1) (w.alloc (.cells (z06 .u32 shaH).toArray 143)) (z06 .u32 shaK).toArray 64 (by simp) (by unfold maxLen;omega) rfl
  have e:(w.alloc (.cells (z06 .u32 shaH).toArray 143)).heap.size = w.heap.size + 1:=by simp
  rw [e] at h
  exact h
def s0 (x:Nat):Nat:=z6e x 7 ^^^ z6e x 18 ^^^ x / 8
def s1 (x:Nat):Nat:=z6e x 17 ^^^ z6e x 19 ^^^ x / 1024
def S1 (x:Nat):Nat:=z6e x 6 ^^^ z6e x 11 ^^^ z6e x 25
def S0 (x:Nat):Nat:=z6e x 2 ^^^ z6e x 13 ^^^ z6e x 22
def ch (e f g:Nat):Nat:=(e &&& f) ^^^ ((4294967295 ^^^ e) &&& g)
def mj (a b c:Nat):Nat:=(a &&& b) ^^^ (a &&& c) ^^^ (b &&& c)
theorem zaj {a b:Nat} (ha:a < 4294967296) (hb:b < 4294967296):a ^^^ b < 4294967296:=Nat.xor_lt_two_pow (n:=32) ha hb
theorem z99 {a b:Nat} (hb:b < 4294967296):a &&& b < 4294967296:=Nat.lt_of_le_of_lt Nat.and_le_right hb
def z9a (b:Nat → Nat) (i:Nat):Nat:=b (4 * i) * 16777216 + b (4 * i + 1) * 65536 + b (4 * i + 2) * 256 + b (4 * i + 3)
def zdi (l:List Nat) (i:Nat):Nat:=(l.getD (i - 16) 0 + l.getD (i - 7) 0 + s0 (l.getD (i - 15) 0) + s1 (l.getD (i - 2) 0)) % 4294967296
def wl (b:Nat → Nat):Nat → List Nat
 | 0=>[]
 | i + 1=>wl b i ++ [if i < 16 then z9a b i else zdi (wl b i) i]
theorem z5e (b:Nat → Nat) (i:Nat):(wl b i).length = i:=by
 induction i with
 | zero=>rfl
 | succ i ih=>rw [wl,List.length_append,ih];rfl
theorem zez {b:Nat → Nat} {i:Nat} (h:i < 16):wl b (i + 1) = wl b i ++ [z9a b i]:=by rw [wl,if_pos h]
theorem ze8 {b:Nat → Nat} {i:Nat} (h:¬ i < 16):wl b (i + 1) = wl b i ++ [zdi (wl b i) i]:=by rw [wl,if_neg h]
theorem wordN_lt {b:Nat → Nat} (hb:∀ j,b j < 256) (i:Nat):z9a b i < 4294967296:=by
 have h0:=hb (4 * i)
 have h1:=hb (4 * i + 1)
 have h2:=hb (4 * i + 2)
 have h3:=hb (4 * i + 3)
 unfold z9a
 omega
theorem wl_lt {b:Nat → Nat} (hb:∀ j,b j < 256) (i:Nat):∀ x ∈ wl b i,x < 4294967296:=by
 induction i with
 | zero=>intro x h;cases h
 | succ i ih =>
   intro x h
   rw [wl,List.mem_append] at h
   rcases h with h | h
   ·exact ih x h
   ·rw [List.mem_singleton] at h
    subst h
    split
    ·exact wordN_lt hb i
    ·exact Nat.mod_lt _ (by decide)
structure S8 where
 (a b c d e f g h:Nat)
def S8.list (v:S8):List Nat:=[v.a,v.b,v.c,v.d,v.e,v.f,v.g,v.h]
structure S8.Ok (v:S8):Prop where
 a:v.a < 4294967296
 b:v.b < 4294967296
 c:v.c < 4294967296
 d:v.d < 4294967296
 e:v.e < 4294967296
 f:v.f < 4294967296
 g:v.g < 4294967296
 h:v.h < 4294967296
def tN (v:S8) (k w:Nat):Nat:=(v.h + S1 v.e + ch v.e v.f v.g + k + w) % 4294967296
def uN (v:S8):Nat:=(S0 v.a + mj v.a v.b v.c) % 4294967296
def rnd (v:S8) (k w:Nat):S8:=⟨(tN v k w + uN v) % 4294967296,v.a,v.b,v.c,(v.d + tN v k w) % 4294967296,v.e,v.f,v.g⟩
theorem rnd_ok {v:S8} (h:v.Ok) (k w:Nat):(rnd v k w).Ok:=⟨Nat.mod_lt _ (by decide),h.a,h.b,h.c,Nat.mod_lt _ (by decide),h.e,h.f,h.g⟩
def rl (v:S8) (W:List Nat):Nat → S8
 | 0=>v
 | i + 1=>rnd (rl v W i) (shaK.getD i 0) (W.getD i 0)
theorem rl_ok {v:S8} (h:v.Ok) (W:List Nat) (i:Nat):(rl v W i).Ok:=by
 induction i with
 | zero=>exact h
 | succ i ih=>exact rnd_ok ih _ _
def addS (v u:S8):S8:=⟨(v.a + u.a) % 4294967296,(v.b + u.b) % 4294967296,(v.c + u.c) % 4294967296,(v.d + u.d) % 4294967296,(v.e + u.e) % 4294967296,(v.f + u.f) % 4294967296,(v.g + u.g) % 4294967296,(v.h + u.h) % 4294967296⟩
theorem zhz (v u:S8):(addS v u).Ok :=
 ⟨Nat.mod_lt _ (by decide),Nat.mod_lt _ (by decide),Nat.mod_lt _ (by decide),Nat.mod_lt _ (by decide),Nat.mod_lt _ (by decide),Nat.mod_lt _ (by decide),Nat.mod_lt _ (by decide),Nat.mod_lt _ (by decide)⟩
def H0:S8:=⟨1779033703,3144134277,1013904242,2773480762,1359893119,2600822924,528734635,1541459225⟩
theorem H0_ok:H0.Ok:=⟨by decide,by decide,by decide,by decide,by decide,by decide,by decide,by decide⟩
def block (v:S8) (b:Nat → Nat):S8:=addS v (rl v (wl b 64) 64)
theorem t_int (a b c d e f g h k w:Nat) (he:e < 4294967296) (hf:f < 4294967296) (hg:g < 4294967296) :
 ((h : Int) + bits BinOp.xor IntKind.u32 (bits BinOp.xor IntKind.u32 ((z6e e 6 : Nat) : Int) ((z6e e 11 : Nat) : Int)) ((z6e e 25 : Nat) : Int) +
   bits BinOp.xor IntKind.u32 (bits BinOp.and IntKind.u32 (e:Int) (f:Int)) (bits BinOp.and IntKind.u32 (bits BinOp.xor IntKind.u32 IntKind.u32.max (e:Int)) (g:Int)) + (k:Int) + (w:Int)) % 4294967296 =
 ((tN ⟨a,b,c,d,e,f,g,h⟩ k w:Nat):Int):=by
 have hm:IntKind.u32.max = ((4294967295:Nat):Int):=by decide
 rw [hm,u32_xor_nat _ _ (z21 _ _ he) (z21 _ _ he),u32_xor_nat _ _ (zaj (z21 _ _ he) (z21 _ _ he)) (z21 _ _ he),u32_and_nat _ _ he hf,u32_xor_nat _ _ (by decide) he,u32_and_nat _ _ (zaj (by decide) he) hg,u32_xor_nat _ _ (z99 hf) (z99 hg)]
 unfold tN S1 ch
 simp only [Int.natCast_emod,Int.natCast_add]
 rfl
theorem u_int (a b c d e f g h:Nat) (ha:a < 4294967296) (hb:b < 4294967296) (hc:c < 4294967296) :
 (bits BinOp.xor IntKind.u32 (bits BinOp.xor IntKind.u32 ((z6e a 2:Nat):Int) ((z6e a 13:Nat):Int)) ((z6e a 22:Nat):Int) +
  bits BinOp.xor IntKind.u32 (bits BinOp.xor IntKind.u32 (bits BinOp.and IntKind.u32 (a:Int) (b:Int)) (bits BinOp.and IntKind.u32 (a:Int) (c:Int))) (bits BinOp.and IntKind.u32 (b:Int) (c:Int))) % 4294967296 =
 ((uN ⟨a,b,c,d,e,f,g,h⟩:Nat):Int):=by
 rw [u32_xor_nat _ _ (z21 _ _ ha) (z21 _ _ ha),u32_xor_nat _ _ (zaj (z21 _ _ ha) (z21 _ _ ha)) (z21 _ _ ha),u32_and_nat _ _ ha hb,u32_and_nat _ _ ha hc,u32_and_nat _ _ hb hc,u32_xor_nat _ _ (z99 hb) (z99 hc),u32_xor_nat _ _ (zaj (z99 hb) (z99 hc)) (z99 hc)]
 unfold uN S0 mj
 simp only [Int.natCast_emod,Int.natCast_add]
 rfl
theorem w_int (y16 y7 y15 y2:Nat) (h15:y15 < 4294967296) (h2:y2 < 4294967296) (h3:y15 / 8 < 4294967296) (h4:y2 / 1024 < 4294967296) :
 ((y16 : Int) + (y7 : Int) + bits BinOp.xor IntKind.u32 (bits BinOp.xor IntKind.u32 ((z6e y15 7 : Nat) : Int) ((z6e y15 18 : Nat) : Int)) ((y15 / 8 : Nat) : Int) +
   bits BinOp.xor IntKind.u32 (bits BinOp.xor IntKind.u32 ((z6e y2 17:Nat):Int) ((z6e y2 19:Nat):Int)) ((y2 / 1024:Nat):Int)) % 4294967296 =
 (((y16 + y7 + s0 y15 + s1 y2) % 4294967296:Nat):Int):=by
 rw [u32_xor_nat _ _ (z21 _ _ h15) (z21 _ _ h15),u32_xor_nat _ _ (zaj (z21 _ _ h15) (z21 _ _ h15)) h3,u32_xor_nat _ _ (z21 _ _ h2) (z21 _ _ h2),u32_xor_nat _ _ (zaj (z21 _ _ h2) (z21 _ _ h2)) h4]
 unfold s0 s1
 simp only [Int.natCast_emod,Int.natCast_add]
 rfl
theorem tN_lt (v:S8) (k w:Nat):tN v k w < 4294967296:=Nat.mod_lt _ (by decide)
theorem uN_lt (v:S8):uN v < 4294967296:=Nat.mod_lt _ (by decide)
def z1k (p:List Nat):Nat → S8
 | 0=>H0
 | n + 1=>block (z1k p n) (fun j=>p.getD (64 * n + j) 0)
theorem z3b (p:List Nat) (n:Nat):(z1k p n).Ok:=by
 cases n with
 | zero=>exact H0_ok
 | succ n=>exact zhz _ _
def z1m (n:Nat):Nat:=(119 - n % 64) % 64
def l8 (N:Nat):Nat → List Nat
 | 0=>[]
 | i + 1=>l8 N i ++ [N * 256 ^ i % 18446744073709551616 / 72057594037927936]
theorem zc0 (N i:Nat):(l8 N i).length = i:=by
 induction i with
 | zero=>rfl
 | succ i ih=>rw [l8,List.length_append,ih];rfl
theorem l8_lt (N i:Nat):∀ x ∈ l8 N i,x < 256:=by
 induction i with
 | zero=>intro x h;cases h
 | succ i ih =>
   intro x h
   rw [l8,List.mem_append] at h
   rcases h with h | h
   ·exact ih x h
   ·rw [List.mem_singleton] at h
    have:N * 256 ^ i % 18446744073709551616 < 18446744073709551616:=Nat.mod_lt _ (by decide)
    omega
def z3y (s:List UInt8):List Nat:=z10 s ++ [128] ++ List.replicate (z1m s.length) 0 ++ l8 (s.length * 8) 8
theorem z92 (s:List UInt8):(z3y s).length = s.length + 9 + z1m s.length:=by
 simp [z3y,z0w,zc0]
 omega
theorem padN_mod (s:List UInt8):(z3y s).length % 64 = 0:=by
 rw [z92]
 unfold z1m
 omega
theorem padN_lt (s:List UInt8):∀ x ∈ z3y s,x < 256:=by
 intro x h
 simp only [z3y,List.mem_append] at h
 rcases h with ((h | h) | h) | h
 ·simp only [z10,List.mem_map] at h
  obtain ⟨b,_,rfl⟩:=h
  exact b.toNat_lt
 ·rw [List.mem_singleton] at h;omega
 ·have:=List.eq_of_mem_replicate h;omega
 ·exact l8_lt _ _ x h
def zbx (l:List Nat):List Nat:=(List.range 32).map fun i=>l.getD (i / 4) 0 / 2 ^ (24 - 8 * (i % 4)) % 256
def z6x (s:List UInt8):List Nat:=zbx (z1k (z3y s) ((z3y s).length / 64)).list
def z0a (o:OpN):List Nat:=z6x (z2l [[111,112],opB o])
theorem z1u (o:OpN):(z0a o).length = 32:=by simp [z0a,z6x,zbx]
theorem z2o (o:OpN):∀ x ∈ z0a o,x < 256:=by
 intro x hx
 simp only [z0a,z6x,zbx,List.mem_map] at hx
 obtain ⟨i,_,rfl⟩:=hx
 exact Nat.mod_lt _ (by decide)
end Go.Proofs.YtnbldbbbibpobaaGreatDoor
