/-
  Joined: Layer 10 as plain mathematics: which operations are there, which wait, what comes by one that is taken.; Lists of keys and elements: looked up, stored into, deleted from.; The developers' set as mathematics: behind whom who waits, what is free, the heads; it comes to what the document's comes to.
-/
import Derived.Test.YthggbfgijeicbaaGreatDoorJ01
namespace Go.Proofs.YthggbfgijeicbaaGreatDoor
open Go.RowKit
structure DagN where
 ops:List OpN
 wait:List OpN
def DagN.names (s:DagN):List (List Nat):=s.ops.map nameN
def DagN.waits (s:DagN):List (List Nat):=s.wait.map nameN
def DagN.new:DagN:=⟨[],[]⟩
def atN (L:List (List Nat)) (n:List Nat):Int:=if n ∈ L then (L.idxOf n:Int) else -1
def wholeN (L:List (List Nat)) (o:OpN):Bool:=o.preds.all fun p=>decide (p ∈ L)
def depthAt (ops:List OpN) (p:List Nat):Int:=((ops[(ops.map nameN).idxOf p]?).map (·.depth)).getD 0
def maxD (ops:List OpN) (L:List (List Nat)):Int:=L.foldl (fun n p=>if n < depthAt ops p then depthAt ops p else n) 0
def depthN (ops:List OpN) (o:OpN):Int:=maxD ops o.preds + 1
def bestStep (L:List (List Nat)) (W:List OpN) (b:Option Nat) (i:Nat):Option Nat :=
 match W[i]? with
 | some o=>if wholeN L o then (match b with
  | none=>some i
  | some j=>if cmpN (nameN o) (nameN (W.getD j o)) = -1 then some i else some j) else b
 | none=>b
def bestTo (L:List (List Nat)) (W:List OpN):Nat → Option Nat
 | 0=>none
 | k + 1=>bestStep L W (bestTo L W k) k
def bestN (L:List (List Nat)) (W:List OpN):Option Nat:=bestTo L W W.length
theorem bestTo_lt (L:List (List Nat)) (W:List OpN):∀ (k j:Nat),k ≤ W.length → bestTo L W k = some j → j < k
 | 0,j,_,h=>by cases h
 | k + 1, j, hk, h => by
   have ih:=fun j=>bestTo_lt L W k j (by omega)
   rw [bestTo,bestStep,List.getElem?_eq_getElem (by omega)] at h
   simp only at h
   split at h
   ·split at h
    ·cases h;omega
    ·rename_i j' hj'
     split at h
     ·cases h;omega
     ·cases h;have:=ih _ hj';omega
   ·have:=ih j h;omega
theorem bestN_lt {L:List (List Nat)} {W:List OpN} {j:Nat} (h:bestN L W = some j):j < W.length:=bestTo_lt L W _ _ (Nat.le_refl _) h
def settleN:Nat → DagN → List (List Nat) × DagN
 | 0,s=>([],s)
 | f + 1, s => match bestN s.names s.wait with
   | none=>([],s)
   | some i => match s.wait[i]? with
     | none=>([],s)
     | some o => if o.depth = depthN s.ops o then
      (nameN o :: (settleN f ⟨s.ops ++ [o],s.wait.eraseIdx i⟩).1,(settleN f ⟨s.ops ++ [o],s.wait.eraseIdx i⟩).2)
       else settleN f ⟨s.ops,s.wait.eraseIdx i⟩
def takeN (s:DagN) (o:OpN):List (List Nat) × Int × DagN :=
 if ¬ GoodO o then ([],1,s)
 else if nameN o ∈ s.names ∨ nameN o ∈ s.waits then ([],9,s)
 else if wholeN s.names o = false then ([],0,⟨s.ops,s.wait ++ [o]⟩)
 else if o.depth ≠ depthN s.ops o then ([],10,s)
 else (nameN o :: (settleN s.wait.length ⟨s.ops ++ [o],s.wait⟩).1,0,(settleN s.wait.length ⟨s.ops ++ [o],s.wait⟩).2)
def insN (n:List Nat):List (List Nat) → List (List Nat)
 | []=>[n]
 | x :: r=>if cmpN x n = -1 then x :: insN n r else n :: x :: r
def risingN (L:List (List Nat)):List (List Nat):=L.foldl (fun out n=>insN n out) []
theorem insN_len (n:List Nat):∀ L:List (List Nat),(insN n L).length = L.length + 1
 | []=>rfl
 | x :: r => by
   rw [insN]
   split
   ·rw [List.length_cons,List.length_cons,insN_len n r]
   ·rfl
theorem insN_mem {n x:List Nat}:∀ {L:List (List Nat)},x ∈ insN n L ↔ x = n ∨ x ∈ L
 | []=>by simp [insN]
 | y :: r => by
   rw [insN]
   split
   ·rw [List.mem_cons,insN_mem,List.mem_cons]
    constructor
    ·rintro (h | h | h)
     ·exact .inr (.inl h)
     ·exact .inl h
     ·exact .inr (.inr h)
    ·rintro (h | h | h)
     ·exact .inr (.inl h)
     ·exact .inl h
     ·exact .inr (.inr h)
   ·simp
theorem fold_ins_mem {x:List Nat}:∀ {L out:List (List Nat)},x ∈ L.foldl (fun out n=>insN n out) out ↔ x ∈ out ∨ x ∈ L
 | [],out=>by simp
 | y :: r, out => by
   rw [List.foldl_cons,fold_ins_mem,insN_mem]
   simp only [List.mem_cons]
   constructor
   ·rintro ((h | h) | h)
    ·exact .inr (.inl h)
    ·exact .inl h
    ·exact .inr (.inr h)
   ·rintro (h | h | h)
    ·exact .inl (.inr h)
    ·exact .inl (.inl h)
    ·exact .inr h
theorem risingN_mem {x:List Nat} {L:List (List Nat)}:x ∈ risingN L ↔ x ∈ L:=by
 rw [risingN,fold_ins_mem]
 simp
theorem fold_ins_len:∀ {L out:List (List Nat)},(L.foldl (fun out n=>insN n out) out).length = out.length + L.length
 | [],out=>by simp
 | y :: r, out => by
   rw [List.foldl_cons,fold_ins_len,insN_len,List.length_cons]
   omega
theorem risingN_len (L:List (List Nat)):(risingN L).length = L.length:=by rw [risingN,fold_ins_len];simp
theorem risingN_snoc (L:List (List Nat)) (n:List Nat):risingN (L ++ [n]) = insN n (risingN L):=by rw [risingN,List.foldl_append];rfl
def posN (n:List Nat):List (List Nat) → Nat
 | []=>0
 | x :: r=>if cmpN x n = -1 then posN n r + 1 else 0
theorem posN_le (n:List Nat):∀ L:List (List Nat),posN n L ≤ L.length
 | []=>Nat.le_refl _
 | x :: r => by
   rw [posN]
   split
   ·have:=posN_le n r;rw [List.length_cons];omega
   ·exact Nat.zero_le _
theorem insN_pos (n:List Nat):∀ L:List (List Nat),insN n L = L.take (posN n L) ++ n :: L.drop (posN n L)
 | []=>rfl
 | x :: r => by
   rw [insN,posN]
   split
   ·rw [insN_pos n r,List.take_succ_cons,List.drop_succ_cons,List.cons_append]
   ·rfl
theorem posN_step (n:List Nat):∀ (L:List (List Nat)) (k:Nat),k < L.length → k ≤ posN n L → (k < posN n L ↔ cmpN (L.getD k []) n = -1)
 | [],k,h,_=>by cases h
 | x :: r, 0, _, _ => by
   rw [posN]
   split
   ·rename_i h;simp [h]
   ·rename_i h;simp [h]
 | x :: r, k + 1, h, hk => by
   rw [posN] at hk ⊢
   split at hk
   ·rename_i h1
    rw [if_pos h1]
    have ih:=posN_step n r k (by simpa using h) (by omega)
    rw [List.getD_cons_succ,← ih]
    omega
   ·omega
def headsN (s:DagN):List (List Nat):=risingN (s.names.filter fun n=>!(s.ops.any fun o=>decide (n ∈ o.preds)))
def nextN' (s:DagN) (a:Int) (d:DraftN):Option OpN × Int :=
 if ¬ GoodD d ∨ a < 0 ∨ 4 < a then (none,1)
 else if 32 < (headsN s).length then (none,3)
 else (some ⟨d,a,maxD s.ops (headsN s) + 1,headsN s⟩,0)
def DagN.Shallow (s:DagN):Prop:=∀ x ∈ s.ops,x.depth ≤ s.ops.length
theorem depthAt_le {ops:List OpN} {n:Int} (h:∀ x ∈ ops,x.depth ≤ n) (h0:0 ≤ n) (p:List Nat):depthAt ops p ≤ n:=by
 unfold depthAt
 cases hq:ops[(ops.map nameN).idxOf p]? with
 | none=>exact h0
 | some x=>exact h x (List.mem_of_getElem? hq)
theorem maxD_to {ops:List OpN} {n:Int} (h:∀ x ∈ ops,x.depth ≤ n) (h0:0 ≤ n):∀ (L:List (List Nat)) (m:Int),0 ≤ m → m ≤ n → 0 ≤ L.foldl (fun n p=>if n < depthAt ops p then depthAt ops p else n) m ∧ L.foldl (fun n p=>if n < depthAt ops p then depthAt ops p else n) m ≤ n
 | [],m,h1,h2=>⟨h1,h2⟩
 | p :: L, m, h1, h2 => by
   rw [List.foldl_cons]
   split
   ·rename_i hlt
    exact maxD_to h h0 L _ (by omega) (depthAt_le h h0 p)
   ·exact maxD_to h h0 L _ h1 h2
theorem maxD_le {ops:List OpN} {n:Int} (h:∀ x ∈ ops,x.depth ≤ n) (h0:0 ≤ n) (L:List (List Nat)):0 ≤ maxD ops L ∧ maxD ops L ≤ n:=maxD_to h h0 L 0 (Int.le_refl _) h0
theorem Shallow_push {s:DagN} (h:s.Shallow) {o:OpN} (hd:o.depth = depthN s.ops o) (W:List OpN):DagN.Shallow ⟨s.ops ++ [o],W⟩:=by
 intro x hx
 have hm:=(maxD_le h (by omega) o.preds).2
 rw [List.length_append,List.length_singleton]
 rcases List.mem_append.1 hx with hx | hx
 ·have:=h x hx
  omega
 ·obtain rfl:=List.mem_singleton.1 hx
  rw [hd,depthN]
  omega
theorem settle_shallow:∀ (f:Nat) (s:DagN),s.Shallow → (settleN f s).2.Shallow ∧ (settleN f s).2.ops.length + (settleN f s).2.wait.length ≤ s.ops.length + s.wait.length
 | 0,s,h=>⟨h,Nat.le_refl _⟩
 | f + 1, s, h => by
   unfold settleN
   split
   ·exact ⟨h,Nat.le_refl _⟩
   ·rename_i i hb
    have hi:=bestN_lt hb
    split
    ·exact ⟨h,Nat.le_refl _⟩
    ·rename_i o ho
     have hl:(s.wait.eraseIdx i).length + 1 = s.wait.length:=by rw [List.length_eraseIdx,if_pos hi];omega
     split
     ·rename_i hd
      obtain ⟨h1,h2⟩:=settle_shallow f ⟨s.ops ++ [o],s.wait.eraseIdx i⟩ (Shallow_push h hd _)
      refine ⟨h1,Nat.le_trans h2 ?_⟩
      simp only [List.length_append,List.length_singleton]
      omega
     ·obtain ⟨h1,h2⟩:=settle_shallow f ⟨s.ops,s.wait.eraseIdx i⟩ h
      refine ⟨h1,Nat.le_trans h2 ?_⟩
      show s.ops.length + (s.wait.eraseIdx i).length ≤ _
      omega
theorem take_shallow {s:DagN} (h:s.Shallow) (o:OpN):(takeN s o).2.2.Shallow ∧ (takeN s o).2.2.ops.length + (takeN s o).2.2.wait.length ≤ s.ops.length + s.wait.length + 1:=by
 unfold takeN
 split
 ·exact ⟨h,by simp⟩
 ·split
  ·exact ⟨h,by simp⟩
  ·split
   ·exact ⟨h,by simp;omega⟩
   ·split
    ·exact ⟨h,by simp⟩
    ·rename_i hd
     have hd:=Classical.not_not.1 hd
     obtain ⟨h1,h2⟩:=settle_shallow s.wait.length ⟨s.ops ++ [o],s.wait⟩ (Shallow_push h hd _)
     refine ⟨h1,Nat.le_trans h2 ?_⟩
     simp only [List.length_append,List.length_singleton]
     omega
end Go.Proofs.YthggbfgijeicbaaGreatDoor
namespace Go.Proofs.YthggbfgijeicbaaGreatDoor
section
variable {β:Type}
theorem lookup_of_get {L:List (List Nat × β)} (hd:(L.map (·.1)).Nodup) {j:Nat} {n:List Nat} {v:β} (h:L[j]? = some (n,v)):L.lookup n = some v:=by
 induction L generalizing j with
 | nil=>cases h
 | cons p L ih =>
   rw [List.map_cons,List.nodup_cons] at hd
   obtain ⟨m,x⟩:=p
   cases j with
   | zero =>
     simp only [List.getElem?_cons_zero,Option.some.injEq,Prod.mk.injEq] at h
     obtain ⟨rfl,rfl⟩:=h
     simp
   | succ j =>
     simp only [List.getElem?_cons_succ] at h
     have hm:n ∈ L.map (·.1):=List.mem_map.2 ⟨(n,v),List.mem_of_getElem? h,rfl⟩
     have hne:(n == m) = false:=by
      rw [beq_eq_false_iff_ne]
      rintro rfl
      exact hd.1 hm
     rw [List.lookup_cons,hne]
     exact ih hd.2 h
theorem lookup_none {L:List (List Nat × β)} {n:List Nat} (h:n ∉ L.map (·.1)):L.lookup n = none:=by
 induction L with
 | nil=>rfl
 | cons p L ih =>
   rw [List.map_cons,List.mem_cons,not_or] at h
   obtain ⟨m,x⟩:=p
   have hne:(n == m) = false:=by rw [beq_eq_false_iff_ne];exact h.1
   rw [List.lookup_cons,hne]
   exact ih h.2
theorem lookup_split {L:List (List Nat × β)} {n:List Nat} {v:β} (h:L.lookup n = some v):∃ A B,L = A ++ (n,v) :: B ∧ n ∉ A.map (·.1):=by
 induction L with
 | nil=>cases h
 | cons p L ih =>
   obtain ⟨m,x⟩:=p
   rw [List.lookup_cons] at h
   cases hb:n == m with
   | true =>
     rw [hb] at h
     obtain rfl:=eq_of_beq hb
     cases h
     exact ⟨[],L,rfl,by simp⟩
   | false =>
     rw [hb] at h
     obtain ⟨A,B,rfl,hA⟩:=ih h
     refine ⟨(m,x) :: A,B,rfl,?_⟩
     rw [List.map_cons,List.mem_cons,not_or]
     exact ⟨by rw [beq_eq_false_iff_ne] at hb;exact hb,hA⟩
theorem lookup_mem {L:List (List Nat × β)} {n:List Nat} {v:β} (h:L.lookup n = some v):(n,v) ∈ L:=by
 obtain ⟨A,B,rfl,_⟩:=lookup_split h
 simp
theorem lookup_some {L:List (List Nat × β)} {n:List Nat} (h:n ∈ L.map (·.1)):∃ v,L.lookup n = some v:=by
 cases hl:L.lookup n with
 | some v=>exact ⟨v,rfl⟩
 | none =>
   exfalso
   induction L with
   | nil=>cases h
   | cons p L ih =>
     obtain ⟨m,x⟩:=p
     rw [List.lookup_cons] at hl
     cases hb:n == m with
     | true=>rw [hb] at hl;cases hl
     | false =>
       rw [hb] at hl
       rw [List.map_cons,List.mem_cons] at h
       rcases h with rfl | h
       ·simp at hb
       ·exact ih h hl
def atE (L:List (List Nat × β)) (z:β) (n:List Nat):β:=(L.lookup n).getD z
def putE (L:List (List Nat × β)) (n:List Nat) (v:β):List (List Nat × β) :=
 if n ∈ L.map (·.1) then L.map fun p=>if p.1 = n then (n,v) else p else L ++ [(n,v)]
def delE (L:List (List Nat × β)) (n:List Nat):List (List Nat × β):=L.filter fun p=>!decide (p.1 = n)
theorem putE_keys {L:List (List Nat × β)} {n:List Nat} {v:β} (h:n ∈ L.map (·.1)):(putE L n v).map (·.1) = L.map (·.1):=by
 rw [putE,if_pos h,List.map_map]
 refine List.map_congr_left fun p _=>?_
 simp only [Function.comp_apply]
 split
 ·rename_i e;exact e.symm
 ·rfl
theorem putE_new {L:List (List Nat × β)} {n:List Nat} {v:β} (h:n ∉ L.map (·.1)):putE L n v = L ++ [(n,v)]:=by rw [putE,if_neg h]
theorem put_same {A:List (List Nat × β)} {n:List Nat} {v:β} (h:n ∉ A.map (·.1)):(A.map fun p=>if p.1 = n then (n,v) else p) = A:=by
 refine (List.map_congr_left fun p hp=>?_).trans (List.map_id' _)
 rw [if_neg]
 rintro rfl
 exact h (List.mem_map.2 ⟨p,hp,rfl⟩)
theorem del_same {A:List (List Nat × β)} {n:List Nat} (h:n ∉ A.map (·.1)):delE A n = A:=by
 rw [delE,List.filter_eq_self]
 intro q hq
 have:q.1 ≠ n:=fun e=>h (List.mem_map.2 ⟨q,hq,e⟩)
 simpa using this
theorem delE_append (A B:List (List Nat × β)) (n:List Nat):delE (A ++ B) n = delE A n ++ delE B n:=by rw [delE,List.filter_append];rfl
theorem delE_keys {L:List (List Nat × β)} {n m:List Nat}:m ∈ (delE L n).map (·.1) ↔ m ∈ L.map (·.1) ∧ m ≠ n:=by
 simp only [List.mem_map,delE,List.mem_filter,Bool.not_eq_true',decide_eq_false_iff_not]
 constructor
 ·rintro ⟨p,⟨h1,h2⟩,rfl⟩
  exact ⟨⟨p,h1,rfl⟩,h2⟩
 ·rintro ⟨⟨p,h1,rfl⟩,h2⟩
  exact ⟨p,⟨h1,h2⟩,rfl⟩
theorem delE_nodup {L:List (List Nat × β)} (h:(L.map (·.1)).Nodup) (n:List Nat):((delE L n).map (·.1)).Nodup:=(List.Sublist.map _ List.filter_sublist).nodup h
theorem putE_nodup {L:List (List Nat × β)} (h:(L.map (·.1)).Nodup) (n:List Nat) (v:β):((putE L n v).map (·.1)).Nodup:=by
 by_cases hn:n ∈ L.map (·.1)
 ·rw [putE_keys hn];exact h
 ·rw [putE_new hn,List.map_append]
  refine List.nodup_append.2 ⟨h,by simp,fun a ha c hc=>?_⟩
  obtain rfl:c = n:=by simpa using hc
  rintro rfl
  exact hn ha
theorem split_all {L:List (List Nat × β)} (hd:(L.map (·.1)).Nodup) {n:List Nat} {v:β} (h:L.lookup n = some v) :
 ∃ A B,L = A ++ (n,v) :: B ∧ (∀ v',putE L n v' = A ++ (n,v') :: B) ∧ delE L n = A ++ B ∧ n ∉ (A ++ B).map (·.1):=by
 obtain ⟨A,B,rfl,hA⟩:=lookup_split h
 have hB:n ∉ B.map (·.1):=by
  rw [List.map_append,List.map_cons,List.nodup_append,List.nodup_cons] at hd
  exact hd.2.1.1
 have hm:n ∈ (A ++ (n,v) :: B).map (·.1):=by simp
 refine ⟨A,B,rfl,fun v'=>?_,?_,?_⟩
 ·rw [putE,if_pos hm,List.map_append,List.map_cons,put_same hA,put_same hB]
  simp
 ·rw [delE_append,del_same hA,show ((n,v) :: B) = [(n,v)] ++ B from rfl,delE_append,del_same hB]
  simp [delE]
 ·rw [List.map_append,List.mem_append,not_or]
  exact ⟨hA,hB⟩
theorem lookup_append {A B:List (List Nat × β)} {n:List Nat} (h:n ∉ A.map (·.1)):(A ++ B).lookup n = B.lookup n:=by
 induction A with
 | nil=>rfl
 | cons p A ih =>
   obtain ⟨m,x⟩:=p
   rw [List.map_cons,List.mem_cons,not_or] at h
   have hne:(n == m) = false:=by rw [beq_eq_false_iff_ne];exact h.1
   rw [List.cons_append,List.lookup_cons,hne]
   exact ih h.2
theorem lookup_append_left {A B:List (List Nat × β)} {n:List Nat} (h:n ∈ A.map (·.1)):(A ++ B).lookup n = A.lookup n:=by
 induction A with
 | nil=>cases h
 | cons p A ih =>
   obtain ⟨m,x⟩:=p
   rw [List.cons_append,List.lookup_cons,List.lookup_cons]
   cases hb:n == m with
   | true=>rfl
   | false =>
     rw [List.map_cons,List.mem_cons] at h
     rw [beq_eq_false_iff_ne] at hb
     exact ih (h.resolve_left hb)
theorem lookup_mid {A B:List (List Nat × β)} {n m:List Nat} {x y:β} (h:m ≠ n):(A ++ (n,x) :: B).lookup m = (A ++ (n,y) :: B).lookup m:=by
 by_cases hm:m ∈ A.map (·.1)
 ·rw [lookup_append_left hm,lookup_append_left hm]
 ·have hne:(m == n) = false:=by rw [beq_eq_false_iff_ne];exact h
  rw [lookup_append hm,lookup_append hm,List.lookup_cons,List.lookup_cons,hne]
theorem lookup_put_ne {L:List (List Nat × β)} (hd:(L.map (·.1)).Nodup) {n m:List Nat} (v:β) (h:m ≠ n):(putE L n v).lookup m = L.lookup m:=by
 by_cases hn:n ∈ L.map (·.1)
 ·obtain ⟨x,hx⟩:=lookup_some hn
  obtain ⟨A,B,h1,h2,_⟩:=split_all hd hx
  rw [h2,h1]
  exact lookup_mid h
 ·rw [putE_new hn]
  by_cases hm:m ∈ L.map (·.1)
  ·rw [lookup_append_left hm]
  ·rw [lookup_append hm,lookup_none hm]
   exact lookup_none (by simpa using h)
theorem lookup_del_ne {L:List (List Nat × β)} (hd:(L.map (·.1)).Nodup) {n m:List Nat} (h:m ≠ n):(delE L n).lookup m = L.lookup m:=by
 by_cases hn:n ∈ L.map (·.1)
 ·obtain ⟨x,hx⟩:=lookup_some hn
  obtain ⟨A,B,h1,_,h3,_⟩:=split_all hd hx
  rw [h3,h1]
  by_cases hm:m ∈ A.map (·.1)
  ·rw [lookup_append_left hm,lookup_append_left hm]
  ·have hne:(m == n) = false:=by rw [beq_eq_false_iff_ne];exact h
   rw [lookup_append hm,lookup_append hm,List.lookup_cons,hne]
 ·rw [del_same hn]
theorem del_put_ne {L:List (List Nat × β)} {n m:List Nat} (v:β) (h:n ≠ m):delE (putE L n v) m = putE (delE L m) n v:=by
 by_cases hn:n ∈ L.map (·.1)
 ·have hn2:n ∈ (delE L m).map (·.1):=delE_keys.2 ⟨hn,h⟩
  rw [putE,if_pos hn,putE,if_pos hn2,delE,delE,List.filter_map]
  congr 1
  refine List.filter_congr fun p _=>?_
  simp only [Function.comp_apply]
  by_cases hp:p.1 = n
  ·rw [if_pos hp,hp]
  ·rw [if_neg hp]
 ·have hn2:n ∉ (delE L m).map (·.1):=fun e=>hn (delE_keys.1 e).1
  rw [putE_new hn,putE_new hn2,delE_append]
  congr 1
  rw [delE,List.filter_cons,if_pos (by simpa using h)]
  rfl
theorem get_of_lookup {L:List (List Nat × β)} {n:List Nat} {v:β} (h:L.lookup n = some v):∃ j:Nat,L[j]? = some (n,v):=by
 obtain ⟨j,hj,he⟩:=List.getElem_of_mem (lookup_mem h)
 exact ⟨j,by rw [List.getElem?_eq_getElem hj,he]⟩
theorem put_set {L:List (List Nat × β)} (hd:(L.map (·.1)).Nodup) {j:Nat} {n:List Nat} {x:β} (v:β) (h:L[j]? = some (n,x)):putE L n v = L.set j (n,v):=by
 have hm:n ∈ L.map (·.1):=List.mem_map.2 ⟨(n,x),List.mem_of_getElem? h,rfl⟩
 rw [putE,if_pos hm]
 refine List.ext_getElem? fun i=>?_
 rw [List.getElem?_map]
 by_cases hij:j = i
 ·subst hij
  rw [h,List.getElem?_set_self (List.getElem?_eq_some_iff.1 h).1]
  simp
 ·rw [List.getElem?_set_ne hij]
  cases hi:L[i]? with
  | none=>rfl
  | some p =>
    rw [Option.map_some]
    congr 1
    rw [if_neg]
    intro hp
    have h1:(L.map (·.1))[i]? = some n:=by rw [List.getElem?_map,hi,Option.map_some,hp]
    have h2:(L.map (·.1))[j]? = some n:=by rw [List.getElem?_map,h];rfl
    have hjl:j < (L.map (·.1)).length:=(List.getElem?_eq_some_iff.1 h2).1
    exact hij ((List.getElem?_inj hjl hd).1 (h2.trans h1.symm))
theorem del_erase {L:List (List Nat × β)} (hd:(L.map (·.1)).Nodup) {j:Nat} {n:List Nat} {x:β} (h:L[j]? = some (n,x)):delE L n = L.eraseIdx j:=by
 induction L generalizing j with
 | nil=>cases h
 | cons p L ih =>
   rw [List.map_cons,List.nodup_cons] at hd
   cases j with
   | zero =>
     simp only [List.getElem?_cons_zero,Option.some.injEq] at h
     subst h
     rw [delE,List.filter_cons,if_neg (by simp),List.eraseIdx_cons_zero,List.filter_eq_self]
     intro q hq
     have:q.1 ≠ n:=fun e=>hd.1 (List.mem_map.2 ⟨q,hq,e⟩)
     simpa using this
   | succ j =>
     simp only [List.getElem?_cons_succ] at h
     have:p.1 ≠ n:=fun e=>hd.1 (e ▸ List.mem_map.2 ⟨(n,x),List.mem_of_getElem? h,rfl⟩)
     rw [delE,List.filter_cons,if_pos (by simpa using this),List.eraseIdx_cons_succ]
     congr 1
     exact ih hd.2 h
end
end Go.Proofs.YthggbfgijeicbaaGreatDoor
namespace Go.Proofs.YthggbfgijeicbaaGreatDoor
open Go.RowKit
theorem cmpN_self:∀ a:List Nat,cmpN a a = 0
 | []=>by rw [cmpN];intro a x b y h;cases h
 | a :: x=>by rw [cmpN,if_neg (Nat.lt_irrefl _),if_neg (Nat.lt_irrefl _)];exact cmpN_self x
theorem cmpN_nil (a:List Nat):cmpN [] a = 0:=by rw [cmpN];intro a x b y h;cases h
theorem cmpN_nil2 (a:List Nat):cmpN a [] = 0:=by
 cases a with
 | nil=>exact cmpN_nil _
 | cons x a=>rw [cmpN];intro a x b y h h2;cases h2
theorem cmpN_eq:∀ {a b:List Nat},a.length = b.length → cmpN a b = 0 → a = b
 | [],[],_,_=>rfl
 | [],_ :: _,h,_=>by cases h
 | _ :: _,[],h,_=>by cases h
 | a :: x, b :: y, h, h2 => by
   rw [cmpN] at h2
   split at h2
   ·cases h2
   ·split at h2
    ·cases h2
    ·rw [show a = b by omega,cmpN_eq (by simpa using h) h2]
theorem cmpN_flip:∀ (a b:List Nat),cmpN a b = -1 ↔ cmpN b a = 1
 | [],b=>by rw [cmpN_nil,cmpN_nil2];decide
 | a :: x,[]=>by rw [cmpN_nil,cmpN_nil2];decide
 | a :: x, b :: y => by
   rw [cmpN,cmpN]
   by_cases h1:a < b
   ·rw [if_pos h1,if_neg (by omega),if_pos h1];simp
   ·rw [if_neg h1]
    by_cases h2:b < a
    ·rw [if_pos h2,if_pos h2];decide
    ·rw [if_neg h2,if_neg h2,if_neg h1];exact cmpN_flip x y
theorem cmpN_trans:∀ {a b c:List Nat},cmpN a b = -1 → cmpN b c = -1 → cmpN a c = -1
 | [],b,_,h,_=>by rw [cmpN_nil] at h;cases h
 | _ :: _,[],_,h,_=>by rw [cmpN_nil2] at h;cases h
 | _ :: _,_ :: _,[],_,h=>by rw [cmpN_nil2] at h;cases h
 | a :: x, b :: y, c :: z, h1, h2 => by
   rw [cmpN] at h1 h2 ⊢
   by_cases p1:a < b
   ·by_cases p2:b < c
    ·rw [if_pos (by omega)]
    ·rw [if_neg p2] at h2
     by_cases p3:c < b
     ·rw [if_pos p3] at h2;cases h2
     ·rw [if_pos (by omega)]
   ·rw [if_neg p1] at h1
    by_cases p3:b < a
    ·rw [if_pos p3] at h1;cases h1
    ·rw [if_neg p3] at h1
     obtain rfl:a = b:=by omega
     by_cases p2:a < c
     ·rw [if_pos p2]
     ·rw [if_neg p2] at h2 ⊢
      by_cases p4:c < a
      ·rw [if_pos p4] at h2;cases h2
      ·rw [if_neg p4] at h2 ⊢
       exact cmpN_trans h1 h2
theorem cmpN_vals:∀ (a b:List Nat),cmpN a b = -1 ∨ cmpN a b = 0 ∨ cmpN a b = 1
 | [],b=>.inr (.inl (cmpN_nil b))
 | _ :: _,[]=>.inr (.inl (cmpN_nil2 _))
 | a :: x, b :: y => by
   rw [cmpN]
   split
   ·exact .inl rfl
   ·split
    ·exact .inr (.inr rfl)
    ·exact cmpN_vals x y
theorem cmpN_total {a b:List Nat} (hl:a.length = b.length) (hne:a ≠ b):cmpN a b = -1 ∨ cmpN b a = -1:=by
 rcases cmpN_vals a b with h | h | h
 ·exact .inl h
 ·exact absurd (cmpN_eq hl h) hne
 ·exact .inr ((cmpN_flip b a).2 h)
theorem cmpN_asym {a b:List Nat} (h:cmpN a b = -1) (k:cmpN b a = -1):False:=by
 have:=cmpN_trans h k
 rw [cmpN_self] at this
 cases this
def Rise (L:List (List Nat)):Prop:=L.Pairwise fun a b=>cmpN a b = -1
theorem rise_eq {L M:List (List Nat)} (h:Rise L) (k:Rise M) (hp:L.Perm M):L = M :=
 List.Perm.eq_of_pairwise (fun _ _ _ _ h1 h2=>(cmpN_asym h1 h2).elim) h k hp
theorem insN_perm (n:List Nat):∀ L:List (List Nat),(insN n L).Perm (n :: L)
 | []=>List.Perm.refl _
 | x :: r => by
   rw [insN]
   split
   ·exact ((insN_perm n r).cons x).trans (List.Perm.swap _ _ _)
   ·exact List.Perm.refl _
theorem insN_rise {n:List Nat} (hn:n.length = 32):∀ {L:List (List Nat)},Rise L → (∀ x ∈ L,x.length = 32) → n ∉ L → Rise (insN n L)
 | [],_,_,_=>List.pairwise_singleton _ _
 | x :: r, h, hl, hm => by
   obtain ⟨h1,h2⟩:=List.pairwise_cons.1 h
   rw [insN]
   split
   ·rename_i hx
    refine List.pairwise_cons.2 ⟨fun y hy=>?_,insN_rise hn h2 (fun y hy=>hl y (List.mem_cons_of_mem _ hy)) (fun e=>hm (List.mem_cons_of_mem _ e))⟩
    rcases insN_mem.1 hy with rfl | hy
    ·exact hx
    ·exact h1 y hy
   ·rename_i hx
    have hnx:cmpN n x = -1:=(cmpN_total (by rw [hn,hl x List.mem_cons_self]) (fun e=>hm (List.mem_cons.2 (.inl e)))).resolve_right hx
    refine List.pairwise_cons.2 ⟨fun y hy=>?_,h⟩
    rcases List.mem_cons.1 hy with rfl | hy
    ·exact hnx
    ·exact cmpN_trans hnx (h1 y hy)
theorem fold_ins_perm:∀ (L out:List (List Nat)),(L.foldl (fun out n=>insN n out) out).Perm (out ++ L)
 | [],out=>by rw [List.append_nil];exact List.Perm.refl _
 | n :: L,out=>(fold_ins_perm L (insN n out)).trans (((insN_perm n out).append_right L).trans List.perm_middle.symm)
theorem risingN_perm (L:List (List Nat)):(risingN L).Perm L:=fold_ins_perm L []
theorem fold_ins_rise:∀ {L out:List (List Nat)},Rise out → (∀ x ∈ out ++ L,x.length = 32) → (out ++ L).Nodup → Rise (L.foldl (fun out n=>insN n out) out)
 | [],_,h,_,_=>h
 | n :: L, out, h, hl, hd => by
   rw [List.foldl_cons]
   have hn:n ∉ out:=fun hm=>by
    rw [List.nodup_append] at hd
    exact hd.2.2 n hm n List.mem_cons_self rfl
   have hp:(insN n out ++ L).Perm (out ++ n :: L):=((insN_perm n out).append_right L).trans List.perm_middle.symm
   refine fold_ins_rise (insN_rise (hl n (by simp)) h (fun x hx=>hl x (by simp [hx])) hn) (fun x hx=>hl x (hp.mem_iff.1 hx)) (hp.nodup_iff.2 hd)
theorem risingN_rise {L:List (List Nat)} (hl:∀ x ∈ L,x.length = 32) (hd:L.Nodup):Rise (risingN L):=fold_ins_rise List.Pairwise.nil hl hd
theorem rising_of {L M:List (List Nat)} (h:Rise L) (hp:L.Perm M) (hl:∀ x ∈ M,x.length = 32) (hd:M.Nodup):L = risingN M :=
 rise_eq h (risingN_rise hl hd) (hp.trans (risingN_perm M).symm)
theorem best_none {L:List (List Nat)} {W:List OpN}:∀ (k:Nat),bestTo L W k = none → ∀ j o,j < k → W[j]? = some o → wholeN L o = false
 | 0,_,_,_,h,_=>by omega
 | k + 1, h, j, o, hj, ho => by
   rw [bestTo,bestStep] at h
   cases hk:W[k]? with
   | none =>
     rw [hk] at h
     by_cases hjk:j = k
     ·subst hjk;rw [hk] at ho;cases ho
     ·exact best_none k h j o (by omega) ho
   | some p =>
     rw [hk] at h
     simp only at h
     split at h
     ·split at h
      ·cases h
      ·split at h <;> cases h
     ·rename_i hw
      by_cases hjk:j = k
      ·subst hjk
       rw [hk] at ho
       cases ho
       simpa using hw
      ·exact best_none k h j o (by omega) ho
theorem best_some {L:List (List Nat)} {W:List OpN}:∀ (k i:Nat),bestTo L W k = some i → ∃ o,W[i]? = some o ∧ wholeN L o = true ∧ ∀ j p,j < k → W[j]? = some p → wholeN L p = true → nameN p = nameN o ∨ cmpN (nameN o) (nameN p) = -1
 | 0,_,h=>by cases h
 | k + 1, i, h => by
   rw [bestTo,bestStep] at h
   cases hk:W[k]? with
   | none =>
     rw [hk] at h
     obtain ⟨o,h1,h2,h3⟩:=best_some k i h
     refine ⟨o,h1,h2,fun j p hj hp hw=>?_⟩
     by_cases hjk:j = k
     ·subst hjk;rw [hk] at hp;cases hp
     ·exact h3 j p (by omega) hp hw
   | some q =>
     rw [hk] at h
     simp only at h
     split at h
     ·rename_i hq
      split at h
      ·rename_i hb
       cases h
       refine ⟨q,hk,hq,fun j p hj hp hw=>?_⟩
       by_cases hjk:j = k
       ·subst hjk;rw [hk] at hp;cases hp;exact .inl rfl
       ·rw [best_none k hb j p (by omega) hp] at hw;cases hw
      ·rename_i j' hb
       obtain ⟨o,h1,h2,h3⟩:=best_some k j' hb
       have hg:W.getD j' q = o:=by rw [List.getD_eq_getElem?_getD,h1];rfl
       rw [hg] at h
       split at h
       ·rename_i hc
        cases h
        refine ⟨q,hk,hq,fun j p hj hp hw=>?_⟩
        by_cases hjk:j = k
        ·subst hjk;rw [hk] at hp;cases hp;exact .inl rfl
        ·rcases h3 j p (by omega) hp hw with e | e
         ·exact .inr (e ▸ hc)
         ·exact .inr (cmpN_trans hc e)
       ·rename_i hc
        cases h
        refine ⟨o,h1,h2,fun j p hj hp hw=>?_⟩
        by_cases hjk:j = k
        ·subst hjk;rw [hk] at hp;cases hp
         by_cases hne:nameN q = nameN o
         ·exact .inl hne
         ·exact .inr ((cmpN_total (by rw [nameN_len,nameN_len]) (Ne.symm hne)).resolve_right hc)
        ·exact h3 j p (by omega) hp hw
     ·rename_i hq
      obtain ⟨o,h1,h2,h3⟩:=best_some k i h
      refine ⟨o,h1,h2,fun j p hj hp hw=>?_⟩
      by_cases hjk:j = k
      ·subst hjk;rw [hk] at hp;cases hp;exact absurd hw hq
      ·exact h3 j p (by omega) hp hw
abbrev Bh:=List (List Nat × List (List Nat))
def flatB (M:Bh):List (List Nat):=M.flatMap (·.2)
def atB (M:Bh) (p:List Nat):List (List Nat):=atE M [] p
theorem flatB_append (A B:Bh):flatB (A ++ B) = flatB A ++ flatB B:=List.flatMap_append
theorem flatB_put {M:Bh} (hd:(M.map (·.1)).Nodup) (p m:List Nat):(flatB (putE M p (atB M p ++ [m]))).Perm (m :: flatB M):=by
 by_cases hp:p ∈ M.map (·.1)
 ·obtain ⟨l,hl⟩:=lookup_some hp
  obtain ⟨A,B,h1,h2,_⟩:=split_all hd hl
  have ha:atB M p = l:=by rw [atB,atE,hl];rfl
  rw [ha,h2,h1,flatB_append,flatB_append]
  show (flatB A ++ ((l ++ [m]) ++ flatB B)).Perm (m :: (flatB A ++ (l ++ flatB B)))
  rw [List.append_assoc,List.singleton_append,← List.append_assoc,← List.append_assoc]
  exact List.perm_middle
 ·have ha:atB M p = []:=by rw [atB,atE,lookup_none hp];rfl
  rw [ha,putE_new hp,flatB_append]
  show (flatB M ++ ([m] ++ [])).Perm (m :: flatB M)
  rw [List.append_nil]
  exact List.perm_append_singleton _ _
theorem flatB_del {M:Bh} (hd:(M.map (·.1)).Nodup) (p:List Nat):(flatB M).Perm (atB M p ++ flatB (delE M p)):=by
 by_cases hp:p ∈ M.map (·.1)
 ·obtain ⟨l,hl⟩:=lookup_some hp
  obtain ⟨A,B,h1,_,h3,_⟩:=split_all hd hl
  have ha:atB M p = l:=by rw [atB,atE,hl];rfl
  rw [ha,h3,flatB_append]
  conv=>lhs;rw [h1,flatB_append]
  show (flatB A ++ (l ++ flatB B)).Perm (l ++ (flatB A ++ flatB B))
  rw [← List.append_assoc,← List.append_assoc]
  exact List.perm_append_comm.append_right _
 ·have ha:atB M p = []:=by rw [atB,atE,lookup_none hp];rfl
  rw [ha,del_same hp]
  exact List.Perm.refl _
theorem mem_flatB {M:Bh} {m:List Nat}:m ∈ flatB M ↔ ∃ q ∈ M,m ∈ q.2:=List.mem_flatMap
theorem mem_put {M:Bh} (hd:(M.map (·.1)).Nodup) {p:List Nat} {l:List (List Nat)} {q:List Nat × List (List Nat)} (h:q ∈ putE M p l):q = (p,l) ∨ (q ∈ M ∧ q.1 ≠ p):=by
 by_cases hp:p ∈ M.map (·.1)
 ·obtain ⟨x,hx⟩:=lookup_some hp
  obtain ⟨A,B,h1,h2,_,h4⟩:=split_all hd hx
  rw [h2,List.mem_append,List.mem_cons] at h
  have key:q ∈ A ++ B → q ∈ M ∧ q.1 ≠ p:=fun hq=>⟨by rw [h1,List.mem_append,List.mem_cons];exact (List.mem_append.1 hq).imp id .inr,fun e=>h4 (List.mem_map.2 ⟨q,hq,e⟩)⟩
  rcases h with h | h | h
  ·exact .inr (key (List.mem_append.2 (.inl h)))
  ·exact .inl h
  ·exact .inr (key (List.mem_append.2 (.inr h)))
 ·rw [putE_new hp,List.mem_append,List.mem_singleton] at h
  rcases h with h | h
  ·exact .inr ⟨h,fun e=>hp (List.mem_map.2 ⟨q,h,e⟩)⟩
  ·exact .inl h
theorem mem_del {M:Bh} {p:List Nat} {q:List Nat × List (List Nat)}:q ∈ delE M p ↔ q ∈ M ∧ q.1 ≠ p:=by simp [delE]
theorem atB_mem {M:Bh} {p m:List Nat} (h:m ∈ atB M p):∃ l,(p,l) ∈ M ∧ m ∈ l:=by
 rw [atB,atE] at h
 cases hl:M.lookup p with
 | none=>rw [hl] at h;cases h
 | some l=>rw [hl] at h;exact ⟨l,lookup_mem hl,h⟩
theorem map_inj_of_nodup {α β:Type} {f:α → β} {W:List α} (h:(W.map f).Nodup) {a b:α} (ha:a ∈ W) (hb:b ∈ W) (he:f a = f b):a = b:=by
 obtain ⟨i,hi,rfl⟩:=List.getElem_of_mem ha
 obtain ⟨j,hj,rfl⟩:=List.getElem_of_mem hb
 have:(W.map f)[i]? = (W.map f)[j]?:=by simp [List.getElem?_map,List.getElem?_eq_getElem hi,List.getElem?_eq_getElem hj,he]
 have:=(List.getElem?_inj (by simpa using hi) h).1 this
 subst this
 rfl
structure DInv (s:DagN) (hs:List (List Nat)) (M:Bh) (R F:List (List Nat)):Prop where
 nodup:(s.names ++ s.waits).Nodup
 perm:(flatB M ++ (R ++ F)).Perm s.waits
 keys:(M.map (·.1)).Nodup
 wait:∀ q ∈ M,q.1 ∉ s.names ∧ ∀ m ∈ q.2,∃ o ∈ s.wait,nameN o = m ∧ q.1 ∈ o.preds
 free:∀ m ∈ F,∃ o ∈ s.wait,nameN o = m ∧ wholeN s.names o = true
 closed:∀ o ∈ s.ops,∀ p ∈ o.preds,p ∈ s.names
 hnodup:hs.Nodup
 heads:∀ n,n ∈ hs ↔ n ∈ s.names ∧ ∀ o ∈ s.ops,n ∉ o.preds
section
variable {s:DagN} {hs:List (List Nat)} {M:Bh} {R F:List (List Nat)}
theorem DInv.new:DInv DagN.new [] [] [] []:=⟨List.nodup_nil,List.Perm.refl _,List.nodup_nil,(fun q hq=>by cases hq),(fun q hq=>by cases hq),(fun q hq=>by cases hq),List.nodup_nil,fun n=>by simp [DagN.new,DagN.names]⟩
theorem DInv.nodupN (h:DInv s hs M R F):s.names.Nodup:=(List.nodup_append.1 h.nodup).1
theorem DInv.nodupW (h:DInv s hs M R F):s.waits.Nodup:=(List.nodup_append.1 h.nodup).2.1
theorem DInv.apart (h:DInv s hs M R F) {n:List Nat} (h1:n ∈ s.names) (h2:n ∈ s.waits):False:=(List.nodup_append.1 h.nodup).2.2 n h1 n h2 rfl
theorem DInv.op (h:DInv s hs M R F) {m:List Nat} (hm:m ∈ R ++ F):∃ o ∈ s.wait,nameN o = m:=by
 have:m ∈ s.waits:=h.perm.mem_iff.1 (List.mem_append.2 (.inr hm))
 obtain ⟨o,ho,rfl⟩:=List.mem_map.1 this
 exact ⟨o,ho,rfl⟩
theorem DInv.one (h:DInv s hs M R F) {o p:OpN} (ho:o ∈ s.wait) (hp:p ∈ s.wait) (he:nameN o = nameN p):o = p:=map_inj_of_nodup h.nodupW ho hp he
theorem DInv.permF {F':List (List Nat)} (h:DInv s hs M R F) (hp:F.Perm F'):DInv s hs M R F' :=
 ⟨h.nodup,((hp.symm.append_left R).append_left _).trans h.perm,h.keys,h.wait,fun m hm=>h.free m (hp.mem_iff.2 hm),h.closed,h.hnodup,h.heads⟩
theorem DInv.lenF (h:DInv s hs M R F):F.length ≤ s.wait.length:=by
 have:=h.perm.length_eq
 simp only [List.length_append,DagN.waits,List.length_map] at this
 omega
theorem DInv.step_wait {m p:List Nat} (h:DInv s hs M (m :: R) F) {o:OpN} (ho:o ∈ s.wait) (hn:nameN o = m) (hp:p ∈ o.preds) (hnot:p ∉ s.names):DInv s hs (putE M p (atB M p ++ [m])) R F:=by
 refine ⟨h.nodup,?_,putE_nodup h.keys _ _,?_,h.free,h.closed,h.hnodup,h.heads⟩
 ·refine ((flatB_put h.keys p m).append_right _).trans (List.Perm.trans ?_ h.perm)
  rw [List.cons_append]
  exact (List.perm_middle (a:=m) (l₁:=flatB M) (l₂:=R ++ F)).symm
 ·intro q hq
  rcases mem_put h.keys hq with rfl | ⟨hq,_⟩
  ·refine ⟨hnot,fun x hx=>?_⟩
   rcases List.mem_append.1 hx with hx | hx
   ·obtain ⟨l,hl,hxl⟩:=atB_mem hx
    exact (h.wait _ hl).2 x hxl
   ·obtain rfl:=List.mem_singleton.1 hx
    exact ⟨o,ho,hn,hp⟩
  ·exact h.wait q hq
theorem DInv.step_free {m:List Nat} (h:DInv s hs M (m :: R) F) {o:OpN} (ho:o ∈ s.wait) (hn:nameN o = m) (hw:wholeN s.names o = true):DInv s hs M R (m :: F):=by
 refine ⟨h.nodup,?_,h.keys,h.wait,?_,h.closed,h.hnodup,h.heads⟩
 ·refine List.Perm.trans ?_ h.perm
  refine List.Perm.append_left _ ?_
  exact List.perm_middle
 ·intro x hx
  rcases List.mem_cons.1 hx with rfl | hx
  ·exact ⟨o,ho,hn,hw⟩
  ·exact h.free x hx
theorem wholeN_mono {L L':List (List Nat)} {o:OpN} (h:wholeN L o = true) (k:∀ x ∈ L,x ∈ L'):wholeN L' o = true:=by
 rw [wholeN,List.all_eq_true] at h ⊢
 intro p hp
 exact decide_eq_true (k p (of_decide_eq_true (h p hp)))
theorem wholeN_iff {L:List (List Nat)} {o:OpN}:wholeN L o = true ↔ ∀ p ∈ o.preds,p ∈ L:=by
 rw [wholeN,List.all_eq_true]
 exact ⟨fun h p hp=>of_decide_eq_true (h p hp),fun h p hp=>decide_eq_true (h p hp)⟩
theorem DInv.add {o:OpN} (h:DInv s hs M [] F) (hn:nameN o ∉ s.names) (hw:nameN o ∉ s.waits) (hwh:wholeN s.names o = true) :
 DInv ⟨s.ops ++ [o],s.wait⟩ ((hs.filter fun n=>!decide (n ∈ o.preds)) ++ [nameN o]) (delE M (nameN o)) (atB M (nameN o)) F:=by
 have hnames:DagN.names ⟨s.ops ++ [o],s.wait⟩ = s.names ++ [nameN o]:=by simp [DagN.names]
 have hwaits:DagN.waits ⟨s.ops ++ [o],s.wait⟩ = s.waits:=rfl
 have hwh2:=wholeN_iff.1 hwh
 refine ⟨?_,?_,delE_nodup h.keys _,?_,?_,?_,?_,?_⟩
 ·rw [hnames,hwaits]
  have:=h.nodup
  rw [List.nodup_append] at this ⊢
  refine ⟨List.nodup_append.2 ⟨this.1,by simp,fun a ha b hb e=>?_⟩,this.2.1,fun a ha b hb e=>?_⟩
  ·obtain rfl:=List.mem_singleton.1 hb
   exact hn (e ▸ ha)
  ·rcases List.mem_append.1 ha with ha | ha
   ·exact this.2.2 a ha b hb e
   ·obtain rfl:=List.mem_singleton.1 ha
    exact hw (e ▸ hb)
 ·rw [hwaits]
  refine List.Perm.trans ?_ h.perm
  rw [List.nil_append,← List.append_assoc]
  refine List.Perm.append_right _ ?_
  exact List.perm_append_comm.trans (flatB_del h.keys _).symm
 ·intro q hq
  obtain ⟨hq1,hq2⟩:=mem_del.1 hq
  obtain ⟨h1,h2⟩:=h.wait q hq1
  refine ⟨?_,h2⟩
  rw [hnames,List.mem_append,List.mem_singleton,not_or]
  exact ⟨h1,hq2⟩
 ·intro m hm
  obtain ⟨p,h1,h2,h3⟩:=h.free m hm
  exact ⟨p,h1,h2,wholeN_mono h3 (fun x hx=>by rw [hnames];exact List.mem_append.2 (.inl hx))⟩
 ·intro x hx p hp
  rw [hnames]
  rcases List.mem_append.1 hx with hx | hx
  ·exact List.mem_append.2 (.inl (h.closed x hx p hp))
  ·obtain rfl:=List.mem_singleton.1 hx
   exact List.mem_append.2 (.inl (hwh2 p hp))
 ·refine List.nodup_append.2 ⟨List.filter_sublist.nodup h.hnodup,by simp,fun a ha b hb e=>?_⟩
  obtain rfl:=List.mem_singleton.1 hb
  exact hn (e ▸ ((h.heads a).1 (List.mem_filter.1 ha).1).1)
 ·intro n
  rw [hnames,List.mem_append,List.mem_filter,List.mem_singleton,List.mem_append,List.mem_singleton,h.heads n]
  simp only [Bool.not_eq_true',decide_eq_false_iff_not]
  constructor
  ·rintro (⟨⟨h1,h2⟩,h3⟩ | rfl)
   ·refine ⟨.inl h1,fun x hx=>?_⟩
    rcases List.mem_append.1 hx with hx | hx
    ·exact h2 x hx
    ·obtain rfl:=List.mem_singleton.1 hx
     exact h3
   ·refine ⟨.inr rfl,fun x hx hp=>?_⟩
    rcases List.mem_append.1 hx with hx | hx
    ·exact hn (h.closed x hx _ hp)
    ·obtain rfl:=List.mem_singleton.1 hx
     exact hn (hwh2 _ hp)
  ·rintro ⟨h1 | rfl,h2⟩
   ·exact .inl ⟨⟨h1,fun x hx=>h2 x (List.mem_append.2 (.inl hx))⟩,h2 o (by simp)⟩
   ·exact .inr rfl
theorem DInv.cover (h:DInv s hs M R F) {o:OpN} (ho:o ∈ s.wait) (hw:wholeN s.names o = true):nameN o ∈ R ++ F:=by
 have hm:nameN o ∈ flatB M ++ (R ++ F):=h.perm.mem_iff.2 (List.mem_map.2 ⟨o,ho,rfl⟩)
 rcases List.mem_append.1 hm with hm | hm
 ·exfalso
  obtain ⟨q,hq,hmq⟩:=mem_flatB.1 hm
  obtain ⟨h1,h2⟩:=h.wait q hq
  obtain ⟨p,hp,he,hpp⟩:=h2 _ hmq
  obtain rfl:=h.one hp ho he
  exact h1 (wholeN_iff.1 hw _ hpp)
 ·exact hm
theorem DInv.best_none (h:DInv s hs M [] []):bestN s.names s.wait = none:=by
 cases hb:bestN s.names s.wait with
 | none=>rfl
 | some i =>
   obtain ⟨o,h1,h2,_⟩:=best_some _ _ hb
   have:=h.cover (List.mem_of_getElem? h1) h2
   cases this
theorem DInv.best (h:DInv s hs M [] F) {m:List Nat} (hm:m ∈ F) (hle:∀ x ∈ F,x = m ∨ cmpN m x = -1):∃ i o,bestN s.names s.wait = some i ∧ s.wait[i]? = some o ∧ nameN o = m ∧ wholeN s.names o = true:=by
 obtain ⟨o,ho,hn,hw⟩:=h.free m hm
 obtain ⟨j,hj,hjo⟩:=List.getElem_of_mem ho
 cases hb:bestN s.names s.wait with
 | none =>
   have:=Go.Proofs.YthggbfgijeicbaaGreatDoor.best_none _ hb j o hj (by rw [List.getElem?_eq_getElem hj,hjo])
   rw [hw] at this
   cases this
 | some i =>
   obtain ⟨p,h1,h2,h3⟩:=best_some _ _ hb
   refine ⟨i,p,rfl,h1,?_,h2⟩
   have hp:nameN p ∈ F:=by simpa using h.cover (List.mem_of_getElem? h1) h2
   rcases h3 j o hj (by rw [List.getElem?_eq_getElem hj,hjo]) hw with e | e
   ·rw [← e,hn]
   ·rcases hle _ hp with e2 | e2
    ·exact e2
    ·rw [hn] at e
     exact (cmpN_asym e e2).elim
theorem mem_erase_of {W:List OpN} {i:Nat} {o p:OpN} (hi:W[i]? = some o) (hp:p ∈ W) (hne:nameN p ≠ nameN o):p ∈ W.eraseIdx i:=by
 rw [List.mem_eraseIdx_iff_getElem?]
 obtain ⟨j,hj,rfl⟩:=List.getElem_of_mem hp
 refine ⟨j,?_,List.getElem?_eq_getElem hj⟩
 rintro rfl
 rw [List.getElem?_eq_getElem hj] at hi
 cases hi
 exact hne rfl
theorem cons_erase_perm {α:Type}:∀ {l:List α} {i:Nat} (h:i < l.length),(l[i] :: l.eraseIdx i).Perm l
 | a :: l,0,_=>List.Perm.refl _
 | a :: l,i + 1,h=>(List.Perm.swap _ _ _).trans ((cons_erase_perm (l:=l) (i:=i) (by simpa using h)).cons a)
theorem DInv.pop {m:List Nat} (h:DInv s hs M [] (m :: F)) {i:Nat} {o:OpN} (hi:s.wait[i]? = some o) (hn:nameN o = m) :
 DInv ⟨s.ops,s.wait.eraseIdx i⟩ hs M [] F ∧ m ∉ s.names ∧ m ∉ DagN.waits ⟨s.ops,s.wait.eraseIdx i⟩:=by
 have hlt:=(List.getElem?_eq_some_iff.1 hi).1
 have hw:DagN.waits ⟨s.ops,s.wait.eraseIdx i⟩ = s.waits.eraseIdx i:=by
  simp only [DagN.waits]
  exact (ChangeMaps.map_eraseIdx nameN s.wait i)
 have hil:i < s.waits.length:=by simpa [DagN.waits] using hlt
 have hg:s.waits[i] = m:=by
  have:s.waits[i]? = some m:=by rw [DagN.waits,List.getElem?_map,hi,Option.map_some,hn]
  rw [List.getElem?_eq_getElem hil] at this
  exact Option.some.inj this
 have hp:(m :: s.waits.eraseIdx i).Perm s.waits:=hg ▸ cons_erase_perm hil
 have hmn:m ∉ s.waits.eraseIdx i:=(List.nodup_cons.1 (hp.nodup_iff.2 h.nodupW)).1
 have hperm:(flatB M ++ ([] ++ F)).Perm (s.waits.eraseIdx i):=by
  refine List.Perm.cons_inv (a:=m) ?_
  refine List.Perm.trans ?_ (h.perm.trans hp.symm)
  exact List.perm_middle.symm
 refine ⟨⟨?_,by rw [hw];exact hperm,h.keys,?_,?_,h.closed,h.hnodup,h.heads⟩,fun e=>h.apart e (by rw [← hg];exact List.getElem_mem hil),by rw [hw];exact hmn⟩
 ·rw [hw]
  exact (List.Sublist.append_left (List.eraseIdx_sublist _ _) _).nodup h.nodup
 ·intro q hq
  obtain ⟨h1,h2⟩:=h.wait q hq
  refine ⟨h1,fun x hx=>?_⟩
  obtain ⟨p,hp1,hp2,hp3⟩:=h2 x hx
  refine ⟨p,mem_erase_of hi hp1 ?_,hp2,hp3⟩
  rw [hp2,hn]
  rintro rfl
  exact hmn (hperm.mem_iff.1 (List.mem_append.2 (.inl (mem_flatB.2 ⟨q,hq,hx⟩))))
 ·intro x hx
  obtain ⟨p,hp1,hp2,hp3⟩:=h.free x (List.mem_cons_of_mem _ hx)
  refine ⟨p,mem_erase_of hi hp1 ?_,hp2,hp3⟩
  rw [hp2,hn]
  rintro rfl
  exact hmn (hperm.mem_iff.1 (List.mem_append.2 (.inr (by simpa using hx))))
theorem DInv.come (h:DInv s hs M [] F) {o:OpN} (hn:nameN o ∉ s.names) (hw:nameN o ∉ s.waits) {p:List Nat} (hp:p ∈ o.preds) (hnot:p ∉ s.names) :
 DInv ⟨s.ops,s.wait ++ [o]⟩ hs (putE M p (atB M p ++ [nameN o])) [] F:=by
 have hwaits:DagN.waits ⟨s.ops,s.wait ++ [o]⟩ = s.waits ++ [nameN o]:=by simp [DagN.waits]
 have h1:DInv ⟨s.ops,s.wait ++ [o]⟩ hs M [nameN o] F:=by
  refine ⟨?_,?_,h.keys,fun q hq=>⟨(h.wait q hq).1,fun m hm=>?_⟩,fun m hm=>?_,h.closed,h.hnodup,h.heads⟩
  ·rw [hwaits,show DagN.names ⟨s.ops,s.wait ++ [o]⟩ = s.names from rfl,← List.append_assoc]
   refine List.nodup_append.2 ⟨h.nodup,by simp,fun a ha b hb e=>?_⟩
   obtain rfl:=List.mem_singleton.1 hb
   subst e
   exact (List.mem_append.1 ha).elim hn hw
  ·rw [hwaits]
   refine List.Perm.trans ?_ (h.perm.append_right [nameN o])
   rw [List.nil_append,List.append_assoc]
   exact List.Perm.append_left _ (List.perm_append_singleton _ _).symm
  ·obtain ⟨x,hx,hx2⟩:=(h.wait q hq).2 m hm
   exact ⟨x,List.mem_append.2 (.inl hx),hx2⟩
  ·obtain ⟨x,hx,hx2⟩:=h.free m hm
   exact ⟨x,List.mem_append.2 (.inl hx),hx2⟩
 exact h1.step_wait (List.mem_append.2 (.inr (List.mem_singleton.2 rfl))) rfl hp hnot
end
theorem settleN_none {f:Nat} {s:DagN} (h:bestN s.names s.wait = none):settleN f s = ([],s):=by
 cases f with
 | zero=>rfl
 | succ f=>rw [settleN,h]
theorem settleN_some {s:DagN} {i:Nat} {o:OpN} (h:bestN s.names s.wait = some i) (ho:s.wait[i]? = some o) :
 settleN s.wait.length s = if o.depth = depthN s.ops o then
  (nameN o :: (settleN (s.wait.eraseIdx i).length ⟨s.ops ++ [o],s.wait.eraseIdx i⟩).1,(settleN (s.wait.eraseIdx i).length ⟨s.ops ++ [o],s.wait.eraseIdx i⟩).2)
  else settleN (s.wait.eraseIdx i).length ⟨s.ops,s.wait.eraseIdx i⟩:=by
 have hi:=bestN_lt h
 obtain ⟨f,hf⟩:∃ f,s.wait.length = f + 1:=⟨s.wait.length - 1,by omega⟩
 have hl:(s.wait.eraseIdx i).length = f:=by rw [List.length_eraseIdx,if_pos hi];omega
 rw [hf,hl,settleN,h]
 simp only [ho]
end Go.Proofs.YthggbfgijeicbaaGreatDoor
