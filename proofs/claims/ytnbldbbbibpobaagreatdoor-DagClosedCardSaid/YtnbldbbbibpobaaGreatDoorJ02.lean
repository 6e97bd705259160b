/-
  Joined: Layer 10 as plain mathematics: which operations are there, which wait, what comes by one that is taken.; Lists of keys and elements: looked up, stored into, deleted from.; The developers' set as mathematics: behind whom who waits, what is free, the heads; it comes to what the document's comes to.
-/
import Derived.Test.YtnbldbbbibpobaaGreatDoorJ01
namespace Go.Proofs.YtnbldbbbibpobaaGreatDoor
open Go.RowKit
structure DagN where
 ops:List OpN
 wait:List OpN
def DagN.names (s:DagN):List (List Nat):=s.ops.map z0a
def DagN.waits (s:DagN):List (List Nat):=s.wait.map z0a
def DagN.new:DagN:=⟨[],[]⟩
def atN (L:List (List Nat)) (n:List Nat):Int:=if n ∈ L then (L.idxOf n:Int) else -1
def z1f (L:List (List Nat)) (o:OpN):Bool:=o.preds.all fun p=>decide (p ∈ L)
def z1d (ops:List OpN) (p:List Nat):Int:=((ops[(ops.map z0a).idxOf p]?).map (·.depth)).getD 0
def z4a (ops:List OpN) (L:List (List Nat)):Int:=L.foldl (fun n p=>if n < z1d ops p then z1d ops p else n) 0
def z1h (ops:List OpN) (o:OpN):Int:=z4a ops o.preds + 1
def z2d (L:List (List Nat)) (W:List OpN) (b:Option Nat) (i:Nat):Option Nat :=
 match W[i]? with
 | some o=>if z1f L o then (match b with
  | none=>some i
  | some j=>if z1s (z0a o) (z0a (W.getD j o)) = -1 then some i else some j) else b
 | none=>b
def z29 (L:List (List Nat)) (W:List OpN):Nat → Option Nat
 | 0=>none
 | k + 1=>z2d L W (z29 L W k) k
def zaa (L:List (List Nat)) (W:List OpN):Option Nat:=z29 L W W.length
theorem z9d (L:List (List Nat)) (W:List OpN):∀ (k j:Nat),k ≤ W.length → z29 L W k = some j → j < k
 | 0,j,_,h=>by cases h
 | k + 1, j, hk, h => by
   have ih:=fun j=>z9d L W k j (by omega)
   rw [z29,z2d,List.getElem?_eq_getElem (by omega)] at h
   simp only at h
   split at h
   ·split at h
    ·cases h;omega
    ·rename_i j' hj'
     split at h
     ·cases h;omega
     ·cases h;have:=ih _ hj';omega
   ·have:=ih j h;omega
theorem z8x {L:List (List Nat)} {W:List OpN} {j:Nat} (h:zaa L W = some j):j < W.length:=z9d L W _ _ (Nat.le_refl _) h
def z0t:Nat → DagN → List (List Nat) × DagN
 | 0,s=>([],s)
 | f + 1, s => match zaa s.names s.wait with
   | none=>([],s)
   | some i => match s.wait[i]? with
     | none=>([],s)
     | some o => if o.depth = z1h s.ops o then
      (z0a o :: (z0t f ⟨s.ops ++ [o],s.wait.eraseIdx i⟩).1,(z0t f ⟨s.ops ++ [o],s.wait.eraseIdx i⟩).2)
       else z0t f ⟨s.ops,s.wait.eraseIdx i⟩
def z1l (s:DagN) (o:OpN):List (List Nat) × Int × DagN :=
 if ¬ GoodO o then ([],1,s)
 else if z0a o ∈ s.names ∨ z0a o ∈ s.waits then ([],9,s)
 else if z1f s.names o = false then ([],0,⟨s.ops,s.wait ++ [o]⟩)
 else if o.depth ≠ z1h s.ops o then ([],10,s)
 else (z0a o :: (z0t s.wait.length ⟨s.ops ++ [o],s.wait⟩).1,0,(z0t s.wait.length ⟨s.ops ++ [o],s.wait⟩).2)
def zae (n:List Nat):List (List Nat) → List (List Nat)
 | []=>[n]
 | x :: r=>if z1s x n = -1 then x :: zae n r else n :: x :: r
def z0e (L:List (List Nat)):List (List Nat):=L.foldl (fun out n=>zae n out) []
theorem zfa (n:List Nat):∀ L:List (List Nat),(zae n L).length = L.length + 1
 | []=>rfl
 | x :: r => by
   rw [zae]
   split
   ·rw [List.length_cons,List.length_cons,zfa n r]
   ·rfl
theorem insN_mem {n x:List Nat}:∀ {L:List (List Nat)},x ∈ zae n L ↔ x = n ∨ x ∈ L
 | []=>by simp [zae]
 | y :: r => by
   rw [zae]
   split
   ·rw [List.mem_cons,insN_mem,List.mem_cons]
    constructor
    ·rintro (h | h | h)
     ·exact .inr (.inl h)
     ·exact .inl h
     ·exact .inr (.inr h)
    ·rintro (h | h | h)
     ·exact .inr (.inl h)
     ·exact .inl h
     ·exact .inr (.inr h)
   ·simp
theorem z8n {x:List Nat}:∀ {L out:List (List Nat)},x ∈ L.foldl (fun out n=>zae n out) out ↔ x ∈ out ∨ x ∈ L
 | [],out=>by simp
 | y :: r, out => by
   rw [List.foldl_cons,z8n,insN_mem]
   simp only [List.mem_cons]
   constructor
   ·rintro ((h | h) | h)
    ·exact .inr (.inl h)
    ·exact .inl h
    ·exact .inr (.inr h)
   ·rintro (h | h | h)
    ·exact .inl (.inr h)
    ·exact .inl (.inl h)
    ·exact .inr h
theorem risingN_mem {x:List Nat} {L:List (List Nat)}:x ∈ z0e L ↔ x ∈ L:=by
 rw [z0e,z8n]
 simp
theorem z8g:∀ {L out:List (List Nat)},(L.foldl (fun out n=>zae n out) out).length = out.length + L.length
 | [],out=>by simp
 | y :: r, out => by
   rw [List.foldl_cons,z8g,zfa,List.length_cons]
   omega
theorem z1x (L:List (List Nat)):(z0e L).length = L.length:=by rw [z0e,z8g];simp
theorem zd3 (L:List (List Nat)) (n:List Nat):z0e (L ++ [n]) = zae n (z0e L):=by rw [z0e,List.foldl_append];rfl
def zds (n:List Nat):List (List Nat) → Nat
 | []=>0
 | x :: r=>if z1s x n = -1 then zds n r + 1 else 0
theorem zhm (n:List Nat):∀ L:List (List Nat),zds n L ≤ L.length
 | []=>Nat.le_refl _
 | x :: r => by
   rw [zds]
   split
   ·have:=zhm n r;rw [List.length_cons];omega
   ·exact Nat.zero_le _
theorem zbo (n:List Nat):∀ L:List (List Nat),zae n L = L.take (zds n L) ++ n :: L.drop (zds n L)
 | []=>rfl
 | x :: r => by
   rw [zae,zds]
   split
   ·rw [zbo n r,List.take_succ_cons,List.drop_succ_cons,List.cons_append]
   ·rfl
theorem zcl (n:List Nat):∀ (L:List (List Nat)) (k:Nat),k < L.length → k ≤ zds n L → (k < zds n L ↔ z1s (L.getD k []) n = -1)
 | [],k,h,_=>by cases h
 | x :: r, 0, _, _ => by
   rw [zds]
   split
   ·rename_i h;simp [h]
   ·rename_i h;simp [h]
 | x :: r, k + 1, h, hk => by
   rw [zds] at hk ⊢
   split at hk
   ·rename_i h1
    rw [if_pos h1]
    have ih:=zcl n r k (by simpa using h) (by omega)
    rw [List.getD_cons_succ,← ih]
    omega
   ·omega
def z19 (s:DagN):List (List Nat):=z0e (s.names.filter fun n=>!(s.ops.any fun o=>decide (n ∈ o.preds)))
def z2a (s:DagN) (a:Int) (d:DraftN):Option OpN × Int :=
 if ¬ GoodD d ∨ a < 0 ∨ 4 < a then (none,1)
 else if 32 < (z19 s).length then (none,3)
 else (some ⟨d,a,z4a s.ops (z19 s) + 1,z19 s⟩,0)
def DagN.Shallow (s:DagN):Prop:=∀ x ∈ s.ops,x.depth ≤ s.ops.length
theorem zg3 {ops:List OpN} {n:Int} (h:∀ x ∈ ops,x.depth ≤ n) (h0:0 ≤ n) (p:List Nat):z1d ops p ≤ n:=by
 unfold z1d
 cases hq:ops[(ops.map z0a).idxOf p]? with
 | none=>exact h0
 | some x=>exact h x (List.mem_of_getElem? hq)
theorem zef {ops:List OpN} {n:Int} (h:∀ x ∈ ops,x.depth ≤ n) (h0:0 ≤ n):∀ (L:List (List Nat)) (m:Int),0 ≤ m → m ≤ n → 0 ≤ L.foldl (fun n p=>if n < z1d ops p then z1d ops p else n) m ∧ L.foldl (fun n p=>if n < z1d ops p then z1d ops p else n) m ≤ n
 | [],m,h1,h2=>⟨h1,h2⟩
 | p :: L, m, h1, h2 => by
   rw [List.foldl_cons]
   split
   ·rename_i hlt
    exact zef h h0 L _ (by omega) (zg3 h h0 p)
   ·exact zef h h0 L _ h1 h2
theorem z5m {ops:List OpN} {n:Int} (h:∀ x ∈ ops,x.depth ≤ n) (h0:0 ≤ n) (L:List (List Nat)):0 ≤ z4a ops L ∧ z4a ops L ≤ n:=zef h h0 L 0 (Int.le_refl _) h0
theorem Shallow_push {s:DagN} (h:s.Shallow) {o:OpN} (hd:o.depth = z1h s.ops o) (W:List OpN):DagN.Shallow ⟨s.ops ++ [o],W⟩:=by
 intro x hx
 have hm:=(z5m h (by omega) o.preds).2
 rw [List.length_append,List.length_singleton]
 rcases List.mem_append.1 hx with hx | hx
 ·have:=h x hx
  omega
 ·obtain rfl:=List.mem_singleton.1 hx
  rw [hd,z1h]
  omega
theorem z4j:∀ (f:Nat) (s:DagN),s.Shallow → (z0t f s).2.Shallow ∧ (z0t f s).2.ops.length + (z0t f s).2.wait.length ≤ s.ops.length + s.wait.length
 | 0,s,h=>⟨h,Nat.le_refl _⟩
 | f + 1, s, h => by
   unfold z0t
   split
   ·exact ⟨h,Nat.le_refl _⟩
   ·rename_i i hb
    have hi:=z8x hb
    split
    ·exact ⟨h,Nat.le_refl _⟩
    ·rename_i o ho
     have hl:(s.wait.eraseIdx i).length + 1 = s.wait.length:=by rw [List.length_eraseIdx,if_pos hi];omega
     split
     ·rename_i hd
      obtain ⟨h1,h2⟩:=z4j f ⟨s.ops ++ [o],s.wait.eraseIdx i⟩ (Shallow_push h hd _)
      refine ⟨h1,Nat.le_trans h2 ?_⟩
      simp only [List.length_append,List.length_singleton]
      omega
     ·obtain ⟨h1,h2⟩:=z4j f ⟨s.ops,s.wait.eraseIdx i⟩ h
      refine ⟨h1,Nat.le_trans h2 ?_⟩
      show s.ops.length + (s.wait.eraseIdx i).length ≤ _
      omega
theorem z2k {s:DagN} (h:s.Shallow) (o:OpN):(z1l s o).2.2.Shallow ∧ (z1l s o).2.2.ops.length + (z1l s o).2.2.wait.length ≤ s.ops.length + s.wait.length + 1:=by
 unfold z1l
 split
 ·exact ⟨h,by simp⟩
 ·split
  ·exact ⟨h,by simp⟩
  ·split
   ·exact ⟨h,by simp;omega⟩
   ·split
    ·exact ⟨h,by simp⟩
    ·rename_i hd
     have hd:=Classical.not_not.1 hd
     obtain ⟨h1,h2⟩:=z4j s.wait.length ⟨s.ops ++ [o],s.wait⟩ (Shallow_push h hd _)
     refine ⟨h1,Nat.le_trans h2 ?_⟩
     simp only [List.length_append,List.length_singleton]
     omega
end Go.Proofs.YtnbldbbbibpobaaGreatDoor
namespace Go.Proofs.YtnbldbbbibpobaaGreatDoor
section
variable {β:Type}
theorem z2u {L:List (List Nat × β)} (hd:(L.map (·.1)).Nodup) {j:Nat} {n:List Nat} {v:β} (h:L[j]? = some (n,v)):L.lookup n = some v:=by
 induction L generalizing j with
 | nil=>cases h
 | cons p L ih =>
   rw [List.map_cons,List.nodup_cons] at hd
   obtain ⟨m,x⟩:=p
   cases j with
   | zero =>
     simp only [List.getElem?_cons_zero,Option.some.injEq,Prod.mk.injEq] at h
     obtain ⟨rfl,rfl⟩:=h
     simp
   | succ j =>
     simp only [List.getElem?_cons_succ] at h
     have hm:n ∈ L.map (·.1):=List.mem_map.2 ⟨(n,v),List.mem_of_getElem? h,rfl⟩
     have hne:(n == m) = false:=by
      rw [beq_eq_false_iff_ne]
      rintro rfl
      exact hd.1 hm
     rw [List.lookup_cons,hne]
     exact ih hd.2 h
theorem z1q {L:List (List Nat × β)} {n:List Nat} (h:n ∉ L.map (·.1)):L.lookup n = none:=by
 induction L with
 | nil=>rfl
 | cons p L ih =>
   rw [List.map_cons,List.mem_cons,not_or] at h
   obtain ⟨m,x⟩:=p
   have hne:(n == m) = false:=by rw [beq_eq_false_iff_ne];exact h.1
   rw [List.lookup_cons,hne]
   exact ih h.2
theorem z8t {L:List (List Nat × β)} {n:List Nat} {v:β} (h:L.lookup n = some v):∃ A B,L = A ++ (n,v) :: B ∧ n ∉ A.map (·.1):=by
 induction L with
 | nil=>cases h
 | cons p L ih =>
   obtain ⟨m,x⟩:=p
   rw [List.lookup_cons] at h
   cases hb:n == m with
   | true =>
     rw [hb] at h
     obtain rfl:=eq_of_beq hb
     cases h
     exact ⟨[],L,rfl,by simp⟩
   | false =>
     rw [hb] at h
     obtain ⟨A,B,rfl,hA⟩:=ih h
     refine ⟨(m,x) :: A,B,rfl,?_⟩
     rw [List.map_cons,List.mem_cons,not_or]
     exact ⟨by rw [beq_eq_false_iff_ne] at hb;exact hb,hA⟩
theorem z89 {L:List (List Nat × β)} {n:List Nat} {v:β} (h:L.lookup n = some v):(n,v) ∈ L:=by
 obtain ⟨A,B,rfl,_⟩:=z8t h
 simp
theorem z24 {L:List (List Nat × β)} {n:List Nat} (h:n ∈ L.map (·.1)):∃ v,L.lookup n = some v:=by
 cases hl:L.lookup n with
 | some v=>exact ⟨v,rfl⟩
 | none =>
   exfalso
   induction L with
   | nil=>cases h
   | cons p L ih =>
     obtain ⟨m,x⟩:=p
     rw [List.lookup_cons] at hl
     cases hb:n == m with
     | true=>rw [hb] at hl;cases hl
     | false =>
       rw [hb] at hl
       rw [List.map_cons,List.mem_cons] at h
       rcases h with rfl | h
       ·simp at hb
       ·exact ih h hl
def atE (L:List (List Nat × β)) (z:β) (n:List Nat):β:=(L.lookup n).getD z
def z2v (L:List (List Nat × β)) (n:List Nat) (v:β):List (List Nat × β) :=
 if n ∈ L.map (·.1) then L.map fun p=>if p.1 = n then (n,v) else p else L ++ [(n,v)]
def z49 (L:List (List Nat × β)) (n:List Nat):List (List Nat × β):=L.filter fun p=>!decide (p.1 = n)
theorem z9e {L:List (List Nat × β)} {n:List Nat} {v:β} (h:n ∈ L.map (·.1)):(z2v L n v).map (·.1) = L.map (·.1):=by
 rw [z2v,if_pos h,List.map_map]
 refine List.map_congr_left fun p _=>?_
 simp only [Function.comp_apply]
 split
 ·rename_i e;exact e.symm
 ·rfl
theorem z1p {L:List (List Nat × β)} {n:List Nat} {v:β} (h:n ∉ L.map (·.1)):z2v L n v = L ++ [(n,v)]:=by rw [z2v,if_neg h]
theorem zfp {A:List (List Nat × β)} {n:List Nat} {v:β} (h:n ∉ A.map (·.1)):(A.map fun p=>if p.1 = n then (n,v) else p) = A:=by
 refine (List.map_congr_left fun p hp=>?_).trans (List.map_id' _)
 rw [if_neg]
 rintro rfl
 exact h (List.mem_map.2 ⟨p,hp,rfl⟩)
theorem z3n {A:List (List Nat × β)} {n:List Nat} (h:n ∉ A.map (·.1)):z49 A n = A:=by
 rw [z49,List.filter_eq_self]
 intro q hq
 have:q.1 ≠ n:=fun e=>h (List.mem_map.2 ⟨q,hq,e⟩)
 simpa using this
theorem z6v (A B:List (List Nat × β)) (n:List Nat):z49 (A ++ B) n = z49 A n ++ z49 B n:=by rw [z49,List.filter_append];rfl
theorem delE_keys {L:List (List Nat × β)} {n m:List Nat}:m ∈ (z49 L n).map (·.1) ↔ m ∈ L.map (·.1) ∧ m ≠ n:=by
 simp only [List.mem_map,z49,List.mem_filter,Bool.not_eq_true',decide_eq_false_iff_not]
 constructor
 ·rintro ⟨p,⟨h1,h2⟩,rfl⟩
  exact ⟨⟨p,h1,rfl⟩,h2⟩
 ·rintro ⟨⟨p,h1,rfl⟩,h2⟩
  exact ⟨p,⟨h1,h2⟩,rfl⟩
theorem zgh {L:List (List Nat × β)} (h:(L.map (·.1)).Nodup) (n:List Nat):((z49 L n).map (·.1)).Nodup:=(List.Sublist.map _ List.filter_sublist).nodup h
theorem z68 {L:List (List Nat × β)} (h:(L.map (·.1)).Nodup) (n:List Nat) (v:β):((z2v L n v).map (·.1)).Nodup:=by
 by_cases hn:n ∈ L.map (·.1)
 ·rw [z9e hn];exact h
 ·rw [z1p hn,List.map_append]
  refine List.nodup_append.2 ⟨h,by simp,fun a ha c hc=>?_⟩
  obtain rfl:c = n:=by simpa using hc
  rintro rfl
  exact hn ha
theorem z4n {L:List (List Nat × β)} (hd:(L.map (·.1)).Nodup) {n:List Nat} {v:β} (h:L.lookup n = some v) :
 ∃ A B,L = A ++ (n,v) :: B ∧ (∀ v',z2v L n v' = A ++ (n,v') :: B) ∧ z49 L n = A ++ B ∧ n ∉ (A ++ B).map (·.1):=by
 obtain ⟨A,B,rfl,hA⟩:=z8t h
 have hB:n ∉ B.map (·.1):=by
  rw [List.map_append,List.map_cons,List.nodup_append,List.nodup_cons] at hd
  exact hd.2.1.1
 have hm:n ∈ (A ++ (n,v) :: B).map (·.1):=by simp
 refine ⟨A,B,rfl,fun v'=>?_,?_,?_⟩
 ·rw [z2v,if_pos hm,List.map_append,List.map_cons,zfp hA,zfp hB]
  simp
 ·rw [z6v,z3n hA,show ((n,v) :: B) = [(n,v)] ++ B from rfl,z6v,z3n hB]
  simp [z49]
 ·rw [List.map_append,List.mem_append,not_or]
  exact ⟨hA,hB⟩
theorem z2m {A B:List (List Nat × β)} {n:List Nat} (h:n ∉ A.map (·.1)):(A ++ B).lookup n = B.lookup n:=by
 induction A with
 | nil=>rfl
 | cons p A ih =>
   obtain ⟨m,x⟩:=p
   rw [List.map_cons,List.mem_cons,not_or] at h
   have hne:(n == m) = false:=by rw [beq_eq_false_iff_ne];exact h.1
   rw [List.cons_append,List.lookup_cons,hne]
   exact ih h.2
theorem z1n {A B:List (List Nat × β)} {n:List Nat} (h:n ∈ A.map (·.1)):(A ++ B).lookup n = A.lookup n:=by
 induction A with
 | nil=>cases h
 | cons p A ih =>
   obtain ⟨m,x⟩:=p
   rw [List.cons_append,List.lookup_cons,List.lookup_cons]
   cases hb:n == m with
   | true=>rfl
   | false =>
     rw [List.map_cons,List.mem_cons] at h
     rw [beq_eq_false_iff_ne] at hb
     exact ih (h.resolve_left hb)
theorem zgf {A B:List (List Nat × β)} {n m:List Nat} {x y:β} (h:m ≠ n):(A ++ (n,x) :: B).lookup m = (A ++ (n,y) :: B).lookup m:=by
 by_cases hm:m ∈ A.map (·.1)
 ·rw [z1n hm,z1n hm]
 ·have hne:(m == n) = false:=by rw [beq_eq_false_iff_ne];exact h
  rw [z2m hm,z2m hm,List.lookup_cons,List.lookup_cons,hne]
theorem z7o {L:List (List Nat × β)} (hd:(L.map (·.1)).Nodup) {n m:List Nat} (v:β) (h:m ≠ n):(z2v L n v).lookup m = L.lookup m:=by
 by_cases hn:n ∈ L.map (·.1)
 ·obtain ⟨x,hx⟩:=z24 hn
  obtain ⟨A,B,h1,h2,_⟩:=z4n hd hx
  rw [h2,h1]
  exact zgf h
 ·rw [z1p hn]
  by_cases hm:m ∈ L.map (·.1)
  ·rw [z1n hm]
  ·rw [z2m hm,z1q hm]
   exact z1q (by simpa using h)
theorem zbc {L:List (List Nat × β)} (hd:(L.map (·.1)).Nodup) {n m:List Nat} (h:m ≠ n):(z49 L n).lookup m = L.lookup m:=by
 by_cases hn:n ∈ L.map (·.1)
 ·obtain ⟨x,hx⟩:=z24 hn
  obtain ⟨A,B,h1,_,h3,_⟩:=z4n hd hx
  rw [h3,h1]
  by_cases hm:m ∈ A.map (·.1)
  ·rw [z1n hm,z1n hm]
  ·have hne:(m == n) = false:=by rw [beq_eq_false_iff_ne];exact h
   rw [z2m hm,z2m hm,List.lookup_cons,hne]
 ·rw [z3n hn]
theorem zgg {L:List (List Nat × β)} {n m:List Nat} (v:β) (h:n ≠ m):z49 (z2v L n v) m = z2v (z49 L m) n v:=by
 by_cases hn:n ∈ L.map (·.1)
 ·have hn2:n ∈ (z49 L m).map (·.1):=delE_keys.2 ⟨hn,h⟩
  rw [z2v,if_pos hn,z2v,if_pos hn2,z49,z49,List.filter_map]
  congr 1
  refine List.filter_congr fun p _=>?_
  simp only [Function.comp_apply]
  by_cases hp:p.1 = n
  ·rw [if_pos hp,hp]
  ·rw [if_neg hp]
 ·have hn2:n ∉ (z49 L m).map (·.1):=fun e=>hn (delE_keys.1 e).1
  rw [z1p hn,z1p hn2,z6v]
  congr 1
  rw [z49,List.filter_cons,if_pos (by simpa using h)]
  rfl
theorem z59 {L:List (List Nat × β)} {n:List Nat} {v:β} (h:L.lookup n = some v):∃ j:Nat,L[j]? = some (n,v):=by
 obtain ⟨j,hj,he⟩:=List.getElem_of_mem (z89 h)
 exact ⟨j,by rw [List.getElem?_eq_getElem hj,he]⟩
theorem z88 {L:List (List Nat × β)} (hd:(L.map (·.1)).Nodup) {j:Nat} {n:List Nat} {x:β} (v:β) (h:L[j]? = some (n,x)):z2v L n v = L.set j (n,v):=by
 have hm:n ∈ L.map (·.1):=List.mem_map.2 ⟨(n,x),List.mem_of_getElem? h,rfl⟩
 rw [z2v,if_pos hm]
 refine List.ext_getElem? fun i=>?_
 rw [List.getElem?_map]
 by_cases hij:j = i
 ·subst hij
  rw [h,List.getElem?_set_self (List.getElem?_eq_some_iff.1 h).1]
  simp
 ·rw [List.getElem?_set_ne hij]
  cases hi:L[i]? with
  | none=>rfl
  | some p =>
    rw [Option.map_some]
    congr 1
    rw [if_neg]
    intro hp
    have h1:(L.map (·.1))[i]? = some n:=by rw [List.getElem?_map,hi,Option.map_some,hp]
    have h2:(L.map (·.1))[j]? = some n:=by rw [List.getElem?_map,h];rfl
    have hjl:j < (L.map (·.1)).length:=(List.getElem?_eq_some_iff.1 h2).1
    exact hij ((List.getElem?_inj hjl hd).1 (h2.trans h1.symm))
theorem z7e {L:List (List Nat × β)} (hd:(L.map (·.1)).Nodup) {j:Nat} {n:List Nat} {x:β} (h:L[j]? = some (n,x)):z49 L n = L.eraseIdx j:=by
 induction L generalizing j with
 | nil=>cases h
 | cons p L ih =>
   rw [List.map_cons,List.nodup_cons] at hd
   cases j with
   | zero =>
     simp only [List.getElem?_cons_zero,Option.some.injEq] at h
     subst h
     rw [z49,List.filter_cons,if_neg (by simp),List.eraseIdx_cons_zero,List.filter_eq_self]
     intro q hq
     have:q.1 ≠ n:=fun e=>hd.1 (List.mem_map.2 ⟨q,hq,e⟩)
     simpa using this
   | succ j =>
     simp only [List.getElem?_cons_succ] at h
     have:p.1 ≠ n:=fun e=>hd.1 (e ▸ List.mem_map.2 ⟨(n,x),List.mem_of_getElem? h,rfl⟩)
     rw [z49,List.filter_cons,if_pos (by simpa using this),List.eraseIdx_cons_succ]
     congr 1
     exact ih hd.2 h
end
open Go.RowKit
theorem z9g:∀ a:List Nat,z1s a a = 0
 | []=>by rw [z1s];intro a x b y h;cases h
 | a :: x=>by rw [z1s,if_neg (Nat.lt_irrefl _),if_neg (Nat.lt_irrefl _)];exact z9g x
theorem z7s (a:List Nat):z1s [] a = 0:=by rw [z1s];intro a x b y h;cases h
theorem z5i (a:List Nat):z1s a [] = 0:=by
 cases a with
 | nil=>exact z7s _
 | cons x a=>rw [z1s];intro a x b y h h2;cases h2
theorem zi1:∀ {a b:List Nat},a.length = b.length → z1s a b = 0 → a = b
 | [],[],_,_=>rfl
 | [],_ :: _,h,_=>by cases h
 | _ :: _,[],h,_=>by cases h
 | a :: x, b :: y, h, h2 => by
   rw [z1s] at h2
   split at h2
   ·cases h2
   ·split at h2
    ·cases h2
    ·rw [show a = b by omega,zi1 (by simpa using h) h2]
theorem zdn:∀ (a b:List Nat),z1s a b = -1 ↔ z1s b a = 1
 | [],b=>by rw [z7s,z5i];decide
 | a :: x,[]=>by rw [z7s,z5i];decide
 | a :: x, b :: y => by
   rw [z1s,z1s]
   by_cases h1:a < b
   ·rw [if_pos h1,if_neg (by omega),if_pos h1];simp
   ·rw [if_neg h1]
    by_cases h2:b < a
    ·rw [if_pos h2,if_pos h2];decide
    ·rw [if_neg h2,if_neg h2,if_neg h1];exact zdn x y
theorem z2x:∀ {a b c:List Nat},z1s a b = -1 → z1s b c = -1 → z1s a c = -1
 | [],b,_,h,_=>by rw [z7s] at h;cases h
 | _ :: _,[],_,h,_=>by rw [z5i] at h;cases h
 | _ :: _,_ :: _,[],_,h=>by rw [z5i] at h;cases h
 | a :: x, b :: y, c :: z, h1, h2 => by
   rw [z1s] at h1 h2 ⊢
   by_cases p1:a < b
   ·by_cases p2:b < c
    ·rw [if_pos (by omega)]
    ·rw [if_neg p2] at h2
     by_cases p3:c < b
     ·rw [if_pos p3] at h2;cases h2
     ·rw [if_pos (by omega)]
   ·rw [if_neg p1] at h1
    by_cases p3:b < a
    ·rw [if_pos p3] at h1;cases h1
    ·rw [if_neg p3] at h1
     obtain rfl:a = b:=by omega
     by_cases p2:a < c
     ·rw [if_pos p2]
     ·rw [if_neg p2] at h2 ⊢
      by_cases p4:c < a
      ·rw [if_pos p4] at h2;cases h2
      ·rw [if_neg p4] at h2 ⊢
       exact z2x h1 h2
theorem z4s:∀ (a b:List Nat),z1s a b = -1 ∨ z1s a b = 0 ∨ z1s a b = 1
 | [],b=>.inr (.inl (z7s b))
 | _ :: _,[]=>.inr (.inl (z5i _))
 | a :: x, b :: y => by
   rw [z1s]
   split
   ·exact .inl rfl
   ·split
    ·exact .inr (.inr rfl)
    ·exact z4s x y
theorem z4r {a b:List Nat} (hl:a.length = b.length) (hne:a ≠ b):z1s a b = -1 ∨ z1s b a = -1:=by
 rcases z4s a b with h | h | h
 ·exact .inl h
 ·exact absurd (zi1 hl h) hne
 ·exact .inr ((zdn b a).2 h)
theorem z5r {a b:List Nat} (h:z1s a b = -1) (k:z1s b a = -1):False:=by
 have:=z2x h k
 rw [z9g] at this
 cases this
def Rise (L:List (List Nat)):Prop:=L.Pairwise fun a b=>z1s a b = -1
theorem rise_eq {L M:List (List Nat)} (h:Rise L) (k:Rise M) (hp:L.Perm M):L = M :=
 List.Perm.eq_of_pairwise (fun _ _ _ _ h1 h2=>(z5r h1 h2).elim) h k hp
theorem z9s (n:List Nat):∀ L:List (List Nat),(zae n L).Perm (n :: L)
 | []=>List.Perm.refl _
 | x :: r => by
   rw [zae]
   split
   ·exact ((z9s n r).cons x).trans (List.Perm.swap _ _ _)
   ·exact List.Perm.refl _
theorem zc7 {n:List Nat} (hn:n.length = 32):∀ {L:List (List Nat)},Rise L → (∀ x ∈ L,x.length = 32) → n ∉ L → Rise (zae n L)
 | [],_,_,_=>List.pairwise_singleton _ _
 | x :: r, h, hl, hm => by
   obtain ⟨h1,h2⟩:=List.pairwise_cons.1 h
   rw [zae]
   split
   ·rename_i hx
    refine List.pairwise_cons.2 ⟨fun y hy=>?_,zc7 hn h2 (fun y hy=>hl y (List.mem_cons_of_mem _ hy)) (fun e=>hm (List.mem_cons_of_mem _ e))⟩
    rcases insN_mem.1 hy with rfl | hy
    ·exact hx
    ·exact h1 y hy
   ·rename_i hx
    have hnx:z1s n x = -1:=(z4r (by rw [hn,hl x List.mem_cons_self]) (fun e=>hm (List.mem_cons.2 (.inl e)))).resolve_right hx
    refine List.pairwise_cons.2 ⟨fun y hy=>?_,h⟩
    rcases List.mem_cons.1 hy with rfl | hy
    ·exact hnx
    ·exact z2x hnx (h1 y hy)
theorem z7p:∀ (L out:List (List Nat)),(L.foldl (fun out n=>zae n out) out).Perm (out ++ L)
 | [],out=>by rw [List.append_nil];exact List.Perm.refl _
 | n :: L,out=>(z7p L (zae n out)).trans (((z9s n out).append_right L).trans List.perm_middle.symm)
theorem z1c (L:List (List Nat)):(z0e L).Perm L:=z7p L []
theorem z7f:∀ {L out:List (List Nat)},Rise out → (∀ x ∈ out ++ L,x.length = 32) → (out ++ L).Nodup → Rise (L.foldl (fun out n=>zae n out) out)
 | [],_,h,_,_=>h
 | n :: L, out, h, hl, hd => by
   rw [List.foldl_cons]
   have hn:n ∉ out:=fun hm=>by
    rw [List.nodup_append] at hd
    exact hd.2.2 n hm n List.mem_cons_self rfl
   have hp:(zae n out ++ L).Perm (out ++ n :: L):=((z9s n out).append_right L).trans List.perm_middle.symm
   refine z7f (zc7 (hl n (by simp)) h (fun x hx=>hl x (by simp [hx])) hn) (fun x hx=>hl x (hp.mem_iff.1 hx)) (hp.nodup_iff.2 hd)
theorem z8j {L:List (List Nat)} (hl:∀ x ∈ L,x.length = 32) (hd:L.Nodup):Rise (z0e L):=z7f List.Pairwise.nil hl hd
theorem zdo {L M:List (List Nat)} (h:Rise L) (hp:L.Perm M) (hl:∀ x ∈ M,x.length = 32) (hd:M.Nodup):L = z0e M :=
 rise_eq h (z8j hl hd) (hp.trans (z1c M).symm)
theorem best_none {L:List (List Nat)} {W:List OpN}:∀ (k:Nat),z29 L W k = none → ∀ j o,j < k → W[j]? = some o → z1f L o = false
 | 0,_,_,_,h,_=>by omega
 | k + 1, h, j, o, hj, ho => by
   rw [z29,z2d] at h
   cases hk:W[k]? with
   | none =>
     rw [hk] at h
     by_cases hjk:j = k
     ·subst hjk;rw [hk] at ho;cases ho
     ·exact best_none k h j o (by omega) ho
   | some p =>
     rw [hk] at h
     simp only at h
     split at h
     ·split at h
      ·cases h
      ·split at h <;> cases h
     ·rename_i hw
      by_cases hjk:j = k
      ·subst hjk
       rw [hk] at ho
       cases ho
       simpa using hw
      ·exact best_none k h j o (by omega) ho
theorem z3u {L:List (List Nat)} {W:List OpN}:∀ (k i:Nat),z29 L W k = some i → ∃ o,W[i]? = some o ∧ z1f L o = true ∧ ∀ j p,j < k → W[j]? = some p → z1f L p = true → z0a p = z0a o ∨ z1s (z0a o) (z0a p) = -1
 | 0,_,h=>by cases h
 | k + 1, i, h => by
   rw [z29,z2d] at h
   cases hk:W[k]? with
   | none =>
     rw [hk] at h
     obtain ⟨o,h1,h2,h3⟩:=z3u k i h
     refine ⟨o,h1,h2,fun j p hj hp hw=>?_⟩
     by_cases hjk:j = k
     ·subst hjk;rw [hk] at hp;cases hp
     ·exact h3 j p (by omega) hp hw
   | some q =>
     rw [hk] at h
     simp only at h
     split at h
     ·rename_i hq
      split at h
      ·rename_i hb
       cases h
       refine ⟨q,hk,hq,fun j p hj hp hw=>?_⟩
       by_cases hjk:j = k
       ·subst hjk;rw [hk] at hp;cases hp;exact .inl rfl
       ·rw [best_none k hb j p (by omega) hp] at hw;cases hw
      ·rename_i j' hb
       obtain ⟨o,h1,h2,h3⟩:=z3u k j' hb
       have hg:W.getD j' q = o:=by rw [List.getD_eq_getElem?_getD,h1];rfl
       rw [hg] at h
       split at h
       ·rename_i hc
        cases h
        refine ⟨q,hk,hq,fun j p hj hp hw=>?_⟩
        by_cases hjk:j = k
        ·subst hjk;rw [hk] at hp;cases hp;exact .inl rfl
        ·rcases h3 j p (by omega) hp hw with e | e
         ·exact .inr (e ▸ hc)
         ·exact .inr (z2x hc e)
       ·rename_i hc
        cases h
        refine ⟨o,h1,h2,fun j p hj hp hw=>?_⟩
        by_cases hjk:j = k
        ·subst hjk;rw [hk] at hp;cases hp
         by_cases hne:z0a q = z0a o
         ·exact .inl hne
         ·exact .inr ((z4r (by rw [z1u,z1u]) (Ne.symm hne)).resolve_right hc)
        ·exact h3 j p (by omega) hp hw
     ·rename_i hq
      obtain ⟨o,h1,h2,h3⟩:=z3u k i h
      refine ⟨o,h1,h2,fun j p hj hp hw=>?_⟩
      by_cases hjk:j = k
      ·subst hjk;rw [hk] at hp;cases hp;exact absurd hw hq
      ·exact h3 j p (by omega) hp hw
abbrev Bh:=List (List Nat × List (List Nat))
def z48 (M:Bh):List (List Nat):=M.flatMap (·.2)
def atB (M:Bh) (p:List Nat):List (List Nat):=atE M [] p
theorem z3a (A B:Bh):z48 (A ++ B) = z48 A ++ z48 B:=List.flatMap_append
theorem zi0 {M:Bh} (hd:(M.map (·.1)).Nodup) (p m:List Nat):(z48 (z2v M p (atB M p ++ [m]))).Perm (m :: z48 M):=by
 by_cases hp:p ∈ M.map (·.1)
 ·obtain ⟨l,hl⟩:=z24 hp
  obtain ⟨A,B,h1,h2,_⟩:=z4n hd hl
  have ha:atB M p = l:=by rw [atB,atE,hl];rfl
  rw [ha,h2,h1,z3a,z3a]
  show (z48 A ++ ((l ++ [m]) ++ z48 B)).Perm (m :: (z48 A ++ (l ++ z48 B)))
  rw [List.append_assoc,List.singleton_append,← List.append_assoc,← List.append_assoc]
  exact List.perm_middle
 ·have ha:atB M p = []:=by rw [atB,atE,z1q hp];rfl
  rw [ha,z1p hp,z3a]
  show (z48 M ++ ([m] ++ [])).Perm (m :: z48 M)
  rw [List.append_nil]
  exact List.perm_append_singleton _ _
theorem zc2 {M:Bh} (hd:(M.map (·.1)).Nodup) (p:List Nat):(z48 M).Perm (atB M p ++ z48 (z49 M p)):=by
 by_cases hp:p ∈ M.map (·.1)
 ·obtain ⟨l,hl⟩:=z24 hp
  obtain ⟨A,B,h1,_,h3,_⟩:=z4n hd hl
  have ha:atB M p = l:=by rw [atB,atE,hl];rfl
  rw [ha,h3,z3a]
  conv=>lhs;rw [h1,z3a]
  show (z48 A ++ (l ++ z48 B)).Perm (l ++ (z48 A ++ z48 B))
  rw [← List.append_assoc,← List.append_assoc]
  exact List.perm_append_comm.append_right _
 ·have ha:atB M p = []:=by rw [atB,atE,z1q hp];rfl
  rw [ha,z3n hp]
  exact List.Perm.refl _
theorem mem_flatB {M:Bh} {m:List Nat}:m ∈ z48 M ↔ ∃ q ∈ M,m ∈ q.2:=List.mem_flatMap
theorem mem_put {M:Bh} (hd:(M.map (·.1)).Nodup) {p:List Nat} {l:List (List Nat)} {q:List Nat × List (List Nat)} (h:q ∈ z2v M p l):q = (p,l) ∨ (q ∈ M ∧ q.1 ≠ p):=by
 by_cases hp:p ∈ M.map (·.1)
 ·obtain ⟨x,hx⟩:=z24 hp
  obtain ⟨A,B,h1,h2,_,h4⟩:=z4n hd hx
  rw [h2,List.mem_append,List.mem_cons] at h
  have key:q ∈ A ++ B → q ∈ M ∧ q.1 ≠ p:=fun hq=>⟨by rw [h1,List.mem_append,List.mem_cons];exact (List.mem_append.1 hq).imp id .inr,fun e=>h4 (List.mem_map.2 ⟨q,hq,e⟩)⟩
  rcases h with h | h | h
  ·exact .inr (key (List.mem_append.2 (.inl h)))
  ·exact .inl h
  ·exact .inr (key (List.mem_append.2 (.inr h)))
 ·rw [z1p hp,List.mem_append,List.mem_singleton] at h
  rcases h with h | h
  ·exact .inr ⟨h,fun e=>hp (List.mem_map.2 ⟨q,h,e⟩)⟩
  ·exact .inl h
theorem mem_del {M:Bh} {p:List Nat} {q:List Nat × List (List Nat)}:q ∈ z49 M p ↔ q ∈ M ∧ q.1 ≠ p:=by simp [z49]
theorem atB_mem {M:Bh} {p m:List Nat} (h:m ∈ atB M p):∃ l,(p,l) ∈ M ∧ m ∈ l:=by
 rw [atB,atE] at h
 cases hl:M.lookup p with
 | none=>rw [hl] at h;cases h
 | some l=>rw [hl] at h;exact ⟨l,z89 hl,h⟩
theorem z8u {α β:Type} {f:α → β} {W:List α} (h:(W.map f).Nodup) {a b:α} (ha:a ∈ W) (hb:b ∈ W) (he:f a = f b):a = b:=by
 obtain ⟨i,hi,rfl⟩:=List.getElem_of_mem ha
 obtain ⟨j,hj,rfl⟩:=List.getElem_of_mem hb
 have:(W.map f)[i]? = (W.map f)[j]?:=by simp [List.getElem?_map,List.getElem?_eq_getElem hi,List.getElem?_eq_getElem hj,he]
 have:=(List.getElem?_inj (by simpa using hi) h).1 this
 subst this
 rfl
structure DInv (s:DagN) (hs:List (List Nat)) (M:Bh) (R F:List (List Nat)):Prop where
 nodup:(s.names ++ s.waits).Nodup
 perm:(z48 M ++ (R ++ F)).Perm s.waits
 keys:(M.map (·.1)).Nodup
 wait:∀ q ∈ M,q.1 ∉ s.names ∧ ∀ m ∈ q.2,∃ o ∈ s.wait,z0a o = m ∧ q.1 ∈ o.preds
 free:∀ m ∈ F,∃ o ∈ s.wait,z0a o = m ∧ z1f s.names o = true
 closed:∀ o ∈ s.ops,∀ p ∈ o.preds,p ∈ s.names
 hnodup:hs.Nodup
 heads:∀ n,n ∈ hs ↔ n ∈ s.names ∧ ∀ o ∈ s.ops,n ∉ o.preds
section
variable {s:DagN} {hs:List (List Nat)} {M:Bh} {R F:List (List Nat)}
theorem DInv.new:DInv DagN.new [] [] [] []:=⟨List.nodup_nil,List.Perm.refl _,List.nodup_nil,(fun q hq=>by cases hq),(fun q hq=>by cases hq),(fun q hq=>by cases hq),List.nodup_nil,fun n=>by simp [DagN.new,DagN.names]⟩
theorem DInv.nodupN (h:DInv s hs M R F):s.names.Nodup:=(List.nodup_append.1 h.nodup).1
theorem DInv.nodupW (h:DInv s hs M R F):s.waits.Nodup:=(List.nodup_append.1 h.nodup).2.1
theorem DInv.apart (h:DInv s hs M R F) {n:List Nat} (h1:n ∈ s.names) (h2:n ∈ s.waits):False:=(List.nodup_append.1 h.nodup).2.2 n h1 n h2 rfl
theorem DInv.op (h:DInv s hs M R F) {m:List Nat} (hm:m ∈ R ++ F):∃ o ∈ s.wait,z0a o = m:=by
 have:m ∈ s.waits:=h.perm.mem_iff.1 (List.mem_append.2 (.inr hm))
 obtain ⟨o,ho,rfl⟩:=List.mem_map.1 this
 exact ⟨o,ho,rfl⟩
theorem DInv.one (h:DInv s hs M R F) {o p:OpN} (ho:o ∈ s.wait) (hp:p ∈ s.wait) (he:z0a o = z0a p):o = p:=z8u h.nodupW ho hp he
theorem DInv.permF {F':List (List Nat)} (h:DInv s hs M R F) (hp:F.Perm F'):DInv s hs M R F' :=
 ⟨h.nodup,((hp.symm.append_left R).append_left _).trans h.perm,h.keys,h.wait,fun m hm=>h.free m (hp.mem_iff.2 hm),h.closed,h.hnodup,h.heads⟩
theorem DInv.lenF (h:DInv s hs M R F):F.length ≤ s.wait.length:=by
 have:=h.perm.length_eq
 simp only [List.length_append,DagN.waits,List.length_map] at this
 omega
theorem DInv.step_wait {m p:List Nat} (h:DInv s hs M (m :: R) F) {o:OpN} (ho:o ∈ s.wait) (hn:z0a o = m) (hp:p ∈ o.preds) (hnot:p ∉ s.names):DInv s hs (z2v M p (atB M p ++ [m])) R F:=by
 refine ⟨h.nodup,?_,z68 h.keys _ _,?_,h.free,h.closed,h.hnodup,h.heads⟩
 ·refine ((zi0 h.keys p m).append_right _).trans (List.Perm.trans ?_ h.perm)
  rw [List.cons_append]
  exact (List.perm_middle (a:=m) (l₁:=z48 M) (l₂:=R ++ F)).symm
 ·intro q hq
  rcases mem_put h.keys hq with rfl | ⟨hq,_⟩
  ·refine ⟨hnot,fun x hx=>?_⟩
   rcases List.mem_append.1 hx with hx | hx
   ·obtain ⟨l,hl,hxl⟩:=atB_mem hx
    exact (h.wait _ hl).2 x hxl
   ·obtain rfl:=List.mem_singleton.1 hx
    exact ⟨o,ho,hn,hp⟩
  ·exact h.wait q hq
theorem DInv.step_free {m:List Nat} (h:DInv s hs M (m :: R) F) {o:OpN} (ho:o ∈ s.wait) (hn:z0a o = m) (hw:z1f s.names o = true):DInv s hs M R (m :: F):=by
 refine ⟨h.nodup,?_,h.keys,h.wait,?_,h.closed,h.hnodup,h.heads⟩
 ·refine List.Perm.trans ?_ h.perm
  refine List.Perm.append_left _ ?_
  exact List.perm_middle
 ·intro x hx
  rcases List.mem_cons.1 hx with rfl | hx
  ·exact ⟨o,ho,hn,hw⟩
  ·exact h.free x hx
theorem ze2 {L L':List (List Nat)} {o:OpN} (h:z1f L o = true) (k:∀ x ∈ L,x ∈ L'):z1f L' o = true:=by
 rw [z1f,List.all_eq_true] at h ⊢
 intro p hp
 exact decide_eq_true (k p (of_decide_eq_true (h p hp)))
theorem wholeN_iff {L:List (List Nat)} {o:OpN}:z1f L o = true ↔ ∀ p ∈ o.preds,p ∈ L:=by
 rw [z1f,List.all_eq_true]
 exact ⟨fun h p hp=>of_decide_eq_true (h p hp),fun h p hp=>decide_eq_true (h p hp)⟩
theorem DInv.add {o:OpN} (h:DInv s hs M [] F) (hn:z0a o ∉ s.names) (hw:z0a o ∉ s.waits) (hwh:z1f s.names o = true) :
 DInv ⟨s.ops ++ [o],s.wait⟩ ((hs.filter fun n=>!decide (n ∈ o.preds)) ++ [z0a o]) (z49 M (z0a o)) (atB M (z0a o)) F:=by
 have hnames:DagN.names ⟨s.ops ++ [o],s.wait⟩ = s.names ++ [z0a o]:=by simp [DagN.names]
 have hwaits:DagN.waits ⟨s.ops ++ [o],s.wait⟩ = s.waits:=rfl
 have hwh2:=wholeN_iff.1 hwh
 refine ⟨?_,?_,zgh h.keys _,?_,?_,?_,?_,?_⟩
 ·rw [hnames,hwaits]
  have:=h.nodup
  rw [List.nodup_append] at this ⊢
  refine ⟨List.nodup_append.2 ⟨this.1,by simp,fun a ha b hb e=>?_⟩,this.2.1,fun a ha b hb e=>?_⟩
  ·obtain rfl:=List.mem_singleton.1 hb
   exact hn (e ▸ ha)
  ·rcases List.mem_append.1 ha with ha | ha
   ·exact this.2.2 a ha b hb e
   ·obtain rfl:=List.mem_singleton.1 ha
    exact hw (e ▸ hb)
 ·rw [hwaits]
  refine List.Perm.trans ?_ h.perm
  rw [List.nil_append,← List.append_assoc]
  refine List.Perm.append_right _ ?_
  exact List.perm_append_comm.trans (zc2 h.keys _).symm
 ·intro q hq
  obtain ⟨hq1,hq2⟩:=mem_del.1 hq
  obtain ⟨h1,h2⟩:=h.wait q hq1
  refine ⟨?_,h2⟩
  rw [hnames,List.mem_append,List.mem_singleton,not_or]
  exact ⟨h1,hq2⟩
 ·intro m hm
  obtain ⟨p,h1,h2,h3⟩:=h.free m hm
  exact ⟨p,h1,h2,ze2 h3 (fun x hx=>by rw [hnames];exact List.mem_append.2 (.inl hx))⟩
 ·intro x hx p hp
  rw [hnames]
  rcases List.mem_append.1 hx with hx | hx
  ·exact List.mem_append.2 (.inl (h.closed x hx p hp))
  ·obtain rfl:=List.mem_singleton.1 hx
   exact List.mem_append.2 (.inl (hwh2 p hp))
 ·refine List.nodup_append.2 ⟨List.filter_sublist.nodup h.hnodup,by simp,fun a ha b hb e=>?_⟩
  obtain rfl:=List.mem_singleton.1 hb
  exact hn (e ▸ ((h.heads a).1 (List.mem_filter.1 ha).1).1)
 ·intro n
  rw [hnames,List.mem_append,List.mem_filter,List.mem_singleton,List.mem_append,List.mem_singleton,h.heads n]
  simp only [Bool.not_eq_true',decide_eq_false_iff_not]
  constructor
  ·rintro (⟨⟨h1,h2⟩,h3⟩ | rfl)
   ·refine ⟨.inl h1,fun x hx=>?_⟩
    rcases List.mem_append.1 hx with hx | hx
    ·exact h2 x hx
    ·obtain rfl:=List.mem_singleton.1 hx
     exact h3
   ·refine ⟨.inr rfl,fun x hx hp=>?_⟩
    rcases List.mem_append.1 hx with hx | hx
    ·exact hn (h.closed x hx _ hp)
    ·obtain rfl:=List.mem_singleton.1 hx
     exact hn (hwh2 _ hp)
  ·rintro ⟨h1 | rfl,h2⟩
   ·exact .inl ⟨⟨h1,fun x hx=>h2 x (List.mem_append.2 (.inl hx))⟩,h2 o (by simp)⟩
   ·exact .inr rfl
theorem DInv.cover (h:DInv s hs M R F) {o:OpN} (ho:o ∈ s.wait) (hw:z1f s.names o = true):z0a o ∈ R ++ F:=by
 have hm:z0a o ∈ z48 M ++ (R ++ F):=h.perm.mem_iff.2 (List.mem_map.2 ⟨o,ho,rfl⟩)
 rcases List.mem_append.1 hm with hm | hm
 ·exfalso
  obtain ⟨q,hq,hmq⟩:=mem_flatB.1 hm
  obtain ⟨h1,h2⟩:=h.wait q hq
  obtain ⟨p,hp,he,hpp⟩:=h2 _ hmq
  obtain rfl:=h.one hp ho he
  exact h1 (wholeN_iff.1 hw _ hpp)
 ·exact hm
theorem DInv.best_none (h:DInv s hs M [] []):zaa s.names s.wait = none:=by
 cases hb:zaa s.names s.wait with
 | none=>rfl
 | some i =>
   obtain ⟨o,h1,h2,_⟩:=z3u _ _ hb
   have:=h.cover (List.mem_of_getElem? h1) h2
   cases this
theorem DInv.best (h:DInv s hs M [] F) {m:List Nat} (hm:m ∈ F) (hle:∀ x ∈ F,x = m ∨ z1s m x = -1):∃ i o,zaa s.names s.wait = some i ∧ s.wait[i]? = some o ∧ z0a o = m ∧ z1f s.names o = true:=by
 obtain ⟨o,ho,hn,hw⟩:=h.free m hm
 obtain ⟨j,hj,hjo⟩:=List.getElem_of_mem ho
 cases hb:zaa s.names s.wait with
 | none =>
   have:=Go.Proofs.YtnbldbbbibpobaaGreatDoor.best_none _ hb j o hj (by rw [List.getElem?_eq_getElem hj,hjo])
   rw [hw] at this
   cases this
 | some i =>
   obtain ⟨p,h1,h2,h3⟩:=z3u _ _ hb
   refine ⟨i,p,rfl,h1,?_,h2⟩
   have hp:z0a p ∈ F:=by simpa using h.cover (List.mem_of_getElem? h1) h2
   rcases h3 j o hj (by rw [List.getElem?_eq_getElem hj,hjo]) hw with e | e
   ·rw [← e,hn]
   ·rcases hle _ hp with e2 | e2
    ·exact e2
    ·rw [hn] at e
     exact (z5r e e2).elim
theorem z8q {W:List OpN} {i:Nat} {o p:OpN} (hi:W[i]? = some o) (hp:p ∈ W) (hne:z0a p ≠ z0a o):p ∈ W.eraseIdx i:=by
 rw [List.mem_eraseIdx_iff_getElem?]
 obtain ⟨j,hj,rfl⟩:=List.getElem_of_mem hp
 refine ⟨j,?_,List.getElem?_eq_getElem hj⟩
 rintro rfl
 rw [List.getElem?_eq_getElem hj] at hi
 cases hi
 exact hne rfl
theorem z5y {α:Type}:∀ {l:List α} {i:Nat} (h:i < l.length),(l[i] :: l.eraseIdx i).Perm l
 | a :: l,0,_=>List.Perm.refl _
 | a :: l,i + 1,h=>(List.Perm.swap _ _ _).trans ((z5y (l:=l) (i:=i) (by simpa using h)).cons a)
theorem DInv.pop {m:List Nat} (h:DInv s hs M [] (m :: F)) {i:Nat} {o:OpN} (hi:s.wait[i]? = some o) (hn:z0a o = m) :
 DInv ⟨s.ops,s.wait.eraseIdx i⟩ hs M [] F ∧ m ∉ s.names ∧ m ∉ DagN.waits ⟨s.ops,s.wait.eraseIdx i⟩:=by
 have hlt:=(List.getElem?_eq_some_iff.1 hi).1
 have hw:DagN.waits ⟨s.ops,s.wait.eraseIdx i⟩ = s.waits.eraseIdx i:=by
  simp only [DagN.waits]
  exact (ChangeMaps.map_eraseIdx z0a s.wait i)
 have hil:i < s.waits.length:=by simpa [DagN.waits] using hlt
 have hg:s.waits[i] = m:=by
  have:s.waits[i]? = some m:=by rw [DagN.waits,List.getElem?_map,hi,Option.map_some,hn]
  rw [List.getElem?_eq_getElem hil] at this
  exact Option.some.inj this
 have hp:(m :: s.waits.eraseIdx i).Perm s.waits:=hg ▸ z5y hil
 have hmn:m ∉ s.waits.eraseIdx i:=(List.nodup_cons.1 (hp.nodup_iff.2 h.nodupW)).1
 have hperm:(z48 M ++ ([] ++ F)).Perm (s.waits.eraseIdx i):=by
  refine List.Perm.cons_inv (a:=m) ?_
  refine List.Perm.trans ?_ (h.perm.trans hp.symm)
  exact List.perm_middle.symm
 refine ⟨⟨?_,by rw [hw];exact hperm,h.keys,?_,?_,h.closed,h.hnodup,h.heads⟩,fun e=>h.apart e (by rw [← hg];exact List.getElem_mem hil),by rw [hw];exact hmn⟩
 ·rw [hw]
  exact (List.Sublist.append_left (List.eraseIdx_sublist _ _) _).nodup h.nodup
 ·intro q hq
  obtain ⟨h1,h2⟩:=h.wait q hq
  refine ⟨h1,fun x hx=>?_⟩
  obtain ⟨p,hp1,hp2,hp3⟩:=h2 x hx
  refine ⟨p,z8q hi hp1 ?_,hp2,hp3⟩
  rw [hp2,hn]
  rintro rfl
  exact hmn (hperm.mem_iff.1 (List.mem_append.2 (.inl (mem_flatB.2 ⟨q,hq,hx⟩))))
 ·intro x hx
  obtain ⟨p,hp1,hp2,hp3⟩:=h.free x (List.mem_cons_of_mem _ hx)
  refine ⟨p,z8q hi hp1 ?_,hp2,hp3⟩
  rw [hp2,hn]
  rintro rfl
  exact hmn (hperm.mem_iff.1 (List.mem_append.2 (.inr (by simpa using hx))))
theorem DInv.come (h:DInv s hs M [] F) {o:OpN} (hn:z0a o ∉ s.names) (hw:z0a o ∉ s.waits) {p:List Nat} (hp:p ∈ o.preds) (hnot:p ∉ s.names) :
 DInv ⟨s.ops,s.wait ++ [o]⟩ hs (z2v M p (atB M p ++ [z0a o])) [] F:=by
 have hwaits:DagN.waits ⟨s.ops,s.wait ++ [o]⟩ = s.waits ++ [z0a o]:=by simp [DagN.waits]
 have h1:DInv ⟨s.ops,s.wait ++ [o]⟩ hs M [z0a o] F:=by
  refine ⟨?_,?_,h.keys,fun q hq=>⟨(h.wait q hq).1,fun m hm=>?_⟩,fun m hm=>?_,h.closed,h.hnodup,h.heads⟩
  ·rw [hwaits,show DagN.names ⟨s.ops,s.wait ++ [o]⟩ = s.names from rfl,← List.append_assoc]
   refine List.nodup_append.2 ⟨h.nodup,by simp,fun a ha b hb e=>?_⟩
   obtain rfl:=List.mem_singleton.1 hb
   subst e
   exact (List.mem_append.1 ha).elim hn hw
  ·rw [hwaits]
   refine List.Perm.trans ?_ (h.perm.append_right [z0a o])
   rw [List.nil_append,List.append_assoc]
   exact List.Perm.append_left _ (List.perm_append_singleton _ _).symm
  ·obtain ⟨x,hx,hx2⟩:=(h.wait q hq).2 m hm
   exact ⟨x,List.mem_append.2 (.inl hx),hx2⟩
  ·obtain ⟨x,hx,hx2⟩:=h.free m hm
   exact ⟨x,List.mem_append.2 (.inl hx),hx2⟩
 exact h1.step_wait (List.mem_append.2 (.inr (List.mem_singleton.2 rfl))) rfl hp hnot
end
theorem z8h {f:Nat} {s:DagN} (h:zaa s.names s.wait = none):z0t f s = ([],s):=by
 cases f with
 | zero=>rfl
 | succ f=>rw [z0t,h]
theorem z8f {s:DagN} {i:Nat} {o:OpN} (h:zaa s.names s.wait = some i) (ho:s.wait[i]? = some o) :
 z0t s.wait.length s = if o.depth = z1h s.ops o then
  (z0a o :: (z0t (s.wait.eraseIdx i).length ⟨s.ops ++ [o],s.wait.eraseIdx i⟩).1,(z0t (s.wait.eraseIdx i).length ⟨s.ops ++ [o],s.wait.eraseIdx i⟩).2)
  else z0t (s.wait.eraseIdx i).length ⟨s.ops,s.wait.eraseIdx i⟩:=by
 have hi:=z8x h
 obtain ⟨f,hf⟩:∃ f,s.wait.length = f + 1:=⟨s.wait.length - 1,by omega⟩
 have hl:(s.wait.eraseIdx i).length = f:=by rw [List.length_eraseIdx,if_pos hi];omega
 rw [hf,hl,z0t,h]
 simp only [ho]
theorem z63 {s:DagN} {hs:List (List Nat)} {M:Bh} {R F:List (List Nat)} (h:DInv s hs M R F):hs.Perm (s.names.filter fun n=>!(s.ops.any fun o=>decide (n ∈ o.preds))):=by
 refine (List.perm_ext_iff_of_nodup h.hnodup (List.filter_sublist.nodup h.nodupN)).2 fun n=>?_
 rw [h.heads n,List.mem_filter]
 simp
theorem zha {s:DagN} {hs:List (List Nat)} {M:Bh} {R F:List (List Nat)} (h:DInv s hs M R F):(z19 s).length = hs.length:=by
 rw [z19,z1x,(z63 h).length_eq]
end Go.Proofs.YtnbldbbbibpobaaGreatDoor
