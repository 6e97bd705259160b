/-
  Joined: Lists of keys and elements: looked up, stored into, deleted from.; The developers' set as mathematics: behind whom who waits, what is free, the heads; it comes to what the document's comes to.; Rows of elements of thirty-two bytes: what lies there, what is pushed, stored and read; a slice of arrays that came in.; Objects that live in memory of their own: what a call turns (Only), what it owns behind it (Turn); rows of values of one cell (RowV).
-/
import Derived.Deep.MidRow
import Derived.Deep.Slices
import Derived.Great.BuildSlice
import Derived.Laws.BytesString
import Derived.OpenShut
import Derived.Test.YtnbldbbbibpobaaGreatDoorJ02
namespace Go.Proofs.YtnbldbbbibpobaaGreatDoor
section
variable {β:Type}
theorem z3e {L:List (List Nat × β)} (hd:(L.map (·.1)).Nodup) {j:Nat} {n:List Nat} {v:β} (h:L[j]? = some (n,v)):L.lookup n = some v:=by
 induction L generalizing j with
 | nil=>cases h
 | cons p L ih =>
   rw [List.map_cons,List.nodup_cons] at hd
   obtain ⟨m,x⟩:=p
   cases j with
   | zero =>
     simp only [List.getElem?_cons_zero,Option.some.injEq,Prod.mk.injEq] at h
     obtain ⟨rfl,rfl⟩:=h
     simp
   | succ j =>
     simp only [List.getElem?_cons_succ] at h
     have hm:n ∈ L.map (·.1):=List.mem_map.2 ⟨(n,v),List.mem_of_getElem? h,rfl⟩
     have hne:(n == m) = false:=by
      rw [beq_eq_false_iff_ne]
      rintro rfl
      exact hd.1 hm
     rw [List.lookup_cons,hne]
     exact ih hd.2 h
theorem z21 {L:List (List Nat × β)} {n:List Nat} (h:n ∉ L.map (·.1)):L.lookup n = none:=by
 induction L with
 | nil=>rfl
 | cons p L ih =>
   rw [List.map_cons,List.mem_cons,not_or] at h
   obtain ⟨m,x⟩:=p
   have hne:(n == m) = false:=by rw [beq_eq_false_iff_ne];exact h.1
   rw [List.lookup_cons,hne]
   exact ih h.2
theorem za4 {L:List (List Nat × β)} {n:List Nat} {v:β} (h:L.lookup n = some v):∃ A B,L = A ++ (n,v) :: B ∧ n ∉ A.map (·.1):=by
 induction L with
 | nil=>cases h
 | cons p L ih =>
   obtain ⟨m,x⟩:=p
   rw [List.lookup_cons] at h
   cases hb:n == m with
   | true =>
     rw [hb] at h
     obtain rfl:=eq_of_beq hb
     cases h
     exact ⟨[],L,rfl,by simp⟩
   | false =>
     rw [hb] at h
     obtain ⟨A,B,rfl,hA⟩:=ih h
     refine ⟨(m,x) :: A,B,rfl,?_⟩
     rw [List.map_cons,List.mem_cons,not_or]
     exact ⟨by rw [beq_eq_false_iff_ne] at hb;exact hb,hA⟩
theorem z9b {L:List (List Nat × β)} {n:List Nat} {v:β} (h:L.lookup n = some v):(n,v) ∈ L:=by
 obtain ⟨A,B,rfl,_⟩:=za4 h
 simp
theorem z2l {L:List (List Nat × β)} {n:List Nat} (h:n ∈ L.map (·.1)):∃ v,L.lookup n = some v:=by
 cases hl:L.lookup n with
 | some v=>exact ⟨v,rfl⟩
 | none =>
   exfalso
   induction L with
   | nil=>cases h
   | cons p L ih =>
     obtain ⟨m,x⟩:=p
     rw [List.lookup_cons] at hl
     cases hb:n == m with
     | true=>rw [hb] at hl;cases hl
     | false =>
       rw [hb] at hl
       rw [List.map_cons,List.mem_cons] at h
       rcases h with rfl | h
       ·simp at hb
       ·exact ih h hl
def atE (L:List (List Nat × β)) (z:β) (n:List Nat):β:=(L.lookup n).getD z
def z3c (L:List (List Nat × β)) (n:List Nat) (v:β):List (List Nat × β) :=
 if n ∈ L.map (·.1) then L.map fun p=>if p.1 = n then (n,v) else p else L ++ [(n,v)]
def z5b (L:List (List Nat × β)) (n:List Nat):List (List Nat × β):=L.filter fun p=>!decide (p.1 = n)
theorem zbb {L:List (List Nat × β)} {n:List Nat} {v:β} (h:n ∈ L.map (·.1)):(z3c L n v).map (·.1) = L.map (·.1):=by
 rw [z3c,if_pos h,List.map_map]
 refine List.map_congr_left fun p _=>?_
 simp only [Function.comp_apply]
 split
 ·rename_i e;exact e.symm
 ·rfl
theorem z1u {L:List (List Nat × β)} {n:List Nat} {v:β} (h:n ∉ L.map (·.1)):z3c L n v = L ++ [(n,v)]:=by rw [z3c,if_neg h]
theorem zhy {A:List (List Nat × β)} {n:List Nat} {v:β} (h:n ∉ A.map (·.1)):(A.map fun p=>if p.1 = n then (n,v) else p) = A:=by
 refine (List.map_congr_left fun p hp=>?_).trans (List.map_id' _)
 rw [if_neg]
 rintro rfl
 exact h (List.mem_map.2 ⟨p,hp,rfl⟩)
theorem z4j {A:List (List Nat × β)} {n:List Nat} (h:n ∉ A.map (·.1)):z5b A n = A:=by
 rw [z5b,List.filter_eq_self]
 intro q hq
 have:q.1 ≠ n:=fun e=>h (List.mem_map.2 ⟨q,hq,e⟩)
 simpa using this
theorem z84 (A B:List (List Nat × β)) (n:List Nat):z5b (A ++ B) n = z5b A n ++ z5b B n:=by rw [z5b,List.filter_append];rfl
theorem delE_keys {L:List (List Nat × β)} {n m:List Nat}:m ∈ (z5b L n).map (·.1) ↔ m ∈ L.map (·.1) ∧ m ≠ n:=by
 simp only [List.mem_map,z5b,List.mem_filter,Bool.not_eq_true',decide_eq_false_iff_not]
 constructor
 ·rintro ⟨p,⟨h1,h2⟩,rfl⟩
  exact ⟨⟨p,h1,rfl⟩,h2⟩
 ·rintro ⟨⟨p,h1,rfl⟩,h2⟩
  exact ⟨p,⟨h1,h2⟩,rfl⟩
theorem zju {L:List (List Nat × β)} (h:(L.map (·.1)).Nodup) (n:List Nat):((z5b L n).map (·.1)).Nodup:=(List.Sublist.map _ List.filter_sublist).nodup h
theorem z7n {L:List (List Nat × β)} (h:(L.map (·.1)).Nodup) (n:List Nat) (v:β):((z3c L n v).map (·.1)).Nodup:=by
 by_cases hn:n ∈ L.map (·.1)
 ·rw [zbb hn];exact h
 ·rw [z1u hn,List.map_append]
  refine List.nodup_append.2 ⟨h,by simp,fun a ha c hc=>?_⟩
  obtain rfl:c = n:=by simpa using hc
  rintro rfl
  exact hn ha
theorem z5q {L:List (List Nat × β)} (hd:(L.map (·.1)).Nodup) {n:List Nat} {v:β} (h:L.lookup n = some v) :
 ∃ A B,L = A ++ (n,v) :: B ∧ (∀ v',z3c L n v' = A ++ (n,v') :: B) ∧ z5b L n = A ++ B ∧ n ∉ (A ++ B).map (·.1):=by
 obtain ⟨A,B,rfl,hA⟩:=za4 h
 have hB:n ∉ B.map (·.1):=by
  rw [List.map_append,List.map_cons,List.nodup_append,List.nodup_cons] at hd
  exact hd.2.1.1
 have hm:n ∈ (A ++ (n,v) :: B).map (·.1):=by simp
 refine ⟨A,B,rfl,fun v'=>?_,?_,?_⟩
 ·rw [z3c,if_pos hm,List.map_append,List.map_cons,zhy hA,zhy hB]
  simp
 ·rw [z84,z4j hA,show ((n,v) :: B) = [(n,v)] ++ B from rfl,z84,z4j hB]
  simp [z5b]
 ·rw [List.map_append,List.mem_append,not_or]
  exact ⟨hA,hB⟩
theorem z3h {A B:List (List Nat × β)} {n:List Nat} (h:n ∉ A.map (·.1)):(A ++ B).lookup n = B.lookup n:=by
 induction A with
 | nil=>rfl
 | cons p A ih =>
   obtain ⟨m,x⟩:=p
   rw [List.map_cons,List.mem_cons,not_or] at h
   have hne:(n == m) = false:=by rw [beq_eq_false_iff_ne];exact h.1
   rw [List.cons_append,List.lookup_cons,hne]
   exact ih h.2
theorem z1y {A B:List (List Nat × β)} {n:List Nat} (h:n ∈ A.map (·.1)):(A ++ B).lookup n = A.lookup n:=by
 induction A with
 | nil=>cases h
 | cons p A ih =>
   obtain ⟨m,x⟩:=p
   rw [List.cons_append,List.lookup_cons,List.lookup_cons]
   cases hb:n == m with
   | true=>rfl
   | false =>
     rw [List.map_cons,List.mem_cons] at h
     rw [beq_eq_false_iff_ne] at hb
     exact ih (h.resolve_left hb)
theorem zj5 {A B:List (List Nat × β)} {n m:List Nat} {x y:β} (h:m ≠ n):(A ++ (n,x) :: B).lookup m = (A ++ (n,y) :: B).lookup m:=by
 by_cases hm:m ∈ A.map (·.1)
 ·rw [z1y hm,z1y hm]
 ·have hne:(m == n) = false:=by rw [beq_eq_false_iff_ne];exact h
  rw [z3h hm,z3h hm,List.lookup_cons,List.lookup_cons,hne]
theorem z8m {L:List (List Nat × β)} (hd:(L.map (·.1)).Nodup) {n m:List Nat} (v:β) (h:m ≠ n):(z3c L n v).lookup m = L.lookup m:=by
 by_cases hn:n ∈ L.map (·.1)
 ·obtain ⟨x,hx⟩:=z2l hn
  obtain ⟨A,B,h1,h2,_⟩:=z5q hd hx
  rw [h2,h1]
  exact zj5 h
 ·rw [z1u hn]
  by_cases hm:m ∈ L.map (·.1)
  ·rw [z1y hm]
  ·rw [z3h hm,z21 hm]
   exact z21 (by simpa using h)
theorem ze0 {L:List (List Nat × β)} (hd:(L.map (·.1)).Nodup) {n m:List Nat} (h:m ≠ n):(z5b L n).lookup m = L.lookup m:=by
 by_cases hn:n ∈ L.map (·.1)
 ·obtain ⟨x,hx⟩:=z2l hn
  obtain ⟨A,B,h1,_,h3,_⟩:=z5q hd hx
  rw [h3,h1]
  by_cases hm:m ∈ A.map (·.1)
  ·rw [z1y hm,z1y hm]
  ·have hne:(m == n) = false:=by rw [beq_eq_false_iff_ne];exact h
   rw [z3h hm,z3h hm,List.lookup_cons,hne]
 ·rw [z4j hn]
theorem zk2 {L:List (List Nat × β)} {n m:List Nat} (v:β) (h:n ≠ m):z5b (z3c L n v) m = z3c (z5b L m) n v:=by
 by_cases hn:n ∈ L.map (·.1)
 ·have hn2:n ∈ (z5b L m).map (·.1):=delE_keys.2 ⟨hn,h⟩
  rw [z3c,if_pos hn,z3c,if_pos hn2,z5b,z5b,List.filter_map]
  congr 1
  refine List.filter_congr fun p _=>?_
  simp only [Function.comp_apply]
  by_cases hp:p.1 = n
  ·rw [if_pos hp,hp]
  ·rw [if_neg hp]
 ·have hn2:n ∉ (z5b L m).map (·.1):=fun e=>hn (delE_keys.1 e).1
  rw [z1u hn,z1u hn2,z84]
  congr 1
  rw [z5b,List.filter_cons,if_pos (by simpa using h)]
  rfl
theorem z5y {L:List (List Nat × β)} {n:List Nat} {v:β} (h:L.lookup n = some v):∃ j:Nat,L[j]? = some (n,v):=by
 obtain ⟨j,hj,he⟩:=List.getElem_of_mem (z9b h)
 exact ⟨j,by rw [List.getElem?_eq_getElem hj,he]⟩
theorem z9o {L:List (List Nat × β)} (hd:(L.map (·.1)).Nodup) {j:Nat} {n:List Nat} {x:β} (v:β) (h:L[j]? = some (n,x)):z3c L n v = L.set j (n,v):=by
 have hm:n ∈ L.map (·.1):=List.mem_map.2 ⟨(n,x),List.mem_of_getElem? h,rfl⟩
 rw [z3c,if_pos hm]
 refine List.ext_getElem? fun i=>?_
 rw [List.getElem?_map]
 by_cases hij:j = i
 ·subst hij
  rw [h,List.getElem?_set_self (List.getElem?_eq_some_iff.1 h).1]
  simp
 ·rw [List.getElem?_set_ne hij]
  cases hi:L[i]? with
  | none=>rfl
  | some p =>
    rw [Option.map_some]
    congr 1
    rw [if_neg]
    intro hp
    have h1:(L.map (·.1))[i]? = some n:=by rw [List.getElem?_map,hi,Option.map_some,hp]
    have h2:(L.map (·.1))[j]? = some n:=by rw [List.getElem?_map,h];rfl
    have hjl:j < (L.map (·.1)).length:=(List.getElem?_eq_some_iff.1 h2).1
    exact hij ((List.getElem?_inj hjl hd).1 (h2.trans h1.symm))
theorem z92 {L:List (List Nat × β)} (hd:(L.map (·.1)).Nodup) {j:Nat} {n:List Nat} {x:β} (h:L[j]? = some (n,x)):z5b L n = L.eraseIdx j:=by
 induction L generalizing j with
 | nil=>cases h
 | cons p L ih =>
   rw [List.map_cons,List.nodup_cons] at hd
   cases j with
   | zero =>
     simp only [List.getElem?_cons_zero,Option.some.injEq] at h
     subst h
     rw [z5b,List.filter_cons,if_neg (by simp),List.eraseIdx_cons_zero,List.filter_eq_self]
     intro q hq
     have:q.1 ≠ n:=fun e=>hd.1 (List.mem_map.2 ⟨q,hq,e⟩)
     simpa using this
   | succ j =>
     simp only [List.getElem?_cons_succ] at h
     have:p.1 ≠ n:=fun e=>hd.1 (e ▸ List.mem_map.2 ⟨(n,x),List.mem_of_getElem? h,rfl⟩)
     rw [z5b,List.filter_cons,if_pos (by simpa using this),List.eraseIdx_cons_succ]
     congr 1
     exact ih hd.2 h
end
open Go.RowKit
theorem z8h:∀ a:List Nat,z1t a a = 0
 | []=>by rw [z1t];intro a x b y h;cases h
 | a :: x=>by rw [z1t,if_neg (Nat.lt_irrefl _),if_neg (Nat.lt_irrefl _)];exact z8h x
theorem z93 (a:List Nat):z1t [] a = 0:=by rw [z1t];intro a x b y h;cases h
theorem z73 (a:List Nat):z1t a [] = 0:=by
 cases a with
 | nil=>exact z93 _
 | cons x a=>rw [z1t];intro a x b y h h2;cases h2
theorem zlx:∀ {a b:List Nat},a.length = b.length → z1t a b = 0 → a = b
 | [],[],_,_=>rfl
 | [],_ :: _,h,_=>by cases h
 | _ :: _,[],h,_=>by cases h
 | a :: x, b :: y, h, h2 => by
   rw [z1t] at h2
   split at h2
   ·cases h2
   ·split at h2
    ·cases h2
    ·rw [show a = b by omega,zlx (by simpa using h) h2]
theorem zeq:∀ (a b:List Nat),z1t a b = -1 ↔ z1t b a = 1
 | [],b=>by rw [z93,z73];decide
 | a :: x,[]=>by rw [z93,z73];decide
 | a :: x, b :: y => by
   rw [z1t,z1t]
   by_cases h1:a < b
   ·rw [if_pos h1,if_neg (by omega),if_pos h1];simp
   ·rw [if_neg h1]
    by_cases h2:b < a
    ·rw [if_pos h2,if_pos h2];decide
    ·rw [if_neg h2,if_neg h2,if_neg h1];exact zeq x y
theorem z2q:∀ {a b c:List Nat},z1t a b = -1 → z1t b c = -1 → z1t a c = -1
 | [],b,_,h,_=>by rw [z93] at h;cases h
 | _ :: _,[],_,h,_=>by rw [z73] at h;cases h
 | _ :: _,_ :: _,[],_,h=>by rw [z73] at h;cases h
 | a :: x, b :: y, c :: z, h1, h2 => by
   rw [z1t] at h1 h2 ⊢
   by_cases p1:a < b
   ·by_cases p2:b < c
    ·rw [if_pos (by omega)]
    ·rw [if_neg p2] at h2
     by_cases p3:c < b
     ·rw [if_pos p3] at h2;cases h2
     ·rw [if_pos (by omega)]
   ·rw [if_neg p1] at h1
    by_cases p3:b < a
    ·rw [if_pos p3] at h1;cases h1
    ·rw [if_neg p3] at h1
     obtain rfl:a = b:=by omega
     by_cases p2:a < c
     ·rw [if_pos p2]
     ·rw [if_neg p2] at h2 ⊢
      by_cases p4:c < a
      ·rw [if_pos p4] at h2;cases h2
      ·rw [if_neg p4] at h2 ⊢
       exact z2q h1 h2
theorem z42:∀ (a b:List Nat),z1t a b = -1 ∨ z1t a b = 0 ∨ z1t a b = 1
 | [],b=>.inr (.inl (z93 b))
 | _ :: _,[]=>.inr (.inl (z73 _))
 | a :: x, b :: y => by
   rw [z1t]
   split
   ·exact .inl rfl
   ·split
    ·exact .inr (.inr rfl)
    ·exact z42 x y
theorem z3m {a b:List Nat} (hl:a.length = b.length) (hne:a ≠ b):z1t a b = -1 ∨ z1t b a = -1:=by
 rcases z42 a b with h | h | h
 ·exact .inl h
 ·exact absurd (zlx hl h) hne
 ·exact .inr ((zeq b a).2 h)
theorem z58 {a b:List Nat} (h:z1t a b = -1) (k:z1t b a = -1):False:=by
 have:=z2q h k
 rw [z8h] at this
 cases this
def Rise (L:List (List Nat)):Prop:=L.Pairwise fun a b=>z1t a b = -1
theorem rise_eq {L M:List (List Nat)} (h:Rise L) (k:Rise M) (hp:L.Perm M):L = M :=
 List.Perm.eq_of_pairwise (fun _ _ _ _ h1 h2=>(z58 h1 h2).elim) h k hp
theorem zbw (n:List Nat):∀ L:List (List Nat),(zc7 n L).Perm (n :: L)
 | []=>List.Perm.refl _
 | x :: r => by
   rw [zc7]
   split
   ·exact ((zbw n r).cons x).trans (List.Perm.swap _ _ _)
   ·exact List.Perm.refl _
theorem zf6 {n:List Nat} (hn:n.length = 32):∀ {L:List (List Nat)},Rise L → (∀ x ∈ L,x.length = 32) → n ∉ L → Rise (zc7 n L)
 | [],_,_,_=>List.pairwise_singleton _ _
 | x :: r, h, hl, hm => by
   obtain ⟨h1,h2⟩:=List.pairwise_cons.1 h
   rw [zc7]
   split
   ·rename_i hx
    refine List.pairwise_cons.2 ⟨fun y hy=>?_,zf6 hn h2 (fun y hy=>hl y (List.mem_cons_of_mem _ hy)) (fun e=>hm (List.mem_cons_of_mem _ e))⟩
    rcases insN_mem.1 hy with rfl | hy
    ·exact hx
    ·exact h1 y hy
   ·rename_i hx
    have hnx:z1t n x = -1:=(z3m (by rw [hn,hl x List.mem_cons_self]) (fun e=>hm (List.mem_cons.2 (.inl e)))).resolve_right hx
    refine List.pairwise_cons.2 ⟨fun y hy=>?_,h⟩
    rcases List.mem_cons.1 hy with rfl | hy
    ·exact hnx
    ·exact z2q hnx (h1 y hy)
theorem z8r:∀ (L out:List (List Nat)),(L.foldl (fun out n=>zc7 n out) out).Perm (out ++ L)
 | [],out=>by rw [List.append_nil];exact List.Perm.refl _
 | n :: L,out=>(z8r L (zc7 n out)).trans (((zbw n out).append_right L).trans List.perm_middle.symm)
theorem za8 (L:List (List Nat)):(z0g L).Perm L:=z8r L []
theorem z8i:∀ {L out:List (List Nat)},Rise out → (∀ x ∈ out ++ L,x.length = 32) → (out ++ L).Nodup → Rise (L.foldl (fun out n=>zc7 n out) out)
 | [],_,h,_,_=>h
 | n :: L, out, h, hl, hd => by
   rw [List.foldl_cons]
   have hn:n ∉ out:=fun hm=>by
    rw [List.nodup_append] at hd
    exact hd.2.2 n hm n List.mem_cons_self rfl
   have hp:(zc7 n out ++ L).Perm (out ++ n :: L):=((zbw n out).append_right L).trans List.perm_middle.symm
   refine z8i (zf6 (hl n (by simp)) h (fun x hx=>hl x (by simp [hx])) hn) (fun x hx=>hl x (hp.mem_iff.1 hx)) (hp.nodup_iff.2 hd)
theorem zgh {L:List (List Nat)} (hl:∀ x ∈ L,x.length = 32) (hd:L.Nodup):Rise (z0g L):=z8i List.Pairwise.nil hl hd
theorem zma {L M:List (List Nat)} (h:Rise L) (hp:L.Perm M) (hl:∀ x ∈ M,x.length = 32) (hd:M.Nodup):L = z0g M :=
 rise_eq h (zgh hl hd) (hp.trans (za8 M).symm)
theorem best_none {L:List (List Nat)} {W:List OpN}:∀ (k:Nat),z2t L W k = none → ∀ j o,j < k → W[j]? = some o → z1l L o = false
 | 0,_,_,_,h,_=>by omega
 | k + 1, h, j, o, hj, ho => by
   rw [z2t,z2y] at h
   cases hk:W[k]? with
   | none =>
     rw [hk] at h
     by_cases hjk:j = k
     ·subst hjk;rw [hk] at ho;cases ho
     ·exact best_none k h j o (by omega) ho
   | some p =>
     rw [hk] at h
     simp only at h
     split at h
     ·split at h
      ·cases h
      ·split at h <;> cases h
     ·rename_i hw
      by_cases hjk:j = k
      ·subst hjk
       rw [hk] at ho
       cases ho
       simpa using hw
      ·exact best_none k h j o (by omega) ho
theorem z56 {L:List (List Nat)} {W:List OpN}:∀ (k i:Nat),z2t L W k = some i → ∃ o,W[i]? = some o ∧ z1l L o = true ∧ ∀ j p,j < k → W[j]? = some p → z1l L p = true → z00 p = z00 o ∨ z1t (z00 o) (z00 p) = -1
 | 0,_,h=>by cases h
 | k + 1, i, h => by
   rw [z2t,z2y] at h
   cases hk:W[k]? with
   | none =>
     rw [hk] at h
     obtain ⟨o,h1,h2,h3⟩:=z56 k i h
     refine ⟨o,h1,h2,fun j p hj hp hw=>?_⟩
     by_cases hjk:j = k
     ·subst hjk;rw [hk] at hp;cases hp
     ·exact h3 j p (by omega) hp hw
   | some q =>
     rw [hk] at h
     simp only at h
     split at h
     ·rename_i hq
      split at h
      ·rename_i hb
       cases h
       refine ⟨q,hk,hq,fun j p hj hp hw=>?_⟩
       by_cases hjk:j = k
       ·subst hjk;rw [hk] at hp;cases hp;exact .inl rfl
       ·rw [best_none k hb j p (by omega) hp] at hw;cases hw
      ·rename_i j' hb
       obtain ⟨o,h1,h2,h3⟩:=z56 k j' hb
       have hg:W.getD j' q = o:=by rw [List.getD_eq_getElem?_getD,h1];rfl
       rw [hg] at h
       split at h
       ·rename_i hc
        cases h
        refine ⟨q,hk,hq,fun j p hj hp hw=>?_⟩
        by_cases hjk:j = k
        ·subst hjk;rw [hk] at hp;cases hp;exact .inl rfl
        ·rcases h3 j p (by omega) hp hw with e | e
         ·exact .inr (e ▸ hc)
         ·exact .inr (z2q hc e)
       ·rename_i hc
        cases h
        refine ⟨o,h1,h2,fun j p hj hp hw=>?_⟩
        by_cases hjk:j = k
        ·subst hjk;rw [hk] at hp;cases hp
         by_cases hne:z00 q = z00 o
         ·exact .inl hne
         ·exact .inr ((z3m (by rw [z0p,z0p]) (Ne.symm hne)).resolve_right hc)
        ·exact h3 j p (by omega) hp hw
     ·rename_i hq
      obtain ⟨o,h1,h2,h3⟩:=z56 k i h
      refine ⟨o,h1,h2,fun j p hj hp hw=>?_⟩
      by_cases hjk:j = k
      ·subst hjk;rw [hk] at hp;cases hp;exact absurd hw hq
      ·exact h3 j p (by omega) hp hw
abbrev Bh:=List (List Nat × List (List Nat))
def z5a (M:Bh):List (List Nat):=M.flatMap (·.2)
def atB (M:Bh) (p:List Nat):List (List Nat):=atE M [] p
theorem z3w (A B:Bh):z5a (A ++ B) = z5a A ++ z5a B:=List.flatMap_append
theorem zk8 {M:Bh} (hd:(M.map (·.1)).Nodup) (p m:List Nat):(z5a (z3c M p (atB M p ++ [m]))).Perm (m :: z5a M):=by
 by_cases hp:p ∈ M.map (·.1)
 ·obtain ⟨l,hl⟩:=z2l hp
  obtain ⟨A,B,h1,h2,_⟩:=z5q hd hl
  have ha:atB M p = l:=by rw [atB,atE,hl];rfl
  rw [ha,h2,h1,z3w,z3w]
  show (z5a A ++ ((l ++ [m]) ++ z5a B)).Perm (m :: (z5a A ++ (l ++ z5a B)))
  rw [List.append_assoc,List.singleton_append,← List.append_assoc,← List.append_assoc]
  exact List.perm_middle
 ·have ha:atB M p = []:=by rw [atB,atE,z21 hp];rfl
  rw [ha,z1u hp,z3w]
  show (z5a M ++ ([m] ++ [])).Perm (m :: z5a M)
  rw [List.append_nil]
  exact List.perm_append_singleton _ _
theorem zez {M:Bh} (hd:(M.map (·.1)).Nodup) (p:List Nat):(z5a M).Perm (atB M p ++ z5a (z5b M p)):=by
 by_cases hp:p ∈ M.map (·.1)
 ·obtain ⟨l,hl⟩:=z2l hp
  obtain ⟨A,B,h1,_,h3,_⟩:=z5q hd hl
  have ha:atB M p = l:=by rw [atB,atE,hl];rfl
  rw [ha,h3,z3w]
  conv=>lhs;rw [h1,z3w]
  show (z5a A ++ (l ++ z5a B)).Perm (l ++ (z5a A ++ z5a B))
  rw [← List.append_assoc,← List.append_assoc]
  exact List.perm_append_comm.append_right _
 ·have ha:atB M p = []:=by rw [atB,atE,z21 hp];rfl
  rw [ha,z4j hp]
  exact List.Perm.refl _
theorem mem_flatB {M:Bh} {m:List Nat}:m ∈ z5a M ↔ ∃ q ∈ M,m ∈ q.2:=List.mem_flatMap
theorem mem_put {M:Bh} (hd:(M.map (·.1)).Nodup) {p:List Nat} {l:List (List Nat)} {q:List Nat × List (List Nat)} (h:q ∈ z3c M p l):q = (p,l) ∨ (q ∈ M ∧ q.1 ≠ p):=by
 by_cases hp:p ∈ M.map (·.1)
 ·obtain ⟨x,hx⟩:=z2l hp
  obtain ⟨A,B,h1,h2,_,h4⟩:=z5q hd hx
  rw [h2,List.mem_append,List.mem_cons] at h
  have key:q ∈ A ++ B → q ∈ M ∧ q.1 ≠ p:=fun hq=>⟨by rw [h1,List.mem_append,List.mem_cons];exact (List.mem_append.1 hq).imp id .inr,fun e=>h4 (List.mem_map.2 ⟨q,hq,e⟩)⟩
  rcases h with h | h | h
  ·exact .inr (key (List.mem_append.2 (.inl h)))
  ·exact .inl h
  ·exact .inr (key (List.mem_append.2 (.inr h)))
 ·rw [z1u hp,List.mem_append,List.mem_singleton] at h
  rcases h with h | h
  ·exact .inr ⟨h,fun e=>hp (List.mem_map.2 ⟨q,h,e⟩)⟩
  ·exact .inl h
theorem mem_del {M:Bh} {p:List Nat} {q:List Nat × List (List Nat)}:q ∈ z5b M p ↔ q ∈ M ∧ q.1 ≠ p:=by simp [z5b]
theorem atB_mem {M:Bh} {p m:List Nat} (h:m ∈ atB M p):∃ l,(p,l) ∈ M ∧ m ∈ l:=by
 rw [atB,atE] at h
 cases hl:M.lookup p with
 | none=>rw [hl] at h;cases h
 | some l=>rw [hl] at h;exact ⟨l,z9b hl,h⟩
theorem z4a {α β:Type} {f:α → β} {W:List α} (h:(W.map f).Nodup) {a b:α} (ha:a ∈ W) (hb:b ∈ W) (he:f a = f b):a = b:=by
 obtain ⟨i,hi,rfl⟩:=List.getElem_of_mem ha
 obtain ⟨j,hj,rfl⟩:=List.getElem_of_mem hb
 have:(W.map f)[i]? = (W.map f)[j]?:=by simp [List.getElem?_map,List.getElem?_eq_getElem hi,List.getElem?_eq_getElem hj,he]
 have:=(List.getElem?_inj (by simpa using hi) h).1 this
 subst this
 rfl
structure DInv (s:DagN) (hs:List (List Nat)) (M:Bh) (R F:List (List Nat)):Prop where
 nodup:(s.names ++ s.waits).Nodup
 perm:(z5a M ++ (R ++ F)).Perm s.waits
 keys:(M.map (·.1)).Nodup
 wait:∀ q ∈ M,q.1 ∉ s.names ∧ ∀ m ∈ q.2,∃ o ∈ s.wait,z00 o = m ∧ q.1 ∈ o.preds
 free:∀ m ∈ F,∃ o ∈ s.wait,z00 o = m ∧ z1l s.names o = true
 closed:∀ o ∈ s.ops,∀ p ∈ o.preds,p ∈ s.names
 hnodup:hs.Nodup
 heads:∀ n,n ∈ hs ↔ n ∈ s.names ∧ ∀ o ∈ s.ops,n ∉ o.preds
section
variable {s:DagN} {hs:List (List Nat)} {M:Bh} {R F:List (List Nat)}
theorem DInv.new:DInv DagN.new [] [] [] []:=⟨List.nodup_nil,List.Perm.refl _,List.nodup_nil,(fun q hq=>by cases hq),(fun q hq=>by cases hq),(fun q hq=>by cases hq),List.nodup_nil,fun n=>by simp [DagN.new,DagN.names]⟩
theorem DInv.nodupN (h:DInv s hs M R F):s.names.Nodup:=(List.nodup_append.1 h.nodup).1
theorem DInv.nodupW (h:DInv s hs M R F):s.waits.Nodup:=(List.nodup_append.1 h.nodup).2.1
theorem DInv.apart (h:DInv s hs M R F) {n:List Nat} (h1:n ∈ s.names) (h2:n ∈ s.waits):False:=(List.nodup_append.1 h.nodup).2.2 n h1 n h2 rfl
theorem DInv.op (h:DInv s hs M R F) {m:List Nat} (hm:m ∈ R ++ F):∃ o ∈ s.wait,z00 o = m:=by
 have:m ∈ s.waits:=h.perm.mem_iff.1 (List.mem_append.2 (.inr hm))
 obtain ⟨o,ho,rfl⟩:=List.mem_map.1 this
 exact ⟨o,ho,rfl⟩
theorem DInv.one (h:DInv s hs M R F) {o p:OpN} (ho:o ∈ s.wait) (hp:p ∈ s.wait) (he:z00 o = z00 p):o = p:=z4a h.nodupW ho hp he
theorem DInv.permF {F':List (List Nat)} (h:DInv s hs M R F) (hp:F.Perm F'):DInv s hs M R F' :=
 ⟨h.nodup,((hp.symm.append_left R).append_left _).trans h.perm,h.keys,h.wait,fun m hm=>h.free m (hp.mem_iff.2 hm),h.closed,h.hnodup,h.heads⟩
theorem DInv.lenF (h:DInv s hs M R F):F.length ≤ s.wait.length:=by
 have:=h.perm.length_eq
 simp only [List.length_append,DagN.waits,List.length_map] at this
 omega
theorem DInv.step_wait {m p:List Nat} (h:DInv s hs M (m :: R) F) {o:OpN} (ho:o ∈ s.wait) (hn:z00 o = m) (hp:p ∈ o.preds) (hnot:p ∉ s.names):DInv s hs (z3c M p (atB M p ++ [m])) R F:=by
 refine ⟨h.nodup,?_,z7n h.keys _ _,?_,h.free,h.closed,h.hnodup,h.heads⟩
 ·refine ((zk8 h.keys p m).append_right _).trans (List.Perm.trans ?_ h.perm)
  rw [List.cons_append]
  exact (List.perm_middle (a:=m) (l₁:=z5a M) (l₂:=R ++ F)).symm
 ·intro q hq
  rcases mem_put h.keys hq with rfl | ⟨hq,_⟩
  ·refine ⟨hnot,fun x hx=>?_⟩
   rcases List.mem_append.1 hx with hx | hx
   ·obtain ⟨l,hl,hxl⟩:=atB_mem hx
    exact (h.wait _ hl).2 x hxl
   ·obtain rfl:=List.mem_singleton.1 hx
    exact ⟨o,ho,hn,hp⟩
  ·exact h.wait q hq
theorem DInv.step_free {m:List Nat} (h:DInv s hs M (m :: R) F) {o:OpN} (ho:o ∈ s.wait) (hn:z00 o = m) (hw:z1l s.names o = true):DInv s hs M R (m :: F):=by
 refine ⟨h.nodup,?_,h.keys,h.wait,?_,h.closed,h.hnodup,h.heads⟩
 ·refine List.Perm.trans ?_ h.perm
  refine List.Perm.append_left _ ?_
  exact List.perm_middle
 ·intro x hx
  rcases List.mem_cons.1 hx with rfl | hx
  ·exact ⟨o,ho,hn,hw⟩
  ·exact h.free x hx
theorem zgp {L L':List (List Nat)} {o:OpN} (h:z1l L o = true) (k:∀ x ∈ L,x ∈ L'):z1l L' o = true:=by
 rw [z1l,List.all_eq_true] at h ⊢
 intro p hp
 exact decide_eq_true (k p (of_decide_eq_true (h p hp)))
theorem wholeN_iff {L:List (List Nat)} {o:OpN}:z1l L o = true ↔ ∀ p ∈ o.preds,p ∈ L:=by
 rw [z1l,List.all_eq_true]
 exact ⟨fun h p hp=>of_decide_eq_true (h p hp),fun h p hp=>decide_eq_true (h p hp)⟩
theorem DInv.add {o:OpN} (h:DInv s hs M [] F) (hn:z00 o ∉ s.names) (hw:z00 o ∉ s.waits) (hwh:z1l s.names o = true) :
 DInv ⟨s.ops ++ [o],s.wait⟩ ((hs.filter fun n=>!decide (n ∈ o.preds)) ++ [z00 o]) (z5b M (z00 o)) (atB M (z00 o)) F:=by
 have hnames:DagN.names ⟨s.ops ++ [o],s.wait⟩ = s.names ++ [z00 o]:=by simp [DagN.names]
 have hwaits:DagN.waits ⟨s.ops ++ [o],s.wait⟩ = s.waits:=rfl
 have hwh2:=wholeN_iff.1 hwh
 refine ⟨?_,?_,zju h.keys _,?_,?_,?_,?_,?_⟩
 ·rw [hnames,hwaits]
  have:=h.nodup
  rw [List.nodup_append] at this ⊢
  refine ⟨List.nodup_append.2 ⟨this.1,by simp,fun a ha b hb e=>?_⟩,this.2.1,fun a ha b hb e=>?_⟩
  ·obtain rfl:=List.mem_singleton.1 hb
   exact hn (e ▸ ha)
  ·rcases List.mem_append.1 ha with ha | ha
   ·exact this.2.2 a ha b hb e
   ·obtain rfl:=List.mem_singleton.1 ha
    exact hw (e ▸ hb)
 ·rw [hwaits]
  refine List.Perm.trans ?_ h.perm
  rw [List.nil_append,← List.append_assoc]
  refine List.Perm.append_right _ ?_
  exact List.perm_append_comm.trans (zez h.keys _).symm
 ·intro q hq
  obtain ⟨hq1,hq2⟩:=mem_del.1 hq
  obtain ⟨h1,h2⟩:=h.wait q hq1
  refine ⟨?_,h2⟩
  rw [hnames,List.mem_append,List.mem_singleton,not_or]
  exact ⟨h1,hq2⟩
 ·intro m hm
  obtain ⟨p,h1,h2,h3⟩:=h.free m hm
  exact ⟨p,h1,h2,zgp h3 (fun x hx=>by rw [hnames];exact List.mem_append.2 (.inl hx))⟩
 ·intro x hx p hp
  rw [hnames]
  rcases List.mem_append.1 hx with hx | hx
  ·exact List.mem_append.2 (.inl (h.closed x hx p hp))
  ·obtain rfl:=List.mem_singleton.1 hx
   exact List.mem_append.2 (.inl (hwh2 p hp))
 ·refine List.nodup_append.2 ⟨List.filter_sublist.nodup h.hnodup,by simp,fun a ha b hb e=>?_⟩
  obtain rfl:=List.mem_singleton.1 hb
  exact hn (e ▸ ((h.heads a).1 (List.mem_filter.1 ha).1).1)
 ·intro n
  rw [hnames,List.mem_append,List.mem_filter,List.mem_singleton,List.mem_append,List.mem_singleton,h.heads n]
  simp only [Bool.not_eq_true',decide_eq_false_iff_not]
  constructor
  ·rintro (⟨⟨h1,h2⟩,h3⟩ | rfl)
   ·refine ⟨.inl h1,fun x hx=>?_⟩
    rcases List.mem_append.1 hx with hx | hx
    ·exact h2 x hx
    ·obtain rfl:=List.mem_singleton.1 hx
     exact h3
   ·refine ⟨.inr rfl,fun x hx hp=>?_⟩
    rcases List.mem_append.1 hx with hx | hx
    ·exact hn (h.closed x hx _ hp)
    ·obtain rfl:=List.mem_singleton.1 hx
     exact hn (hwh2 _ hp)
  ·rintro ⟨h1 | rfl,h2⟩
   ·exact .inl ⟨⟨h1,fun x hx=>h2 x (List.mem_append.2 (.inl hx))⟩,h2 o (by simp)⟩
   ·exact .inr rfl
theorem DInv.cover (h:DInv s hs M R F) {o:OpN} (ho:o ∈ s.wait) (hw:z1l s.names o = true):z00 o ∈ R ++ F:=by
 have hm:z00 o ∈ z5a M ++ (R ++ F):=h.perm.mem_iff.2 (List.mem_map.2 ⟨o,ho,rfl⟩)
 rcases List.mem_append.1 hm with hm | hm
 ·exfalso
  obtain ⟨q,hq,hmq⟩:=mem_flatB.1 hm
  obtain ⟨h1,h2⟩:=h.wait q hq
  obtain ⟨p,hp,he,hpp⟩:=h2 _ hmq
  obtain rfl:=h.one hp ho he
  exact h1 (wholeN_iff.1 hw _ hpp)
 ·exact hm
theorem DInv.best_none (h:DInv s hs M [] []):zc9 s.names s.wait = none:=by
 cases hb:zc9 s.names s.wait with
 | none=>rfl
 | some i =>
   obtain ⟨o,h1,h2,_⟩:=z56 _ _ hb
   have:=h.cover (List.mem_of_getElem? h1) h2
   cases this
theorem DInv.best (h:DInv s hs M [] F) {m:List Nat} (hm:m ∈ F) (hle:∀ x ∈ F,x = m ∨ z1t m x = -1):∃ i o,zc9 s.names s.wait = some i ∧ s.wait[i]? = some o ∧ z00 o = m ∧ z1l s.names o = true:=by
 obtain ⟨o,ho,hn,hw⟩:=h.free m hm
 obtain ⟨j,hj,hjo⟩:=List.getElem_of_mem ho
 cases hb:zc9 s.names s.wait with
 | none =>
   have:=Go.Proofs.YtnbldbbbibpobaaGreatDoor.best_none _ hb j o hj (by rw [List.getElem?_eq_getElem hj,hjo])
   rw [hw] at this
   cases this
 | some i =>
   obtain ⟨p,h1,h2,h3⟩:=z56 _ _ hb
   refine ⟨i,p,rfl,h1,?_,h2⟩
   have hp:z00 p ∈ F:=by simpa using h.cover (List.mem_of_getElem? h1) h2
   rcases h3 j o hj (by rw [List.getElem?_eq_getElem hj,hjo]) hw with e | e
   ·rw [← e,hn]
   ·rcases hle _ hp with e2 | e2
    ·exact e2
    ·rw [hn] at e
     exact (z58 e e2).elim
theorem za1 {W:List OpN} {i:Nat} {o p:OpN} (hi:W[i]? = some o) (hp:p ∈ W) (hne:z00 p ≠ z00 o):p ∈ W.eraseIdx i:=by
 rw [List.mem_eraseIdx_iff_getElem?]
 obtain ⟨j,hj,rfl⟩:=List.getElem_of_mem hp
 refine ⟨j,?_,List.getElem?_eq_getElem hj⟩
 rintro rfl
 rw [List.getElem?_eq_getElem hj] at hi
 cases hi
 exact hne rfl
theorem z7c {α:Type}:∀ {l:List α} {i:Nat} (h:i < l.length),(l[i] :: l.eraseIdx i).Perm l
 | a :: l,0,_=>List.Perm.refl _
 | a :: l,i + 1,h=>(List.Perm.swap _ _ _).trans ((z7c (l:=l) (i:=i) (by simpa using h)).cons a)
theorem DInv.pop {m:List Nat} (h:DInv s hs M [] (m :: F)) {i:Nat} {o:OpN} (hi:s.wait[i]? = some o) (hn:z00 o = m) :
 DInv ⟨s.ops,s.wait.eraseIdx i⟩ hs M [] F ∧ m ∉ s.names ∧ m ∉ DagN.waits ⟨s.ops,s.wait.eraseIdx i⟩:=by
 have hlt:=(List.getElem?_eq_some_iff.1 hi).1
 have hw:DagN.waits ⟨s.ops,s.wait.eraseIdx i⟩ = s.waits.eraseIdx i:=by
  simp only [DagN.waits]
  exact (ChangeMaps.map_eraseIdx z00 s.wait i)
 have hil:i < s.waits.length:=by simpa [DagN.waits] using hlt
 have hg:s.waits[i] = m:=by
  have:s.waits[i]? = some m:=by rw [DagN.waits,List.getElem?_map,hi,Option.map_some,hn]
  rw [List.getElem?_eq_getElem hil] at this
  exact Option.some.inj this
 have hp:(m :: s.waits.eraseIdx i).Perm s.waits:=hg ▸ z7c hil
 have hmn:m ∉ s.waits.eraseIdx i:=(List.nodup_cons.1 (hp.nodup_iff.2 h.nodupW)).1
 have hperm:(z5a M ++ ([] ++ F)).Perm (s.waits.eraseIdx i):=by
  refine List.Perm.cons_inv (a:=m) ?_
  refine List.Perm.trans ?_ (h.perm.trans hp.symm)
  exact List.perm_middle.symm
 refine ⟨⟨?_,by rw [hw];exact hperm,h.keys,?_,?_,h.closed,h.hnodup,h.heads⟩,fun e=>h.apart e (by rw [← hg];exact List.getElem_mem hil),by rw [hw];exact hmn⟩
 ·rw [hw]
  exact (List.Sublist.append_left (List.eraseIdx_sublist _ _) _).nodup h.nodup
 ·intro q hq
  obtain ⟨h1,h2⟩:=h.wait q hq
  refine ⟨h1,fun x hx=>?_⟩
  obtain ⟨p,hp1,hp2,hp3⟩:=h2 x hx
  refine ⟨p,za1 hi hp1 ?_,hp2,hp3⟩
  rw [hp2,hn]
  rintro rfl
  exact hmn (hperm.mem_iff.1 (List.mem_append.2 (.inl (mem_flatB.2 ⟨q,hq,hx⟩))))
 ·intro x hx
  obtain ⟨p,hp1,hp2,hp3⟩:=h.free x (List.mem_cons_of_mem _ hx)
  refine ⟨p,za1 hi hp1 ?_,hp2,hp3⟩
  rw [hp2,hn]
  rintro rfl
  exact hmn (hperm.mem_iff.1 (List.mem_append.2 (.inr (by simpa using hx))))
theorem DInv.come (h:DInv s hs M [] F) {o:OpN} (hn:z00 o ∉ s.names) (hw:z00 o ∉ s.waits) {p:List Nat} (hp:p ∈ o.preds) (hnot:p ∉ s.names) :
 DInv ⟨s.ops,s.wait ++ [o]⟩ hs (z3c M p (atB M p ++ [z00 o])) [] F:=by
 have hwaits:DagN.waits ⟨s.ops,s.wait ++ [o]⟩ = s.waits ++ [z00 o]:=by simp [DagN.waits]
 have h1:DInv ⟨s.ops,s.wait ++ [o]⟩ hs M [z00 o] F:=by
  refine ⟨?_,?_,h.keys,fun q hq=>⟨(h.wait q hq).1,fun m hm=>?_⟩,fun m hm=>?_,h.closed,h.hnodup,h.heads⟩
  ·rw [hwaits,show DagN.names ⟨s.ops,s.wait ++ [o]⟩ = s.names from rfl,← List.append_assoc]
   refine List.nodup_append.2 ⟨h.nodup,by simp,fun a ha b hb e=>?_⟩
   obtain rfl:=List.mem_singleton.1 hb
   subst e
   exact (List.mem_append.1 ha).elim hn hw
  ·rw [hwaits]
   refine List.Perm.trans ?_ (h.perm.append_right [z00 o])
   rw [List.nil_append,List.append_assoc]
   exact List.Perm.append_left _ (List.perm_append_singleton _ _).symm
  ·obtain ⟨x,hx,hx2⟩:=(h.wait q hq).2 m hm
   exact ⟨x,List.mem_append.2 (.inl hx),hx2⟩
  ·obtain ⟨x,hx,hx2⟩:=h.free m hm
   exact ⟨x,List.mem_append.2 (.inl hx),hx2⟩
 exact h1.step_wait (List.mem_append.2 (.inr (List.mem_singleton.2 rfl))) rfl hp hnot
end
theorem z9y {f:Nat} {s:DagN} (h:zc9 s.names s.wait = none):z0s f s = ([],s):=by
 cases f with
 | zero=>rfl
 | succ f=>rw [z0s,h]
theorem z9w {s:DagN} {i:Nat} {o:OpN} (h:zc9 s.names s.wait = some i) (ho:s.wait[i]? = some o) :
 z0s s.wait.length s = if o.depth = z1p s.ops o then
  (z00 o :: (z0s (s.wait.eraseIdx i).length ⟨s.ops ++ [o],s.wait.eraseIdx i⟩).1,(z0s (s.wait.eraseIdx i).length ⟨s.ops ++ [o],s.wait.eraseIdx i⟩).2)
  else z0s (s.wait.eraseIdx i).length ⟨s.ops,s.wait.eraseIdx i⟩:=by
 have hi:=zam h
 obtain ⟨f,hf⟩:∃ f,s.wait.length = f + 1:=⟨s.wait.length - 1,by omega⟩
 have hl:(s.wait.eraseIdx i).length = f:=by rw [List.length_eraseIdx,if_pos hi];omega
 rw [hf,hl,z0s,h]
 simp only [ho]
open Go.ChangeShapes Go.WideShapes
def Ids (L:List (List Nat)):Prop:=∀ x ∈ L,x.length = 32 ∧ ∀ y ∈ x,y < 256
theorem Ids.nil:Ids []:=fun x hx=>by cases hx
theorem Ids.getD {L:List (List Nat)} (h:Ids L) {i:Nat} (hi:i < L.length):(L.getD i []).length = 32 ∧ ∀ y ∈ L.getD i [],y < 256:=by
 rw [List.getD_eq_getElem?_getD,List.getElem?_eq_getElem hi]
 exact h _ (List.getElem_mem hi)
theorem Ids.append {L M:List (List Nat)} (h:Ids L) (k:Ids M):Ids (L ++ M):=fun x hx=>(List.mem_append.1 hx).elim (h x) (k x)
theorem Ids.one {x:List Nat} (h:x.length = 32) (k:∀ y ∈ x,y < 256):Ids [x]:=fun z hz=>by
 obtain rfl:=List.mem_singleton.1 hz
 exact ⟨h,k⟩
theorem Ids.take {L:List (List Nat)} (h:Ids L) (n:Nat):Ids (L.take n):=fun x hx=>h x (List.mem_of_mem_take hx)
theorem Ids.drop {L:List (List Nat)} (h:Ids L) (n:Nat):Ids (L.drop n):=fun x hx=>h x (List.mem_of_mem_drop hx)
def IAt (ao:Option Addr) (L:List (List Nat)) (w:World):Prop :=
 L = [] ∨ ∃ b o,ao = some ⟨b,o,none⟩ ∧ b < w.heap.size ∧ ∀ i,i < L.length → w.rangeAt b (o + 32 * i) (z07 .u8 (L.getD i []))
theorem IAt.below {ao:Option Addr} {L:List (List Nat)} {w w':World} (h:IAt ao L w) (hb:Below w.heap.size w w'):IAt ao L w':=by
 rcases h with h | ⟨b,o,h1,h2,h3⟩
 ·exact .inl h
 ·exact .inr ⟨b,o,h1,Nat.lt_of_lt_of_le h2 hb.size,fun i hi j v hv=>(hb.cell (p:=⟨b,o + 32 * i + j,none⟩) h2).trans (h3 i hi j v hv)⟩
theorem IAt.get {b o:Nat} {L:List (List Nat)} {w:World} (h:IAt (some ⟨b,o,none⟩) L w) {i:Nat} (hi:i < L.length):w.rangeAt b (o + i * 32) (z07 .u8 (L.getD i [])):=by
 rcases h with rfl | ⟨b',o',h1,_,h3⟩
 ·cases hi
 ·simp only [Option.some.injEq,Addr.mk.injEq] at h1
  obtain ⟨rfl,rfl,_⟩:=h1
  rw [Nat.mul_comm]
  exact h3 i hi
theorem IAt.some {ao:Option Addr} {L:List (List Nat)} {w:World} (h:IAt ao L w) (h0:0 < L.length):∃ b o,ao = some ⟨b,o,none⟩ ∧ b < w.heap.size:=by
 rcases h with rfl | ⟨b,o,h1,h2,_⟩
 ·cases h0
 ·exact ⟨b,o,h1,h2⟩
def z1o (L:List (List Nat)):List Value:=L.flatMap (z07 .u8)
theorem z1a {L:List (List Nat)} (h:Ids L):(z1o L).length = L.length * 32:=by
 induction L with
 | nil=>rfl
 | cons x L ih =>
   have h1:=(h x (by simp)).1
   have h2:=ih fun y hy=>h y (by simp [hy])
   simp only [z1o,List.flatMap_cons,List.length_append,z0y,List.length_cons] at *
   omega
theorem z2h (L M:List (List Nat)):z1o (L ++ M) = z1o L ++ z1o M:=by simp [z1o]
theorem zbs (L:List (List Nat)):∀ u ∈ z1o L,u.oneCell' = true:=by
 intro u hu
 simp only [z1o,List.mem_flatMap] at hu
 obtain ⟨x,_,hx⟩:=hu
 exact z5i .u8 x u hx
theorem z6y {L:List (List Nat)} (h:Ids L):∀ {i j:Nat},i < L.length → j < 32 → (z1o L)[32 * i + j]? = (z07 .u8 (L.getD i []))[j]?:=by
 induction L with
 | nil=>intro i j hi _;cases hi
 | cons x L ih =>
   intro i j hi hj
   have h1:=(h x (by simp)).1
   have hx:(z07 .u8 x).length = 32:=by rw [z0y,h1]
   rw [z1o,List.flatMap_cons]
   cases i with
   | zero=>rw [Nat.mul_zero,Nat.zero_add,List.getElem?_append_left (by omega)];rfl
   | succ i =>
     rw [List.getElem?_append_right (by omega),hx,show 32 * (i + 1) + j - 32 = 32 * i + j by omega]
     exact ih (fun y hy=>h y (by simp [hy])) (by simpa using hi) hj
def OwnI (B:Nat) (e:TypeId) (v:Value) (L:List (List Nat)) (w:World):Prop:=w.ownsRow B e 32 v L.length (z1o L)
theorem OwnI.nil (B:Nat) (e:TypeId) (w:World):OwnI B e (.slice none 0 0) [] w:=World.ownsRow_nil _ _ _ _
theorem OwnI.form {B:Nat} {e:TypeId} {v:Value} {L:List (List Nat)} {w:World} (h:OwnI B e v L w):∃ ao cap,v = .slice ao L.length cap:=by
 rcases h.2 with ⟨h1,h2⟩ | ⟨g,cap,_,h1,_⟩
 ·exact ⟨_,_,by rw [h1,h2]⟩
 ·exact ⟨_,_,h1⟩
theorem OwnI.formB {B:Nat} {e:TypeId} {v:Value} {L:List (List Nat)} {w:World} (h:OwnI B e v L w) (h0:0 < L.length):∃ g cap,v = .slice (some ⟨g,0,none⟩) L.length cap ∧ B ≤ g ∧ g < w.heap.size:=by
 rcases h.2 with ⟨_,h2⟩ | ⟨g,cap,cur,h1,h2,h3,_⟩
 ·omega
 ·exact ⟨g,cap,h1,h2,lt_of_block h3⟩
theorem OwnI.below {B:Nat} {e:TypeId} {v:Value} {L:List (List Nat)} {w w':World} (h:OwnI B e v L w) (b:Below w.heap.size w w'):OwnI B e v L w':=by
 refine ⟨h.1,?_⟩
 rcases h.2 with h2 | ⟨g,cap,cur,h1,h2,h3,h4⟩
 ·exact .inl h2
 ·exact .inr ⟨g,cap,cur,h1,h2,(b.block g (lt_of_block h3)).trans h3,h4⟩
theorem OwnI.mono {B B':Nat} {e:TypeId} {v:Value} {L:List (List Nat)} {w:World} (h:OwnI B e v L w) (hB:B' ≤ B):OwnI B' e v L w:=by
 refine ⟨h.1,?_⟩
 rcases h.2 with h2 | ⟨g,cap,cur,h1,h2,h3⟩
 ·exact .inl h2
 ·exact .inr ⟨g,cap,cur,h1,Nat.le_trans hB h2,h3⟩
theorem OwnI.but {B b:Nat} {e:TypeId} {v:Value} {L:List (List Nat)} {w w':World} (h:OwnI B e v L w) (hb:But b w w') (ap:∀ g,v.ownBlock = some g → b ≠ g):OwnI B e v L w':=by
 refine ⟨h.1,?_⟩
 rcases h.2 with h2 | ⟨g,cap,cur,h1,h2,h3,h4⟩
 ·exact .inl h2
 ·exact .inr ⟨g,cap,cur,h1,h2,(hb.block g (lt_of_block h3) (fun e=>ap g (by rw [h1];rfl) e.symm)).trans h3,h4⟩
theorem OwnI.at {B:Nat} {e:TypeId} {ao:Option Addr} {n c:Nat} {L:List (List Nat)} {w:World} (h:OwnI B e (.slice ao n c) L w) (hL:Ids L):IAt ao L w:=by
 by_cases h0:L = []
 ·exact .inl h0
 ·obtain ⟨g,cap,hv,_,hg⟩:=h.formB (List.length_pos_iff.2 h0)
  obtain rfl:ao = some ⟨g,0,none⟩:=by injection hv
  refine .inr ⟨g,0,rfl,hg,fun i hi j v hj=>?_⟩
  have hc:=World.ownsRow.cells h (g:=g) rfl (32 * i + j) v
  have hj16:j < 32:=by
   have:=(List.getElem?_eq_some_iff.1 hj).1
   rw [z0y,(hL.getD hi).1] at this
   exact this
  rw [z6y hL hi hj16,Addr.add_lit,Nat.zero_add] at hc
  rw [Nat.zero_add]
  exact hc hj
theorem z9m {P:Program} {w:World} {ops:Array Oper} {rest:List Oper} {o:Oper} {a:Act} {Q:Exit → Act → World → Prop} (hgd:o.guard = none) (s x:Operand) (t e:TypeId)
 (ho:o.op = .call { callee:=.builtin .append,args:=#[s,x],argTypes:=#[t,t] })
 (B:Nat) (z:Value) (hzs:z.cells.size = 32) (ht:P.underlying t = some (.slice e)) (hinfo:(P.info? e).map (fun i=>(i.zero,i.size,i.bytes)) = some (some z,32,32))
 (v:Value) (L M:List (List Nat)) (hM:Ids M) (ad:Addr) (n c:Nat) (hn:n = M.length) (hs:a.eval s = v) (hown:OwnI B e v L w) (hx:a.eval x = .slice (some ad) n c) (hnews:∀ j u,(z1o M)[j]? = some u → w.cell? (ad.add j) = some u)
 (h63:L.length + M.length ≤ 4398046511104) (hB:B ≤ w.heap.size)
 (h:∀ v' w',Hid (OwnI B e v' (L ++ M) w') → Hid (Below B w w') → wpList P ops Q rest (a.put o.dst v') w'):wpList P ops Q (o :: rest) a w:=by
 obtain ⟨i,hi,hz0,hz1,hz2⟩:=info_parts hinfo
 subst hn
 refine wpList_append_own_at w hgd s x _ ho B e i z 32 32 ht hi hz0 hz1 hz2 hzs (by decide) v L.length (z1o L) hs hown ad M.length c (z1o M) hx (z1a hM) hnews (zbs M) (by unfold maxLen;omega) (by omega) hB ?_
 intro v' w' h2 hg _ _
 refine h v' w' ?_ ((Below.refl B w).grown hg hB (fun k hk=>(World.ownsRow.lt hown k hk).1))
 show w'.ownsRow B e 32 v' (L ++ M).length (z1o (L ++ M))
 rw [List.length_append,z2h]
 exact h2
theorem z0a {P:Program} {ops:Array Oper} {rest:List Oper} {o:Oper} {a:Act} {w:World} {Q:Exit → Act → World → Prop} (hgd:o.guard = none) (ty:TypeId) (x:Operand) (ho:o.op = .load ty x)
 (b off:Nat) (l:List Nat) (d:TypeDesc) (hx:a.eval x = .pointer (some ⟨b,off,none⟩)) (hc:w.rangeAt b off (z07 .u8 l))
 (hu:P.underlying ty = some d) (hd:d.isRow = true) (hi:(P.info? ty).map (·.size) = some l.length)
 (h:wpList P ops Q rest (a.put o.dst (.agg (z07 .u8 l).toArray)) w):wpList P ops Q (o :: rest) a w :=
 wpList_load_mid hgd ty x ho b off hx _ d hc hu hd (by rw [z0y];exact hi) h
theorem z0i {P:Program} {o:Oper} {a:Act} {C:World → Prop} {K:Act → Prop} (ty:TypeId) (x:Operand) (ho:o.op = .load ty x) (b off:Nat) (l:List Nat) (d:TypeDesc)
 (hx:a.eval x = .pointer (some ⟨b,off,none⟩)) (hC:∀ w,C w → w.rangeAt b off (z07 .u8 l)) (hu:P.underlying ty = some d) (hd:d.isRow = true) (hi:(P.info? ty).map (·.size) = some l.length)
 (hk:K (a.put o.dst (.agg (z07 .u8 l).toArray))):o.quiet P a C K:=by
 refine ⟨_,fun w hw=>?_,hk⟩
 unfold Oper.quietAt execOp
 simp only [ho,hx,Instr.loadAt,Instr.sureAddr,Sem.run_bind,Sem.run_pure,Result.andThen_ok,run_loadVar_mid w b off ty _ d (hC w hw) hu hd (by rw [z0y];exact hi)]
 exact ⟨rfl,rfl⟩
theorem z9f {P:Program} {o:Oper} {a:Act} {w:World} {K:Act → World → Prop} {Q:Exit → Act → World → Prop} (ty:TypeId) (x:Operand) (ho:o.op = .load ty x) (b off:Nat) (l:List Nat) (d:TypeDesc)
 (hx:a.eval x = .pointer (some ⟨b,off,none⟩)) (hc:w.rangeAt b off (z07 .u8 l)) (hu:P.underlying ty = some d) (hd:d.isRow = true) (hi:(P.info? ty).map (·.size) = some l.length)
 (h:K (a.put o.dst (.agg (z07 .u8 l).toArray)) w):OpWp P o a w K Q:=by
 refine ⟨?_⟩
 unfold Oper.wp execOp
 simp only [ho,hx,Instr.loadAt,Instr.sureAddr,Sem.run_bind,Sem.run_pure,Result.andThen_ok,run_loadVar_mid w b off ty _ d hc hu hd (by rw [z0y];exact hi)]
 exact h
theorem zbe {H:Type} {enc:TypeId × Value → H} {P:Program} {W:World} {t e:TypeId} {n base fuel:Nat} {sp:Nat → Bool} {held:Bool} {cs:List Value} {x:DataW H × List MemPlace}
 (hu:P.underlying t = some (.array n e)) (he:P.underlying e = some (.int .u8)) (hone:P.cellsOf e = 1) (hsz:P.cellsOf t = n) (h:DataW.trod enc P W base sp held fuel t cs = some x) :
 ∃ l:List Nat,cs = z07 .u8 l ∧ l.length = n ∧ ∀ y ∈ l,y < 256:=by
 obtain ⟨xs,m,_,_,hcl,hxl,hat⟩:=DataW.trod_array hu h
 rw [hsz] at hcl
 have key:∀ i,i < n → ∃ z:Int,cs[i]? = some (.int .u8 z) ∧ 0 ≤ z ∧ z ≤ 255:=by
  intro i hi
  have h1:=hat i hi
  rw [hone,Nat.mul_one,List.getElem?_eq_getElem (by omega)] at h1
  obtain ⟨z,hz,_,hw⟩:=DataW.trod_int he h1
  refine ⟨z,?_,?_⟩
  ·have:=congrArg (fun l=>l[0]?) hz
   simpa [List.getElem?_drop,List.getElem?_take] using this
  ·simp only [Lit.wf,Bool.and_eq_true,decide_eq_true_eq] at hw
   exact ⟨hw.1,hw.2⟩
 refine ⟨cs.map fun v=>(intOf v).toNat,?_,by simp [hcl],?_⟩
 ·refine List.ext_getElem? fun i=>?_
  rw [z07,List.getElem?_map,List.getElem?_map]
  rcases Nat.lt_or_ge i n with hi | hi
  ·obtain ⟨z,h1,h2,h3⟩:=key i hi
   rw [h1]
   simp [intOf]
   omega
  ·rw [List.getElem?_eq_none (by omega)]
   rfl
 ·intro y hy
  obtain ⟨v,hv,rfl⟩:=List.mem_map.1 hy
  obtain ⟨i,hi,rfl⟩:=List.mem_iff_getElem.1 hv
  obtain ⟨z,h1,h2,h3⟩:=key i (by omega)
  rw [List.getElem?_eq_getElem hi] at h1
  obtain h1:=Option.some.inj h1
  rw [h1]
  simp [intOf]
  omega
theorem zfb {H:Type} {enc:TypeId × Value → H} {P:Program} {W:World} {v:Value} {fuel:Nat} {x:DataW H × List MemPlace} {t e u:TypeId}
 (ht:P.underlying t = some (.slice e)) (hu:P.underlying e = some (.array 32 u)) (he:P.underlying u = some (.int .u8)) (hone:P.cellsOf u = 1) (hsz:P.cellsOf e = 32) (hb16:P.bytesOf e = 32)
 (hf:DataW.trod enc P W 0 (fun _=>true) true fuel t [v] = some x) (hwt:∀ n ∈ DataW.weights P t x.1,n ≤ 140737488351232) :
 ∃ (ao:Option Addr) (L:List (List Nat)) (cap:Nat),v = .slice ao L.length cap ∧ IAt ao L W ∧ Ids L ∧ L.length ≤ 4398046510976 ∧ (ao = none → cap = 0):=by
 rcases Deep.open_slice ht hf with ⟨hcs,_⟩ | ⟨x0,len0,cap0,m,n,D,Pl,hcs,_,hl,hm,hmm,hx,hi⟩
 ·simp only [List.cons.injEq,and_true] at hcs
  subst hcs
  exact ⟨none,[],0,rfl,Or.inl rfl,Ids.nil,by simp,fun _=>rfl⟩
 ·simp only [List.cons.injEq,and_true] at hcs
  subst hcs
  simp only [if_true] at hmm
  subst hmm
  rw [hsz] at hi
  have hd:x.1 = .slice ((List.range len0).map D) ((List.range (m - len0)).map fun j=>D (len0 + j)):=congrArg Prod.fst hx
  rw [hd] at hwt
  simp only [DataW.weights,ht] at hwt
  have hwn:=hwt _ (List.mem_cons_self ..)
  rw [hb16] at hwn
  simp only [List.length_map,List.length_range] at hwn
  have hE:∀ i,i < m → ∃ l:List Nat,(l.length = 32 ∧ ∀ y ∈ l,y < 256) ∧ ∀ j y,(z07 .u8 l)[j]? = some y → W.cell? ((x0.add (i * 32)).add j) = some y:=by
   intro i him
   obtain ⟨cs',hc,htr⟩:=hi i him
   obtain ⟨_,hcl,hat⟩:=World.cells?_some hc
   obtain ⟨l,rfl,h1,h2⟩:=zbe hu he hone hsz htr
   refine ⟨l,⟨h1,h2⟩,fun j y hj=>?_⟩
   have hj16:j < 32:=by
    have:=(List.getElem?_eq_some_iff.1 hj).1
    rw [z0y,h1] at this
    exact this
   rw [hat j hj16]
   exact hj
  let F:Nat → List Nat:=fun i=>if h:i < m then (hE i h).choose else []
  have hF:∀ i,i < m → ((F i).length = 32 ∧ ∀ y ∈ F i,y < 256) ∧ ∀ j y,(z07 .u8 (F i))[j]? = some y → W.cell? ((x0.add (i * 32)).add j) = some y:=by
   intro i him
   show ((if h:i < m then (hE i h).choose else []).length = 32 ∧ _) ∧ _
   simp only [F,dif_pos him]
   exact (hE i him).choose_spec
  have hlen:((List.range len0).map F).length = len0:=by simp
  refine ⟨some x0,(List.range len0).map F,m,by rw [hlen],?_,?_,by rw [hlen];omega,fun h=>by cases h⟩
  ·by_cases h0:len0 = 0
   ·subst h0;exact Or.inl rfl
   ·have h1:=hF 0 (by omega)
    obtain ⟨b,o,spot⟩:=x0
    have hc0:=h1.2 0 ((z07 .u8 (F 0))[0]'(by rw [z0y,h1.1.1];decide)) (List.getElem?_eq_getElem _)
    have hspot:spot = none:=by simpa [Addr.add] using World.cell?_spot hc0
    subst hspot
    refine Or.inr ⟨b,o,rfl,?_,fun i hi2 j y hj=>?_⟩
    ·have:=block_lt_of_cell hc0
     simpa [Addr.add] using this
    ·rw [hlen] at hi2
     have hg:((List.range len0).map F).getD i [] = F i:=by rw [List.getD_eq_getElem?_getD,List.getElem?_map,List.getElem?_range hi2];rfl
     rw [hg] at hj
     have:=(hF i (by omega)).2 j y hj
     rw [Addr.add_mid,Addr.add_mid] at this
     rw [Nat.mul_comm 32 i]
     exact this
  ·intro z hz
   obtain ⟨i,hi2,rfl⟩:=List.mem_map.1 hz
   exact (hF i (by have:=List.mem_range.1 hi2;omega)).1
theorem Ids.set {L:List (List Nat)} (h:Ids L) (i:Nat) {x:List Nat} (hx:x.length = 32) (lx:∀ y ∈ x,y < 256):Ids (L.set i x):=fun z hz=>by
 rcases List.mem_or_eq_of_mem_set hz with hz | rfl
 ·exact h z hz
 ·exact ⟨hx,lx⟩
def zj2 (xs:List Value):Nat → List Value → List Value
 | _,[]=>xs
 | o,v :: r=>zj2 (xs.set o v) (o + 1) r
theorem zfg:∀ (vs:List Value) (xs:List Value) (o j:Nat),o + vs.length ≤ xs.length → (zj2 xs o vs)[j]? = if o ≤ j ∧ j < o + vs.length then vs[j - o]? else xs[j]?
 | [],xs,o,j,_=>by rw [zj2,if_neg (by simp only [List.length_nil];omega)]
 | v :: r, xs, o, j, h => by
   simp only [List.length_cons] at h ⊢
   rw [zj2,zfg r (xs.set o v) (o + 1) j (by rw [List.length_set];omega)]
   by_cases h1:o + 1 ≤ j ∧ j < o + 1 + r.length
   ·rw [if_pos h1,if_pos (by omega),show j - o = (j - (o + 1)) + 1 by omega,List.getElem?_cons_succ]
   ·rw [if_neg h1]
    by_cases h2:j = o
    ·subst h2
     rw [if_pos (by omega),Nat.sub_self,List.getElem?_set_self (by omega)]
     rfl
    ·rw [if_neg (by omega),List.getElem?_set_ne (by omega)]
theorem zkd {L:List (List Nat)} (hL:Ids L) {i:Nat} (hi:i < L.length) {x:List Nat} (hx:x.length = 32) (lx:∀ y ∈ x,y < 256):z1o (L.set i x) = zj2 (z1o L) (32 * i) (z07 .u8 x):=by
 have hnx:(z07 .u8 x).length = 32:=by rw [z0y,hx]
 have hfl:=z1a hL
 have hS:=hL.set i hx lx
 have hfs:=z1a hS
 rw [List.length_set] at hfs
 refine List.ext_getElem? fun j=>?_
 rw [zfg _ _ _ _ (by rw [hnx,hfl];omega),hnx]
 rcases Nat.lt_or_ge j (L.length * 32) with hj | hj
 ·obtain ⟨q,m,rfl,hm⟩:∃ q m,j = 32 * q + m ∧ m < 32:=⟨j / 32,j % 32,by omega,Nat.mod_lt _ (by decide)⟩
  rw [z6y hS (by rw [List.length_set];omega) hm,z6y hL (by omega) hm]
  by_cases hq:q = i
  ·subst hq
   rw [if_pos (by omega),show 32 * q + m - 32 * q = m by omega]
   simp [List.getD_eq_getElem?_getD,List.getElem?_set_self hi]
  ·rw [if_neg (by omega)]
   simp [List.getD_eq_getElem?_getD,List.getElem?_set_ne (Ne.symm hq)]
 ·rw [if_neg (by omega),List.getElem?_eq_none (by omega),List.getElem?_eq_none (by omega)]
theorem z9v {B g n c size:Nat} {e:TypeId}:∀ (vs xs:List Value) (o:Nat) (w:World),w.ownsRow B e size (.slice (some ⟨g,0,none⟩) n c) n xs → (w.setCells g o vs).ownsRow B e size (.slice (some ⟨g,0,none⟩) n c) n (zj2 xs o vs)
 | [],_,_,_,h=>h
 | v :: r,_,o,_,h=>z9v r _ (o + 1) _ (World.ownsRow.stored h o v).1
theorem OwnI.set {B g n c i:Nat} {e:TypeId} {L:List (List Nat)} {w:World} (hn:n = L.length) (h:OwnI B e (.slice (some ⟨g,0,none⟩) n c) L w) (hL:Ids L) (hi:i < n) {x:List Nat} (hx:x.length = 32) (lx:∀ y ∈ x,y < 256) :
 OwnI B e (.slice (some ⟨g,0,none⟩) n c) (L.set i x) (w.setCells g (32 * i) (z07 .u8 x)):=by
 subst hn
 have h1:=z9v (z07 .u8 x) _ (32 * i) w h
 unfold OwnI
 rw [List.length_set,zkd hL hi hx lx]
 exact h1
theorem OwnI.there {B g n c i:Nat} {e:TypeId} {L:List (List Nat)} {w:World} (hn:n = L.length) (h:OwnI B e (.slice (some ⟨g,0,none⟩) n c) L w) (hL:Ids L) (hi:i < n):w.there g (32 * i) 32:=by
 subst hn
 intro j hj
 exact ⟨by rw [World.ownsRow.cellAt h (32 * i + j) (by omega),List.getElem?_eq_getElem (by rw [z1a hL];omega)];rfl,World.ownsRow.frozenAt h (32 * i + j)⟩
theorem But.setCellsI {b:Nat} {w:World}:∀ (vs:List Value) (o:Nat) (w':World),But b w w' → But b w (w'.setCells b o vs)
 | [],_,_,h=>h
 | v :: r,o,_,h=>But.setCellsI r (o + 1) _ (h.setCell o v)
theorem z2o {P:Program} {w:World} {ops:Array Oper} {rest:List Oper} {o:Oper} {a:Act} {Q:Exit → Act → World → Prop} (hgd:o.guard = none) (ty:TypeId) (x y:Operand) (ho:o.op = .store ty x y) (hd:o.dst = none)
 (B g n c i off:Nat) (e:TypeId) (L:List (List Nat)) (l:List Nat) (hn:n = L.length) (hoff:off = 32 * i) (hx:a.eval x = .pointer (some ⟨g,off,none⟩)) (hy:a.eval y = .agg (z07 .u8 l).toArray)
 (hO:OwnI B e (.slice (some ⟨g,0,none⟩) n c) L w) (hL:Ids L) (hi:i < n) (hl:l.length = 32) (ll:∀ y ∈ l,y < 256) (hty:(P.info? ty).map (·.size) = some 32)
 (h:∀ w',Hid (OwnI B e (.slice (some ⟨g,0,none⟩) n c) (L.set i l) w') → Hid (But g w w') → wpList P ops Q rest a w'):wpList P ops Q (o :: rest) a w:=by
 subst hoff
 have hs:(z07 .u8 l).toArray.size = 32:=by rw [List.size_toArray,z0y,hl]
 refine wpList_store_mid hgd ty x y ho g (32 * i) _ hx hy (by rw [hs];exact hO.there hn hL hi) (by rw [hs];exact hty) (all_oneCell_toArray (z5i _ _)) ?_
 rw [hd]
 refine h _ ?_ ?_
 ·exact (hO.set hn hL hi hl ll)
 ·exact (But.setCellsI _ _ _ (But.refl _ _))
theorem z08 {b o B:Nat} {cs:List Value} {w w':World} (h:w.rangeAt b o cs) (hb:Below B w w') (hB:b < B):w'.rangeAt b o cs:=fun j v hv=>(hb.cell (p:=⟨b,o + j,none⟩) hB).trans (h j v hv)
theorem Tryz.infoI32:(Tryz.prog.info? 25).map (fun i=>(i.zero,i.size,i.bytes)) = some (some (.agg (z07 .u8 (List.replicate 32 0)).toArray),32,32):=by kernel_rfl
theorem z13 {P:Program} {ops:Array Oper} {rest:List Oper} {o:Oper} {a:Act} {w:World} {Q:Exit → Act → World → Prop} (hg:o.guard = none) (t e:TypeId) (x:Operand) (ho:o.op = .buildSlice t 1 #[(0,x)])
 (l:List Nat) (hx:a.eval x = .agg (z07 .u8 l).toArray) (hl:l.length = 32) (ht:P.underlying t = some (.slice e)) (hinfo:(P.info? e).map (fun i=>(i.zero,i.size,i.bytes)) = some (some (.agg (z07 .u8 (List.replicate 32 0)).toArray),32,32))
 (h:∀ w',Hid (Blk w.heap.size e .u8 l w') → Hid (Below w.heap.size w w') → wpList P ops Q rest (a.put o.dst (.slice (some ⟨w.heap.size,0,none⟩) 1 1)) w'):wpList P ops Q (o :: rest) a w:=by
 obtain ⟨ie,hi,hz0,hz1,_⟩:=info_parts hinfo
 refine wpList_buildSlice hg t e 1 #[(0,x)] ho (z07 .u8 l).toArray ie _ ht hi hz0 (by rw [hz1];decide) (by rw [hz1];decide) ?_ (h _ (heap_alloc_new w _) ((Below.refl _ w).alloc (Nat.le_refl _) _))
 rw [hz1]
 have h1:=Great.fill_whole (s:=32) (by decide) [Value.agg (z07 .u8 l).toArray] ((Array.range (1 * 32)).map ((Value.agg (z07 .u8 (List.replicate 32 0)).toArray).cells[· % (Value.agg (z07 .u8 (List.replicate 32 0)).toArray).cells.size]!))
  (fun v hv=>by obtain rfl:=List.mem_singleton.1 hv;show (z07 .u8 l).toArray.size = 32;rw [List.size_toArray,z0y,hl]) (by simp)
 have e1:((#[(0,x)]:Array (Nat × Operand)).map fun (i,x)=>(i,a.eval x)).toList = ([Value.agg (z07 .u8 l).toArray].zipIdx 0).map fun x=>(x.2,x.1):=by
  simp [hx,List.zipIdx_cons]
 have e2:([Value.agg (z07 .u8 l).toArray].flatMap fun v=>v.cells.toList).toArray = (z07 .u8 l).toArray:=by
  rw [List.flatMap_cons,List.flatMap_nil,List.append_nil]
  rfl
 rw [e1,h1,e2]
theorem z40 (a b:List Nat) (ha:a.length = 32) (hb:b.length = 32) (la:∀ x ∈ a,x < 256) (lb:∀ x ∈ b,x < 256) (w:World) :
 (Op.equalIn 10000 25 (.agg (z07 .u8 a).toArray) (.agg (z07 .u8 b).toArray)).run Tryz.prog w = .ok (a == b) w :=
 zjb _ _ _ Tryz.underlying25 Tryz.underlying5 Tryz.sizeOf5 a b ha hb la lb w
end Go.Proofs.YtnbldbbbibpobaaGreatDoor
namespace Go.Proofs.YtnbldbbbibpobaaGreatDoor
open Go.RowKit
structure Only (O:Nat → Prop) (w w':World):Prop where
 os:w'.os = w.os
 tape:w'.tape = w.tape
 output:w'.output = w.output
 size:w.heap.size ≤ w'.heap.size
 block:∀ k,k < w.heap.size → ¬ O k → w'.heap[k]? = w.heap[k]?
theorem Only.refl (O:Nat → Prop) (w:World):Only O w w:=⟨rfl,rfl,rfl,Nat.le_refl _,fun _ _ _=>rfl⟩
theorem Only.below {O:Nat → Prop} {w w1 w2:World} (h:Only O w w1) (k:Below w1.heap.size w1 w2):Only O w w2 :=
 ⟨k.os.trans h.os,k.tape.trans h.tape,k.output.trans h.output,Nat.le_trans h.size k.size,fun i hi hO=>(k.block i (Nat.lt_of_lt_of_le hi h.size)).trans (h.block i hi hO)⟩
theorem Only.of {O:Nat → Prop} {w w':World} (h:Below w.heap.size w w'):Only O w w':=(Only.refl O w).below h
theorem Only.but {O:Nat → Prop} {b:Nat} {w w1 w2:World} (h:Only O w w1) (k:But b w1 w2) (hb:O b ∨ w.heap.size ≤ b):Only O w w2 :=
 ⟨k.os.trans h.os,k.tape.trans h.tape,k.output.trans h.output,Nat.le_trans h.size k.size,fun i hi hO=>(k.block i (Nat.lt_of_lt_of_le hi h.size) (fun e=>by
  subst e
  rcases hb with hb | hb
  ·exact hO hb
  ·omega)).trans (h.block i hi hO)⟩
theorem Only.grown {O:Nat → Prop} {row:Option Nat} {w w1 w2:World} (h:Only O w w1) (k:w1.grownBy w2 row) (hr:∀ b,row = some b → O b ∨ w.heap.size ≤ b):Only O w w2 :=
 ⟨k.os.trans h.os,k.tape.trans h.tape,k.output.trans h.output,Nat.le_trans h.size k.size,fun i hi hO=>(k.block i (Nat.lt_of_lt_of_le hi h.size) (fun e=>by
  rcases hr i e.symm with hb | hb
  ·exact hO hb
  ·omega)).trans (h.block i hi hO)⟩
theorem Only.setCell {O:Nat → Prop} {w w1:World} (h:Only O w w1) {b:Nat} (o:Nat) (v:Value) (hb:O b ∨ w.heap.size ≤ b):Only O w (w1.setCell ⟨b,o,none⟩ v):=h.but ((But.refl b w1).setCell o v) hb
theorem Only.trans {O O':Nat → Prop} {w1 w2 w3:World} (h:Only O w1 w2) (k:Only O' w2 w3) (ho:∀ b,O' b → O b ∨ w1.heap.size ≤ b):Only O w1 w3 :=
 ⟨k.os.trans h.os,k.tape.trans h.tape,k.output.trans h.output,Nat.le_trans h.size k.size,fun i hi hO=>(k.block i (Nat.lt_of_lt_of_le hi h.size) (fun e=>by
  rcases ho i e with hb | hb
  ·exact hO hb
  ·omega)).trans (h.block i hi hO)⟩
theorem Only.toBelow {O:Nat → Prop} {B:Nat} {w0 w w':World} (h0:Below B w0 w) (h:Only O w w') (hO:∀ b,O b → B ≤ b) (hB:B ≤ w.heap.size):Below B w0 w' :=
 h0.trans ⟨h.os,h.tape,h.output,h.size,fun k hk=>h.block k (Nat.lt_of_lt_of_le hk hB) (fun e=>by have:=hO k e;omega)⟩
structure Turn (O O':Nat → Prop) (w w':World):Prop where
 only:Only O w w'
 own:∀ b,O' b → O b ∨ w.heap.size ≤ b
theorem Turn.refl (O:Nat → Prop) (w:World):Turn O O w w:=⟨Only.refl O w,fun _ h=>.inl h⟩
theorem Turn.trans {O O' O'':Nat → Prop} {w1 w2 w3:World} (h:Turn O O' w1 w2) (k:Turn O' O'' w2 w3):Turn O O'' w1 w3 :=
 ⟨h.only.trans k.only h.own,fun b hb=>by
  rcases k.own b hb with h1 | h1
  ·exact h.own b h1
  ·exact .inr (Nat.le_trans h.only.size h1)⟩
theorem Turn.below {O O':Nat → Prop} {w1 w2 w3:World} (h:Turn O O' w1 w2) (k:Below w2.heap.size w2 w3):Turn O O' w1 w3:=⟨h.only.below k,h.own⟩
theorem Turn.of {O:Nat → Prop} {w w':World} (k:Below w.heap.size w w'):Turn O O w w':=(Turn.refl O w).below k
theorem Cells.only {O:Nat → Prop} {b:Nat} {t:TypeId} {cs:Array Value} {w w':World} (h:Cells b t cs w) (k:Only O w w') (hb:¬ O b):Cells b t cs w':=(k.block b h.lt hb).trans h
theorem Cells.set {g:Nat} {t:TypeId} {cs:Array Value} {w:World} (h:Cells g t cs w) (j:Nat) (u:Value):Cells g t (cs.setIfInBounds j u) (w.setCell ⟨g,j,none⟩ u):=z3a h
theorem Cells.at {g:Nat} {t:TypeId} {cs:Array Value} {w:World} (h:Cells g t cs w) (j:Nat):w.cell? ⟨g,j,none⟩ = cs[j]?:=Lib.cell_of_heap h j
theorem Cells.frozen {g:Nat} {t:TypeId} {cs:Array Value} {w:World} (h:Cells g t cs w) (j:Nat):w.frozen? ⟨g,j,none⟩ = false:=by
 have h':w.heap[g]? = some (.cells cs t (0,0)):=h
 simp [World.frozen?,h']
theorem conv_in {P:Program} {src dst e:TypeId} (hs:P.underlying src = some (.slice e)) (he:P.underlying e = some (.int .u8)) (hd:P.underlying dst = some .string) {ao:Option Addr} {c:Nat} {b:List UInt8} {w:World} (h:NumsAt ao .u8 (z15 b) w) :
 (convert src dst (.slice ao b.length c)).run P w = .ok (.string ⟨b.toArray⟩) w:=by
 rcases h with h | ⟨g,o,rfl,_,hc⟩
 ·obtain rfl:b = []:=by simpa [z15] using h
  rw [run_convert_bytes_string w src dst e _ _ c hs he hd]
  cases ao <;> simp [Conv.bytesToString,loadCells]
  all_goals rfl
 ·refine run_convert_bytes_back w src dst e ⟨g,o,none⟩ c b hs he hd (fun j hj=>?_)
  rw [Addr.add_mid]
  have:=hc j (by rw [z10];exact hj)
  rw [this]
  simp [z15]
theorem zcl {P:Program} {o:Oper} {a:Act} {C:World → Prop} {K:Act → Prop} (t u:TypeId) (x:Operand) (ho:o.op = .convert t u x) (v r:Value) (hx:a.eval x = v)
 (hC:∀ w,C w → (convert t u v).run P w = .ok r w) (hk:K (a.put o.dst r)):o.quiet P a C K:=by
 refine ⟨_,fun w hw=>?_,hk⟩
 unfold Oper.quietAt execOp
 simp only [ho,hx,Sem.run_bind,hC w hw,Result.andThen_ok,Sem.run_pure]
 exact ⟨rfl,rfl⟩
end Go.Proofs.YtnbldbbbibpobaaGreatDoor
