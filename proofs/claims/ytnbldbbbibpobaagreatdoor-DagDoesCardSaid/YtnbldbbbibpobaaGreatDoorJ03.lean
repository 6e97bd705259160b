/-
  Joined: Regions whose order is open: laws; what every layer over digests wants.; Rows of elements of thirty-two bytes: what lies there, what is pushed, stored and read; a slice of arrays that came in.; Objects that live in memory of their own: what a call turns (Only), what it owns behind it (Turn); rows of values of one cell (RowV).
-/
import Derived.Deep.MidRow
import Derived.Deep.Quiet
import Derived.Deep.Slices
import Derived.Great.BuildSlice
import Derived.Laws.BytesString
import Derived.Laws.ResultCell
import Derived.OpenShut
import Derived.StillTail
import Derived.Test.YtnbldbbbibpobaaGreatDoorJ01
namespace Go.Proofs.YtnbldbbbibpobaaGreatDoor
open Go.RowKit
section
variable {P:Program} {ops:Array Oper} {md:Region.Mode} {C:World → Prop}
def zcy (P:Program) (md:Region.Mode) (ops:Array Oper) (C:World → Prop) (n:Nat) (L:Array Bool → Act → Prop):Nat → Array Bool → Act → Prop
 | 0,seen,a=>L seen a
 | f + 1,seen,a=>Region.ready md ops seen ≠ [] ∧ ∀ i,i ∈ Region.ready md ops seen → i < n ∧ qOp P ops C i (zcy P md ops C n L f (seen.setIfInBounds i true)) a
theorem zbj {n g:Nat} {L:Array Bool → Act → Prop} {Q:Exit → Act → World → Prop} (hL:∀ seen a w,C w → L seen a → wpAny P md ops Q g seen a w) (f:Nat) :
 ∀ (seen:Array Bool) (a:Act) (w:World),C w → zcy P md ops C n L f seen a → wpAny P md ops Q (f + g) seen a w:=by
 induction f with
 | zero=>intro seen a w hw h;rw [Nat.zero_add];exact hL seen a w hw h
 | succ f ih =>
   intro seen a w hw h
   rw [Nat.add_right_comm]
   exact ⟨fun e=>(h.1 e).elim,fun i hi=>wpOp_of_qOp hw (fun a' w' hw' h'=>ih _ a' w' hw' h') (h.2 i hi).2⟩
theorem zcp {n i:Nat} {o:Oper} {v:Value} {L:Array Bool → Act → Prop} (ho:ops[i]? = some o) (hns:Region.noSelect ops = true) (hsink:Region.sinkB md ops n = true) (hchain:Region.chainB md ops n = true) (hn:n < ops.size) (hi:i < n)
 (hend:∀ seen a,L seen a → ∀ j ∈ Region.ready md ops seen,n ≤ j) (f:Nat) :
 ∀ (seen : Array Bool) (a : Act), HeadInv md ops n seen →
   (∀ j p,ops[j]? = some p → j ≠ i → seen.getD j true = false → (∀ e ∈ p.after,Region.binds md e = true → e.on ≠ i) → o.apart ops p = true) →
   i ∈ Region.ready md ops seen → YieldsIn P ops C o v a → zcy P md ops C n L f (seen.setIfInBounds i true) (a.put o.dst v) → zcy P md ops C n L (f + 1) seen a:=by
 have hsel:=Region.noSelect_spec hns
 induction f with
 | zero =>
   intro seen a inv _ hr hy H
   refine ⟨List.ne_nil_of_mem hr,fun j hj=>?_⟩
   have hjn:j < n:=Nat.lt_of_not_le fun h=>tail_waits hsink hchain hn inv _ i rfl hi (mem_ready.1 hr).1 j h hj
   refine ⟨hjn,?_⟩
   by_cases e:j = i
   ·subst e
    exact hy.qOp ho H
   ·exact absurd (hend _ _ H j (ready_mono hj e)) (by omega)
 | succ f ih =>
   intro seen a inv hfree hr hy H
   refine ⟨List.ne_nil_of_mem hr,fun j hj=>?_⟩
   have hjn:j < n:=Nat.lt_of_not_le fun h=>tail_waits hsink hchain hn inv _ i rfl hi (mem_ready.1 hr).1 j h hj
   refine ⟨hjn,?_⟩
   by_cases e:j = i
   ·subst e
    exact hy.qOp ho H
   ·obtain ⟨hjs,p,hp,hall⟩:=mem_ready.1 hj
    have hno:∀ x ∈ p.after,Region.binds md x = true → x.on ≠ i:=fun x hx hb ex=>by
     have h1:=hall x hx hb
     rw [ex,getD_both (mem_ready.1 hr).1] at h1
     cases h1
    refine qOp_mono (fun a' h3=>?_) (qOp_put hp (hfree j p hp e hjs hno) (fun cs b=>hsel i o cs b ho) (fun cs b=>hsel j p cs b hp) hy (H.2 j (ready_mono hj e)).2)
    refine ih _ a' (inv.set hj hjn) (fun k q hq hk hs hnk=>?_) (ready_mono hr (Ne.symm e)) h3.1 ?_
    ·refine hfree k q hq hk ?_ hnk
     by_cases ek:j = k
     ·subst ek;exact hjs
     ·rwa [getD_set_ne true ek] at hs
    ·rw [Array.setIfInBounds_comm _ _ e]
     exact h3.2
theorem zg8 {n g:Nat} {M:Act → Prop} (hns:Region.noSelect ops = true) (hsink:Region.sinkB md ops n = true) (hchain:Region.chainB md ops n = true) (hn:n < ops.size) (l:List Oper) :
 ∀ (k:Nat) (seen:Array Bool) (a:Act),(∀ j,j < l.length → l[j]? = ops[k + j]?) → k + l.length = n → HeadInv md ops n seen → Region.lexHead md ops g l.length k seen = true → wpQuiet P ops C M l a →
 zcy P md ops C n (fun seen' a'=>Region.seqB md ops g n seen' = true ∧ M a') l.length seen a:=by
 induction l with
 | nil =>
   intro k seen a _ hk _ hB h
   obtain rfl:k = n:=hk
   exact ⟨hB,h⟩
 | cons o l ih =>
   intro k seen a hl hk inv hB h
   have ho:ops[k]? = some o:=by simpa using (hl 0 (by simp)).symm
   have hlen:(o :: l).length = l.length + 1:=rfl
   rw [hlen] at hk hB
   simp only [Region.lexHead,Bool.and_eq_true] at hB
   have hkr:k ∈ Region.ready md ops seen:=by simpa using hB.1.1
   obtain ⟨v,hy,hK⟩:=yieldsIn_of_qOp ho (show qOp P ops C k (wpQuiet P ops C M l) a by unfold qOp;simp only [ho];exact h)
   refine zcp ho hns hsink hchain hn (by omega) (fun seen' a' hL=>seqB_ready hL.1) l.length seen a inv (Region.free_spec ho hB.1.2) hkr hy (ih (k + 1) _ _ (fun j hj=>?_) (by omega) (inv.set hkr (by omega)) hB.2 hK)
   have:=hl (j + 1) (by simp;omega)
   rw [List.getElem?_cons_succ] at this
   rw [this]
   congr 1
   omega
theorem z08 {id:Nat} {Q:Exit → Act → World → Prop} {a:Act} {w:World} {l:List Oper} (C:World → Prop) (n:Nat) (hm:P.follows .mixedOrders = true) (hB:Region.lexTailB .any l.toArray n = true) (hC:C w.drew)
 (h:wpQuiet P l.toArray C (fun a'=>∀ w',C w' → wpList P l.toArray Q (l.drop n) a' w') (l.take n) a):(Code.region id l.toArray true).wp P Q a w:=by
 simp only [Region.lexTailB,Bool.and_eq_true,decide_eq_true_eq] at hB
 obtain ⟨⟨⟨⟨hns,hn⟩,hsink⟩,hchain⟩,hlex⟩:=hB
 have hsz:l.toArray.size = l.length:=by simp
 have ht:(l.take n).length = n:=by rw [List.length_take];omega
 have hd:(l.drop n).length = l.toArray.size - n:=by rw [List.length_drop,hsz]
 have inv:HeadInv .any l.toArray n (Array.replicate l.toArray.size false) :=
  ⟨Array.size_replicate,fun j p _ hs=>(by rw [getD_replicate_false] at hs;cases hs),fun t _ ht'=>getD_in (by rw [Array.size_replicate];exact ht') (getD_replicate_false _ _)⟩
 have H:=zg8 (md:=.any) (g:=l.toArray.size - n) hns hsink hchain hn (l.take n) 0 _ a (fun j hj=>by
  rw [ht] at hj
  simp [hj]) (by omega) inv (by rw [ht];exact hlex) h
 have A:=zbj (Q:=Q) (g:=l.toArray.size - n) (fun seen a' w' hw' hL=>by
  have:=wpAny_of_seq (md:=.any) (Q':=Q) (l.drop n) n seen a' w' (fun j=>by simp [List.getElem?_drop]) (by rw [hd];exact hL.1) (hL.2 w' hw')
  rwa [hd] at this) _ _ a w.drew hC H
 rw [ht,show n + (l.toArray.size - n) = l.toArray.size by omega] at A
 exact wp_region_any hm A
end
section
variable {P:Program} {ops:Array Oper} {md:Region.Mode}
def left (seen:Array Bool) (n:Nat):Nat:=(List.range n).countP fun i=>!seen.getD i false
theorem zdj {seen:Array Bool} {n:Nat} (h:left seen n = 0) (i:Nat) (hi:i < n):seen.getD i false = true:=by
 have:=List.countP_eq_zero.1 h i (List.mem_range.2 hi)
 simpa using this
theorem left_set {seen:Array Bool} {i:Nat} (hs:i < seen.size) (hu:seen.getD i false = false):∀ n,i < n → left (seen.setIfInBounds i true) n + 1 = left seen n:=by
 intro n
 induction n with
 | zero=>intro h;omega
 | succ n ih =>
   intro h
   simp only [left,List.range_succ,List.countP_append,List.countP_cons,List.countP_nil] at ih ⊢
   by_cases e:i = n
   ·subst e
    have h1:(seen.setIfInBounds i true).getD i false = true:=by simp [hs]
    have h2:(List.range i).countP (fun j=>!(seen.setIfInBounds i true).getD j false) = (List.range i).countP (fun j=>!seen.getD j false):=by
     refine List.countP_congr fun j hj=>?_
     rw [getD_set_ne false (by have:=List.mem_range.1 hj;omega)]
    rw [h1,h2,hu]
    simp
   ·have h1:(seen.setIfInBounds i true).getD n false = seen.getD n false:=getD_set_ne false e
    rw [h1]
    have:=ih (by omega)
    omega
theorem zgt {seen:Array Bool}:∀ {n:Nat},left seen n ≠ 0 → ∃ k,k < n ∧ seen.getD k false = false ∧ ∀ j,j < k → seen.getD j false = true:=by
 intro n
 induction n with
 | zero=>intro h;exact absurd rfl h
 | succ n ih =>
   intro h
   by_cases h0:left seen n = 0
   ·refine ⟨n,by omega,?_,zdj h0⟩
    simp only [left,List.range_succ,List.countP_append,List.countP_cons,List.countP_nil] at h h0
    cases hs:seen.getD n false with
    | false=>rfl
    | true=>exact absurd h0 (by rw [hs] at h;simpa using h)
   ·obtain ⟨k,hk,h1,h2⟩:=ih h0
    exact ⟨k,by omega,h1,h2⟩
theorem zcn {g:Nat} (f:Nat):∀ (k:Nat) (seen:Array Bool),seen.size = ops.size → (∀ j,seen.getD j false = decide (j < k)) → k + f ≤ ops.size → Region.lexHead md ops g f k seen = true →
 (∀ j,k ≤ j → j < k + f → ∃ o,ops[j]? = some o ∧ ∀ e ∈ o.after,Region.binds md e = true → e.on < j) ∧ ∃ full:Array Bool,full.size = ops.size ∧ (∀ j,full.getD j false = decide (j < k + f)) ∧ Region.seqB md ops g (k + f) full = true:=by
 induction f with
 | zero=>intro k seen hz hs _ hB;exact ⟨fun j h1 h2=>by omega,seen,hz,hs,hB⟩
 | succ f ih =>
   intro k seen hz hs hf hB
   simp only [Region.lexHead,Bool.and_eq_true] at hB
   have hkr:k ∈ Region.ready md ops seen:=by simpa using hB.1.1
   obtain ⟨_,o,ho,hall⟩:=mem_ready.1 hkr
   obtain ⟨h1,full,h2,h3,h4⟩:=ih (k + 1) (seen.setIfInBounds k true) (by simpa using hz) (fun j=>by
    by_cases e:k = j
    ·subst e
     have:k < seen.size:=by omega
     simp [this]
    ·rw [getD_set_ne false e,hs j]
     exact decide_eq_decide.2 (by omega)) (by omega) hB.2
   refine ⟨fun j hj1 hj2=>?_,full,h2,fun j=>by rw [h3 j];exact decide_eq_decide.2 (by omega),by rw [show k + (f + 1) = k + 1 + f by omega];exact h4⟩
   by_cases e:j = k
   ·subst e
    refine ⟨o,ho,fun x hx hb=>?_⟩
    have:=hall x hx hb
    rw [hs] at this
    simpa using this
   ·exact h1 j (by omega) (by omega)
theorem zbn {id:Nat} {Q:Exit → Act → World → Prop} {a:Act} {w:World} {l:List Oper} (n:Nat) (Inv:Array Bool → Act → World → Prop) (hm:P.follows .mixedOrders = true) (hB:Region.lexTailB .any l.toArray n = true)
 (h0:Inv (Array.replicate l.toArray.size false) a w.drew)
 (hstep:∀ seen a w i,i < n → i ∈ Region.ready .any l.toArray seen → i < seen.size → Inv seen a w → wpOp P l.toArray Q i (fun a' w'=>Inv (seen.setIfInBounds i true) a' w') a w)
 (hend:∀ seen a w,(∀ i,i < n → seen.getD i false = true) → Inv seen a w → wpList P l.toArray Q (l.drop n) a w):(Code.region id l.toArray true).wp P Q a w:=by
 simp only [Region.lexTailB,Bool.and_eq_true,decide_eq_true_eq] at hB
 obtain ⟨⟨⟨⟨hns,hn⟩,hsink⟩,hchain⟩,hlex⟩:=hB
 have hsz:l.toArray.size = l.length:=by simp
 have hd:(l.drop n).length = l.toArray.size - n:=by rw [List.length_drop,hsz]
 obtain ⟨hdeps,full,hfz,hfull,hseq⟩:=zcn (md:=.any) (ops:=l.toArray) n 0 _ Array.size_replicate (fun j=>by rw [getD_replicate_false];simp) (by omega) hlex
 rw [Nat.zero_add] at hseq
 have key:∀ r seen a w,HeadInv .any l.toArray n seen → left seen n = r → Inv seen a w → wpAny P .any l.toArray Q (r + (l.toArray.size - n)) seen a w:=by
  intro r
  induction r with
  | zero =>
    intro seen a w inv hr hI
    have hall:=zdj hr
    have hsame:seen = full:=by
     refine Array.ext (by rw [inv.size,hfz]) fun j h1 h2=>?_
     have e1:=hfull j
     have e2:seen.getD j false = decide (j < 0 + n):=by
      by_cases hj:j < n
      ·rw [hall j hj];simp [hj]
      ·have:=getD_both (inv.tail j (by omega) (by rw [← inv.size];exact h1))
       rw [this];simp [hj]
     rw [← e1] at e2
     simpa [h1,h2] using e2
    have:=wpAny_of_seq (md:=.any) (Q':=Q) (l.drop n) n seen a w (fun j=>by simp [List.getElem?_drop]) (by rw [hd,hsame];exact hseq) (hend seen a w hall hI)
    rw [hd] at this
    rw [Nat.zero_add]
    exact this
  | succ r ih =>
    intro seen a w inv hr hI
    rw [Nat.add_right_comm]
    obtain ⟨k,hk,hku,hkl⟩:=zgt (seen:=seen) (n:=n) (by omega)
    have hks:k < seen.size:=by rw [inv.size];omega
    have hkr:k ∈ Region.ready .any l.toArray seen:=by
     obtain ⟨o,ho,hb⟩:=hdeps k (by omega) (by omega)
     exact mem_ready.2 ⟨getD_in hks hku,o,ho,fun e he hbe=>hkl _ (hb e he hbe)⟩
    refine ⟨fun e=>(by rw [e] at hkr;cases hkr),fun i hi=>?_⟩
    have hin:i < n:=Nat.lt_of_not_le fun h=>tail_waits hsink hchain hn inv _ k rfl hk (getD_in hks hku) i h hi
    have his:i < seen.size:=by rw [inv.size];omega
    refine wpOp_mono (fun a' w' hI'=>ih _ a' w' (inv.set hi hin) ?_ hI') (hstep seen a w i hin hi his hI)
    have:=left_set his (getD_both (mem_ready.1 hi).1) n hin
    omega
 have inv0:HeadInv .any l.toArray n (Array.replicate l.toArray.size false) :=
  ⟨Array.size_replicate,fun j p _ hs=>(by rw [getD_replicate_false] at hs;cases hs),fun t _ ht'=>getD_in (by rw [Array.size_replicate];exact ht') (getD_replicate_false _ _)⟩
 have H:=key n _ a w.drew inv0 (by
  have:∀ m,left (Array.replicate l.toArray.size false) m = m:=fun m=>by
   unfold left
   rw [List.countP_eq_length.2 (fun i _=>by rw [getD_replicate_false];rfl),List.length_range]
  exact this n) h0
 rw [show n + (l.toArray.size - n) = l.toArray.size by omega] at H
 exact wp_region_any hm H
end
section
variable {P:Program}
def z0i:List Oper → (Nat → Value) → Act → Act
 | [],_,a=>a
 | o :: l,V,a=>z0i l (fun i=>V (i + 1)) (a.put o.dst (V 0))
def zfi:List Oper → Bool
 | []=>true
 | o :: l=>l.all (fun p=>!(o.dst == p.dst)) && zfi l
def upd (V:Nat → Value) (i:Nat) (v:Value):Nat → Value:=fun j=>if j = i then v else V j
theorem z28 (V:Nat → Value) (i:Nat) (v:Value):upd V i v i = v:=by simp [upd]
theorem z1r (V:Nat → Value) {i j:Nat} (v:Value) (h:j ≠ i):upd V i v j = V j:=by simp [upd,h]
theorem put_put (a:Act) (d:Option Tmp) (u v:Value):(a.put d u).put d v = a.put d v:=by
 cases d with
 | none=>rfl
 | some d=>simp [Act.put]
theorem zg2 (l:List Oper) (o:Oper) (v:Value) (h:l.all (fun p=>!(o.dst == p.dst)) = true):∀ (V:Nat → Value) (a:Act),z0i l V (a.put o.dst v) = (z0i l V a).put o.dst v:=by
 induction l with
 | nil=>intro V a;rfl
 | cons p l ih =>
   intro V a
   simp only [List.all_cons,Bool.and_eq_true] at h
   rw [z0i,z0i,Act.put_comm a v (V 0) (fun d hd e=>by rw [hd,e] at h;simp at h),ih h.2]
theorem zgu (l:List Oper) (h:zfi l = true):∀ (i:Nat) (o:Oper) (v:Value) (V:Nat → Value) (a:Act),l[i]? = some o → z0i l (upd V i v) a = (z0i l V a).put o.dst v:=by
 induction l with
 | nil=>intro i o v V a ho;simp at ho
 | cons p l ih =>
   intro i o v V a ho
   simp only [zfi,Bool.and_eq_true] at h
   cases i with
   | zero =>
     obtain rfl:p = o:=by simpa using ho
     rw [z0i,z0i,← zg2 l p v h.1,put_put]
     rfl
   | succ i =>
     rw [z0i,z0i,← ih h.2 i o v (fun j=>V (j + 1)) _ (by simpa using ho)]
     congr 1
     funext j
     simp [upd]
structure OpWp (P:Program) (o:Oper) (a:Act) (w:World) (K:Act → World → Prop) (Q:Exit → Act → World → Prop):Prop where
 out:Oper.wp P o a w K Q
structure FreeStep (P:Program) (ops:Array Oper) (Q:Exit → Act → World → Prop) (F:(Nat → Value) → Act) (Inv:(Nat → Bool) → (Nat → Value) → World → Prop) (o:Oper) (i:Nat):Prop where
 go:∀ s V w,(∀ e ∈ o.after,Region.binds .any e = true → s e.on = true) → s i = false → Inv s V w →
  ∀ K : Act → World → Prop, (∀ v w', Inv (fun j => s j || j == i) (upd V i v) w' → K ((F V).put o.dst v) w') →
    if Region.wanted o (yielded ops (F V).tmps) = true then Oper.wp P o (F V) w K Q else K ((F V).put o.dst undef) w
def FreeSteps (P:Program) (ops:Array Oper) (Q:Exit → Act → World → Prop) (F:(Nat → Value) → Act) (Inv:(Nat → Bool) → (Nat → Value) → World → Prop):List Oper → Nat → Prop
 | [],_=>True
 | o :: l,i=>FreeStep P ops Q F Inv o i ∧ FreeSteps P ops Q F Inv l (i + 1)
theorem zQn {ops:Array Oper} {Q:Exit → Act → World → Prop} {F:(Nat → Value) → Act} {Inv:(Nat → Bool) → (Nat → Value) → World → Prop} {i:Nat}:FreeSteps P ops Q F Inv [] i:=trivial
theorem zQc {ops:Array Oper} {Q:Exit → Act → World → Prop} {F:(Nat → Value) → Act} {Inv:(Nat → Bool) → (Nat → Value) → World → Prop} {o:Oper} {l:List Oper} {i:Nat} (h:FreeStep P ops Q F Inv o i) (hs:FreeSteps P ops Q F Inv l (i + 1)):FreeSteps P ops Q F Inv (o :: l) i:=⟨h,hs⟩
theorem zQf {ops:Array Oper} {Q:Exit → Act → World → Prop} {F:(Nat → Value) → Act} {Inv:(Nat → Bool) → (Nat → Value) → World → Prop} {o:Oper} {i:Nat} (hg:o.guard = none)
 (h:∀ s V w,(∀ e ∈ o.after,Region.binds .any e = true → s e.on = true) → s i = false → Inv s V w → ∀ K:Act → World → Prop,(∀ v w',Inv (fun j=>s j || j == i) (upd V i v) w' → K ((F V).put o.dst v) w') → OpWp P o (F V) w K Q):FreeStep P ops Q F Inv o i:=⟨fun s V w hr hu hI K hK=>by
 have hw:Region.wanted o (yielded ops (F V).tmps) = true:=by simp [Region.wanted,hg]
 rw [if_pos hw]
 exact (h s V w hr hu hI K hK).out⟩
theorem FreeSteps.get {ops:Array Oper} {Q:Exit → Act → World → Prop} {F:(Nat → Value) → Act} {Inv:(Nat → Bool) → (Nat → Value) → World → Prop} (l:List Oper):∀ (i k:Nat) (o:Oper),FreeSteps P ops Q F Inv l k → l[i]? = some o → FreeStep P ops Q F Inv o (k + i):=by
 induction l with
 | nil=>intro i k o _ ho;simp at ho
 | cons p l ih =>
   intro i k o h ho
   cases i with
   | zero =>
     obtain rfl:p = o:=by simpa using ho
     exact h.1
   | succ i =>
     have:=ih i (k + 1) o h.2 (by simpa using ho)
     rwa [show k + 1 + i = k + (i + 1) by omega] at this
theorem z0f {id:Nat} {Q:Exit → Act → World → Prop} {a:Act} {w:World} {l:List Oper} (n:Nat) (Inv:(Nat → Bool) → (Nat → Value) → World → Prop) (V0:Nat → Value) (hm:P.follows .mixedOrders = true) (hB:Region.lexTailB .any l.toArray n = true) (hd:zfi (l.take n) = true)
 (ha:z0i (l.take n) V0 a = a) (h0:Inv (fun _=>false) V0 w.drew)
 (hstep:FreeSteps P l.toArray Q (fun V=>z0i (l.take n) V a) Inv (l.take n) 0)
 (hend:∀ s V w,(∀ i,i < n → s i = true) → Inv s V w → wpList P l.toArray Q (l.drop n) (z0i (l.take n) V a) w):(Code.region id l.toArray true).wp P Q a w:=by
 have hn:n < l.length:=by
  simp only [Region.lexTailB,Bool.and_eq_true,decide_eq_true_eq] at hB
  simpa using hB.1.1.1.2
 refine zbn n (fun seen a' w'=>∃ V,a' = z0i (l.take n) V a ∧ Inv (fun j=>seen.getD j false) V w') hm hB ⟨V0,ha.symm,?_⟩ ?_ ?_
 ·rw [show (fun j=>(Array.replicate l.toArray.size false).getD j false) = fun _=>false from funext fun j=>getD_replicate_false _ _]
  exact h0
 ·rintro seen a' w' i hi hr hs ⟨V,rfl,hI⟩
  obtain ⟨hu,o,ho,hall⟩:=mem_ready.1 hr
  have ho':(l.take n)[i]? = some o:=by
   rw [List.getElem?_take,if_pos hi]
   simpa using ho
  have hF:=FreeSteps.get (l.take n) i 0 o hstep ho'
  rw [Nat.zero_add] at hF
  have e:(fun j=>(seen.setIfInBounds i true).getD j false) = fun j=>seen.getD j false || j == i:=funext fun j=>by
   by_cases hj:i = j
   ·subst hj;simp [hs]
   ·rw [getD_set_ne false hj]
    have:(j == i) = false:=by simp;omega
    rw [this,Bool.or_false]
  have hF2:=hF.go _ V w' hall (getD_both hu) hI (fun a'' w''=>∃ V,a'' = z0i (l.take n) V a ∧ Inv (fun j=>(seen.setIfInBounds i true).getD j false) V w'') (fun v w'' h=>⟨upd V i v,(zgu _ hd i o v V a ho').symm,by rw [e];exact h⟩)
  unfold wpOp
  simp only [ho]
  split
  ·rename_i hw
   rw [if_pos hw] at hF2
   exact .inl hF2
  ·rename_i hw
   rw [if_neg hw] at hF2
   exact hF2
 ·rintro seen a' w' hall ⟨V,rfl,hI⟩
  exact hend _ V w' (fun i hi=>hall i hi) hI
theorem z3h {w:World} {ops:Array Oper} {rest:List Oper} {o:Oper} {a:Act} {Q:Exit → Act → World → Prop} (hw:Region.wanted o (yielded ops a.tmps) = true) (ty:TypeId) (x:Operand) (ho:o.op = .load ty x)
 (g:Nat) (k:IntKind) (l:List Nat) (t:TypeId) (d:TypeDesc) (hx:a.eval x = .pointer (some ⟨g,0,none⟩)) (hg:Blk g t k l w)
 (hu:P.underlying ty = some d) (hd:(match d with | .struct _ | .array _ _=>true | _=>false) = true) (hi:(P.info? ty).map (·.size) = some l.length)
 (h:wpList P ops Q rest (a.put o.dst (.agg (z06 k l).toArray)) w):wpList P ops Q (o :: rest) a w :=
 BigFrame.wpList_want hw fun _ hK=>wp_load_row ty x ho g hx t _ _ d hg hu hd (by rw [z13];exact hi) (hK _ _ h)
theorem z16 {o:Oper} {a:Act} {w:World} {K:Act → World → Prop} {Q:Exit → Act → World → Prop} (ty:TypeId) (x:Operand) (ho:o.op = .load ty x) (b:Nat) (k:IntKind) (l:List Nat) (t:TypeId) (d:TypeDesc)
 (hx:a.eval x = .pointer (some ⟨b,0,none⟩)) (hb:Blk b t k l w) (hu:P.underlying ty = some d) (hd:(match d with | .struct _ | .array _ _=>true | _=>false) = true) (hi:(P.info? ty).map (·.size) = some l.length)
 (h:K (a.put o.dst (.agg (z06 k l).toArray)) w):OpWp P o a w K Q:=by
 refine ⟨?_⟩
 unfold Oper.wp execOp
 simp only [ho,hx,Instr.loadAt,Instr.sureAddr,Sem.run_bind,Sem.run_pure,Result.andThen_ok,run_loadVar_row w b t ty _ (0,0) d hb hu hd (by rw [z13];exact hi)]
 exact h
theorem z0h {o:Oper} {a:Act} {w:World} {K:Act → World → Prop} {Q:Exit → Act → World → Prop} (x:Operand) (ho:o.op = .move x) (v:Value) (hx:a.eval x = v) (h:K (a.put o.dst v) w):OpWp P o a w K Q:=by
 refine ⟨?_⟩
 unfold Oper.wp execOp
 simp only [ho,hx,Sem.run_pure]
 exact h
theorem z20 {o:Oper} {a:Act} {w:World} {K:Act → World → Prop} {Q:Exit → Act → World → Prop} (x:Operand) (n:Nat) (ho:o.op = .extract x n) (vs:Array Value) (v:Value) (hx:a.eval x = .tuple vs) (hv:vs[n]? = some v) (h:K (a.put o.dst v) w):OpWp P o a w K Q:=by
 refine ⟨?_⟩
 unfold Oper.wp execOp
 simp [ho,hx,hv,Instr.extract]
 exact h
theorem z4i {α:Type} {a b:α} {l m:List α} (h:a = b) (h2:l = m):a :: l = b :: m:=by rw [h,h2]
structure Shut (p:Prop):Prop where
 out:p
theorem z4u {o : Oper} {a : Act} {w : World} {K : Act → World → Prop} {Q : Exit → Act → World → Prop} {f : FuncId} {fn : Func} (hf : P.funcs[f]? = some fn) (hname : (fn.name == "runtime.NumGoroutine") = false) (hb : fn.body.isNone = false)
 {args:Array Operand} {ts:Array TypeId} (ho:o.op = .call { callee:=.value (.func f),args:=args,argTypes:=ts }) (vs:List Value) (hv:args.toList.map a.eval = vs) {C:Ending → World → Prop}
 (hc:Calls P f vs.toArray w C) (h:∀ e w',C e w' → ∃ v,e = .returned v ∧ K (a.put o.dst v) w'):OpWp P o a w K Q:=by
 have hr:(execOp a.eval o).run P w = .ok (.enter f vs.toArray) w:=by
  obtain ⟨dst,op,ty,pos,after,guard⟩:=o
  simp only at ho
  subst ho
  rw [execOp_call_go,show args.map a.eval = vs.toArray by rw [← hv,← Array.toList_map,Array.toArray_toList],Array.append_empty,Array.empty_append]
  have h1 : ¬ fn.name = "runtime.NumGoroutine" := by simpa using hname
  have h2:¬ fn.body = none:=by intro e;rw [e] at hb;cases hb
  simp [callFunc,Sem.run_bind,hf,h1,h2,go_sem]
 refine ⟨?_⟩
 unfold Oper.wp
 rw [hr,Oper.upon_enter]
 refine hc.mono fun e w' he=>?_
 obtain ⟨v,rfl,hk⟩:=h e w' he
 exact hk
theorem z2s {o:Oper} {a:Act} {w:World} {K:Act → World → Prop} {Q:Exit → Act → World → Prop} (ty:TypeId) (ho:o.op = .alloc ty) (z:Array Value) (hz:∀ w,(Instr.alloc ty true (.tuple #[])).run P w = .ok (.pointer (some ⟨w.heap.size,0,none⟩)) (w.alloc (.cells z ty)))
 (h:K (a.put o.dst (.pointer (some ⟨w.heap.size,0,none⟩))) (w.alloc (.cells z ty))):OpWp P o a w K Q:=by
 refine ⟨?_⟩
 unfold Oper.wp execOp
 simp only [ho,Sem.run_bind,Sem.run_pure,Result.andThen_ok,hz]
 exact h
def Cells (b:Nat) (t:TypeId) (cs:Array Value) (w:World):Prop:=w.heap[b]? = some (.cells cs t (0,0))
theorem Cells.lt {b:Nat} {t:TypeId} {cs:Array Value} {w:World} (h:Cells b t cs w):b < w.heap.size:=lt_of_block h
theorem Cells.below {b:Nat} {t:TypeId} {cs:Array Value} {w w':World} (h:Cells b t cs w) (hb:Below w.heap.size w w'):Cells b t cs w':=(hb.block b h.lt).trans h
theorem Cells.but {b g:Nat} {t:TypeId} {cs:Array Value} {w w':World} (h:Cells b t cs w) (hb:But g w w') (hne:b ≠ g):Cells b t cs w':=(hb.block b h.lt hne).trans h
theorem z0n {o:Oper} {a:Act} {C:World → Prop} {K:Act → Prop} (ty:TypeId) (x:Operand) (ho:o.op = .load ty x) (b:Nat) (cs:Array Value) (t:TypeId) (d:TypeDesc)
 (hx:a.eval x = .pointer (some ⟨b,0,none⟩)) (hC:∀ w,C w → Cells b t cs w) (hu:P.underlying ty = some d) (hd:(match d with | .struct _ | .array _ _=>true | _=>false) = true) (hi:(P.info? ty).map (·.size) = some cs.size)
 (hk:K (a.put o.dst (.agg cs))):o.quiet P a C K:=by
 refine ⟨_,fun w hw=>?_,hk⟩
 unfold Oper.quietAt execOp
 simp only [ho,hx,Instr.loadAt,Instr.sureAddr,Sem.run_bind,Sem.run_pure,Result.andThen_ok,run_loadVar_row w b t ty _ (0,0) d (hC w hw) hu hd hi]
 exact ⟨rfl,rfl⟩
theorem z00 {w:World} {ops:Array Oper} {rest:List Oper} {o:Oper} {a:Act} {Q:Exit → Act → World → Prop} (hgd:o.guard = none) (ty:TypeId) (x:Operand) (ho:o.op = .load ty x)
 (g:Nat) (cs:Array Value) (t:TypeId) (d:TypeDesc) (hx:a.eval x = .pointer (some ⟨g,0,none⟩)) (hg:Cells g t cs w)
 (hu:P.underlying ty = some d) (hd:(match d with | .struct _ | .array _ _=>true | _=>false) = true) (hi:(P.info? ty).map (·.size) = some cs.size)
 (h:wpList P ops Q rest (a.put o.dst (.agg cs)) w):wpList P ops Q (o :: rest) a w :=
 wpList_load_row hgd ty x ho g hx t _ _ d hg hu hd hi h
theorem z01 {w:World} {ops:Array Oper} {rest:List Oper} {o:Oper} {a:Act} {Q:Exit → Act → World → Prop} (hgd:o.guard = none) (ty:TypeId) (x y:Operand) (ho:o.op = .store ty x y)
 (hd:o.dst = none) (g:Nat) (cs cs':Array Value) (t:TypeId) (hx:a.eval x = .pointer (some ⟨g,0,none⟩)) (hy:a.eval y = .agg cs')
 (hg:Cells g t cs w) (hi:(P.info? ty).map (·.size) = some cs'.size) (hl:cs.size = cs'.size) (h1:cs'.all (·.oneCell') = true)
 (h:∀ w',Hid (Cells g t cs' w') → Hid (But g w w') → wpList P ops Q rest a w'):wpList P ops Q (o :: rest) a w :=
 wpList_store_rowTo hgd ty x y ho hd g cs' hx hy t _ hg hi hl h1 (h _ (setRow_heap _ _ _ _ _ _ hg) ((But.refl g w).setRow _))
theorem z1o {o:Oper} {a:Act} {w:World} {K:Act → World → Prop} {Q:Exit → Act → World → Prop} (ty:TypeId) (x:Operand) (ho:o.op = .load ty x) (b:Nat) (cs:Array Value) (t:TypeId) (d:TypeDesc)
 (hx:a.eval x = .pointer (some ⟨b,0,none⟩)) (hb:Cells b t cs w) (hu:P.underlying ty = some d) (hd:(match d with | .struct _ | .array _ _=>true | _=>false) = true) (hi:(P.info? ty).map (·.size) = some cs.size)
 (h:K (a.put o.dst (.agg cs)) w):OpWp P o a w K Q:=by
 refine ⟨?_⟩
 unfold Oper.wp execOp
 simp only [ho,hx,Instr.loadAt,Instr.sureAddr,Sem.run_bind,Sem.run_pure,Result.andThen_ok,run_loadVar_row w b t ty _ (0,0) d hb hu hd hi]
 exact h
def Val (s:Nat → Bool) (V:Nat → Value) (i:Nat) (v:Value):Prop:=s i = true → V i = v
theorem Val.none {V:Nat → Value} {i:Nat} {v:Value}:Val (fun _=>false) V i v:=fun h=>by cases h
theorem z6m {s:Nat → Bool} {i j:Nat} (hne:j ≠ i) (h:(s j || j == i) = true):s j = true:=by
 have:(j == i) = false:=by simpa using hne
 rwa [this,Bool.or_false] at h
theorem Val.same {s:Nat → Bool} {V:Nat → Value} {i:Nat} {v:Value}:Val (fun j=>s j || j == i) (upd V i v) i v:=fun _=>z28 _ _ _
theorem Val.ne {s:Nat → Bool} {V:Nat → Value} {i j:Nat} {v u:Value} (h:Val s V j v) (hne:j ≠ i):Val (fun j=>s j || j == i) (upd V i u) j v:=fun hs=>by
 rw [z1r V u hne]
 exact h (z6m hne hs)
def Late (s:Nat → Bool) (i j:Nat):Prop:=s j = true → s i = true
theorem Late.none {i j:Nat}:Late (fun _=>false) i j:=fun h=>by cases h
theorem Late.ne {s:Nat → Bool} {i j m:Nat} (h:Late s i j) (hj:j ≠ m):Late (fun n=>s n || n == m) i j:=fun hs=>by
 show (s i || i == m) = true
 rw [h (z6m hj hs),Bool.true_or]
theorem Late.same {s:Nat → Bool} {i j:Nat} (h:s i = true):Late (fun n=>s n || n == j) i j:=fun _=>by
 show (s i || i == j) = true
 rw [h,Bool.true_or]
theorem Late.not {s:Nat → Bool} {i j:Nat} (h:Late s i j) (hi:s i = false):s j = false:=by
 cases e:s j with
 | false=>rfl
 | true=>rw [h e] at hi;cases hi
end
theorem cat2 (l s:List UInt8):(({ data:=l.toArray }:ByteArray) ++ { data:=s.toArray }) = { data:=(l ++ s).toArray }:=by
 rw [ByteArray.ext_iff];simp
theorem conv_blk {P:Program} (w:World) (src dst e:TypeId) (b cap n:Nat) (l:List Nat) (t:TypeId) (hn:n = l.length) (hl:∀ y ∈ l,y < 256) (hb:Blk b t .u8 l w) (hs:P.underlying src = some (.slice e)) (he:P.underlying e = some (.int .u8)) (hd:P.underlying dst = some .string) :
 (convert src dst (.slice (some ⟨b,0,none⟩) n cap)).run P w = .ok (.string ⟨(txt l).toArray⟩) w:=by
 subst hn
 have hc:=run_convert_bytes_back (P:=P) w src dst e ⟨b,0,none⟩ cap (txt l) hs he hd (fun j hj=>by
  rw [z2f] at hj
  rw [Addr.add_lit,Nat.zero_add,hb.cell j hj,List.getD_eq_getElem?_getD,List.getElem?_eq_getElem hj]
  have h1:=hl _ (List.getElem_mem hj)
  simp only [txt,List.getElem_map,Option.getD_some]
  rw [show (UInt8.ofNat l[j]).toNat = l[j] by simp;omega])
 rwa [z2f] at hc
theorem z3g {P:Program} (w:World) (ty:TypeId) (p:Addr) (v:Value) (hc:w.cell? p = some v) (hi:∀ w,(isAgg ty).run P w = .ok false w):(loadVar ty p).run P w = .ok v w:=by
 simp [loadVar,hi,hc,go_sem]
theorem z02 {P:Program} {o:Oper} {a:Act} {C:World → Prop} {K:Act → Prop} (ty:TypeId) (x:Operand) (ho:o.op = .load ty x) (p:Addr) (v:Value)
 (hx:a.eval x = .pointer (some p)) (hC:∀ w,C w → w.cell? p = some v) (hi:∀ w,(isAgg ty).run P w = .ok false w) (hk:K (a.put o.dst v)):o.quiet P a C K:=by
 refine ⟨_,fun w hw=>?_,hk⟩
 unfold Oper.quietAt execOp
 simp only [ho,hx,Instr.loadAt,Instr.sureAddr,Sem.run_bind,Sem.run_pure,Result.andThen_ok,z3g w ty p v (hC w hw) hi]
 exact ⟨rfl,rfl⟩
theorem z7y {P:Program} {w:World} {ops:Array Oper} {rest:List Oper} {o:Oper} {a:Act} {Q:Exit → Act → World → Prop} (hgd:o.guard = none) (s x:Operand) (t e:TypeId)
 (ho:o.op = .call { callee:=.builtin .append,args:=#[s,x],argTypes:=#[t,t] })
 (B:Nat) (k:IntKind) (bytes:Nat) (ht:P.underlying t = some (.slice e)) (hinfo:(P.info? e).map (fun i=>(i.zero,i.size,i.bytes)) = some (some (.int k 0),1,bytes))
 (v:Value) (l m:List Nat) (ad:Addr) (n c:Nat) (hn:n = m.length) (hs:a.eval s = v) (hown:OwnN B e k v l w) (hx:a.eval x = .slice (some ad) n c) (hnews:∀ j u,(z06 k m)[j]? = some u → w.cell? (ad.add j) = some u)
 (h63:l.length + m.length ≤ maxLen) (hbytes:(l.length + m.length) * bytes ≤ 140737488355328) (hB:B ≤ w.heap.size)
 (h:∀ v' w',Hid (OwnN B e k v' (l ++ m) w') → Hid (Below B w w') → wpList P ops Q rest (a.put o.dst v') w'):wpList P ops Q (o :: rest) a w:=by
 obtain ⟨i,hi,hz0,hz1,hz2⟩:=info_parts hinfo
 subst hn
 refine wpList_append_own_at w hgd s x _ ho B e i (.int k 0) 1 bytes ht hi hz0 hz1 hz2 rfl (by decide) v l.length (z06 k l) hs hown ad m.length c (z06 k m) hx (by rw [z0v,Nat.mul_one]) hnews (z4w k m) h63 hbytes hB ?_
 intro v' w' h2 hg _ _
 refine h v' w' ?_ ((Below.refl B w).grown hg hB (fun k hk=>(World.ownsRow.lt hown k hk).1))
 show w'.ownsRow B e 1 v' (l ++ m).length (z06 k (l ++ m))
 rw [List.length_append,show z06 k (l ++ m) = z06 k l ++ z06 k m by simp [z06]]
 exact h2
theorem blk_news {g:Nat} {t:TypeId} {k:IntKind} {l:List Nat} {w:World} (h:Blk g t k l w):∀ j u,(z06 k l)[j]? = some u → w.cell? ((⟨g,0,none⟩:Addr).add j) = some u:=by
 intro j u hj
 rw [Addr.add_lit,Nat.zero_add,Lib.cell_of_heap h j,List.getElem?_toArray]
 exact hj
theorem dat {a : Array Edge} {s : Nat → Bool} (hr : ∀ e ∈ a, Region.binds .any e = true → s e.on = true) (n : Nat) (h : ({ on := n, ground := .data } : Edge) ∈ a := by simp) : s n = true := hr _ h rfl
theorem Val.nd {s : Nat → Bool} {V : Nat → Value} {i j : Nat} {v u : Value} (h : Val s V j v) (hne : j ≠ i := by decide) : Val (fun j => s j || j == i) (upd V i u) j v := h.ne hne
theorem Late.nd {s : Nat → Bool} {i j m : Nat} (h : Late s i j) (hj : j ≠ m := by decide) : Late (fun n => s n || n == m) i j := h.ne hj
theorem zS {α : Type _} (l : List α) (i : Nat) (a : α) : l.toArray.setIfInBounds i a = (l.set i a).toArray := List.setIfInBounds_toArray ..
theorem zA {α : Type _} {x : α} {xs : List α} {a : α} : (x :: xs).set 0 a = a :: xs := List.set_cons_zero
theorem zB {α : Type _} {x : α} {xs : List α} {i : Nat} {a : α} : (x :: xs).set (i + 1) a = x :: xs.set i a := List.set_cons_succ
theorem zC {α : Type _} {a : α} {l : List α} {i : Nat} : List.take (i + 1) (a :: l) = a :: List.take i l := List.take_succ_cons
theorem zD {α : Type _} {l : List α} : List.take 0 l = [] := List.take_zero
theorem zE {α : Type _} {a : α} {l : List α} {i : Nat} : List.drop (i + 1) (a :: l) = List.drop i l := List.drop_succ_cons
theorem zF {α : Type _} {l : List α} : List.drop 0 l = l := List.drop_zero
open Go.ChangeShapes Go.WideShapes
def Ids (L:List (List Nat)):Prop:=∀ x ∈ L,x.length = 32 ∧ ∀ y ∈ x,y < 256
theorem Ids.nil:Ids []:=fun x hx=>by cases hx
theorem Ids.getD {L:List (List Nat)} (h:Ids L) {i:Nat} (hi:i < L.length):(L.getD i []).length = 32 ∧ ∀ y ∈ L.getD i [],y < 256:=by
 rw [List.getD_eq_getElem?_getD,List.getElem?_eq_getElem hi]
 exact h _ (List.getElem_mem hi)
theorem Ids.append {L M:List (List Nat)} (h:Ids L) (k:Ids M):Ids (L ++ M):=fun x hx=>(List.mem_append.1 hx).elim (h x) (k x)
theorem Ids.one {x:List Nat} (h:x.length = 32) (k:∀ y ∈ x,y < 256):Ids [x]:=fun z hz=>by
 obtain rfl:=List.mem_singleton.1 hz
 exact ⟨h,k⟩
theorem Ids.take {L:List (List Nat)} (h:Ids L) (n:Nat):Ids (L.take n):=fun x hx=>h x (List.mem_of_mem_take hx)
theorem Ids.drop {L:List (List Nat)} (h:Ids L) (n:Nat):Ids (L.drop n):=fun x hx=>h x (List.mem_of_mem_drop hx)
def IAt (ao:Option Addr) (L:List (List Nat)) (w:World):Prop :=
 L = [] ∨ ∃ b o,ao = some ⟨b,o,none⟩ ∧ b < w.heap.size ∧ ∀ i,i < L.length → w.rangeAt b (o + 32 * i) (z06 .u8 (L.getD i []))
theorem IAt.below {ao:Option Addr} {L:List (List Nat)} {w w':World} (h:IAt ao L w) (hb:Below w.heap.size w w'):IAt ao L w':=by
 rcases h with h | ⟨b,o,h1,h2,h3⟩
 ·exact .inl h
 ·exact .inr ⟨b,o,h1,Nat.lt_of_lt_of_le h2 hb.size,fun i hi j v hv=>(hb.cell (p:=⟨b,o + 32 * i + j,none⟩) h2).trans (h3 i hi j v hv)⟩
theorem IAt.get {b o:Nat} {L:List (List Nat)} {w:World} (h:IAt (some ⟨b,o,none⟩) L w) {i:Nat} (hi:i < L.length):w.rangeAt b (o + i * 32) (z06 .u8 (L.getD i [])):=by
 rcases h with rfl | ⟨b',o',h1,_,h3⟩
 ·cases hi
 ·simp only [Option.some.injEq,Addr.mk.injEq] at h1
  obtain ⟨rfl,rfl,_⟩:=h1
  rw [Nat.mul_comm]
  exact h3 i hi
theorem IAt.some {ao:Option Addr} {L:List (List Nat)} {w:World} (h:IAt ao L w) (h0:0 < L.length):∃ b o,ao = some ⟨b,o,none⟩ ∧ b < w.heap.size:=by
 rcases h with rfl | ⟨b,o,h1,h2,_⟩
 ·cases h0
 ·exact ⟨b,o,h1,h2⟩
def z1w (L:List (List Nat)):List Value:=L.flatMap (z06 .u8)
theorem z14 {L:List (List Nat)} (h:Ids L):(z1w L).length = L.length * 32:=by
 induction L with
 | nil=>rfl
 | cons x L ih =>
   have h1:=(h x (by simp)).1
   have h2:=ih fun y hy=>h y (by simp [hy])
   simp only [z1w,List.flatMap_cons,List.length_append,z0v,List.length_cons] at *
   omega
theorem z2j (L M:List (List Nat)):z1w (L ++ M) = z1w L ++ z1w M:=by simp [z1w]
theorem z9w (L:List (List Nat)):∀ u ∈ z1w L,u.oneCell' = true:=by
 intro u hu
 simp only [z1w,List.mem_flatMap] at hu
 obtain ⟨x,_,hx⟩:=hu
 exact z4w .u8 x u hx
theorem z3x {L:List (List Nat)} (h:Ids L):∀ {i j:Nat},i < L.length → j < 32 → (z1w L)[32 * i + j]? = (z06 .u8 (L.getD i []))[j]?:=by
 induction L with
 | nil=>intro i j hi _;cases hi
 | cons x L ih =>
   intro i j hi hj
   have h1:=(h x (by simp)).1
   have hx:(z06 .u8 x).length = 32:=by rw [z0v,h1]
   rw [z1w,List.flatMap_cons]
   cases i with
   | zero=>rw [Nat.mul_zero,Nat.zero_add,List.getElem?_append_left (by omega)];rfl
   | succ i =>
     rw [List.getElem?_append_right (by omega),hx,show 32 * (i + 1) + j - 32 = 32 * i + j by omega]
     exact ih (fun y hy=>h y (by simp [hy])) (by simpa using hi) hj
def OwnI (B:Nat) (e:TypeId) (v:Value) (L:List (List Nat)) (w:World):Prop:=w.ownsRow B e 32 v L.length (z1w L)
theorem OwnI.nil (B:Nat) (e:TypeId) (w:World):OwnI B e (.slice none 0 0) [] w:=World.ownsRow_nil _ _ _ _
theorem OwnI.form {B:Nat} {e:TypeId} {v:Value} {L:List (List Nat)} {w:World} (h:OwnI B e v L w):∃ ao cap,v = .slice ao L.length cap:=by
 rcases h.2 with ⟨h1,h2⟩ | ⟨g,cap,_,h1,_⟩
 ·exact ⟨_,_,by rw [h1,h2]⟩
 ·exact ⟨_,_,h1⟩
theorem OwnI.formB {B:Nat} {e:TypeId} {v:Value} {L:List (List Nat)} {w:World} (h:OwnI B e v L w) (h0:0 < L.length):∃ g cap,v = .slice (some ⟨g,0,none⟩) L.length cap ∧ B ≤ g ∧ g < w.heap.size:=by
 rcases h.2 with ⟨_,h2⟩ | ⟨g,cap,cur,h1,h2,h3,_⟩
 ·omega
 ·exact ⟨g,cap,h1,h2,lt_of_block h3⟩
theorem OwnI.below {B:Nat} {e:TypeId} {v:Value} {L:List (List Nat)} {w w':World} (h:OwnI B e v L w) (b:Below w.heap.size w w'):OwnI B e v L w':=by
 refine ⟨h.1,?_⟩
 rcases h.2 with h2 | ⟨g,cap,cur,h1,h2,h3,h4⟩
 ·exact .inl h2
 ·exact .inr ⟨g,cap,cur,h1,h2,(b.block g (lt_of_block h3)).trans h3,h4⟩
theorem OwnI.mono {B B':Nat} {e:TypeId} {v:Value} {L:List (List Nat)} {w:World} (h:OwnI B e v L w) (hB:B' ≤ B):OwnI B' e v L w:=by
 refine ⟨h.1,?_⟩
 rcases h.2 with h2 | ⟨g,cap,cur,h1,h2,h3⟩
 ·exact .inl h2
 ·exact .inr ⟨g,cap,cur,h1,Nat.le_trans hB h2,h3⟩
theorem OwnI.but {B b:Nat} {e:TypeId} {v:Value} {L:List (List Nat)} {w w':World} (h:OwnI B e v L w) (hb:But b w w') (ap:∀ g,v.ownBlock = some g → b ≠ g):OwnI B e v L w':=by
 refine ⟨h.1,?_⟩
 rcases h.2 with h2 | ⟨g,cap,cur,h1,h2,h3,h4⟩
 ·exact .inl h2
 ·exact .inr ⟨g,cap,cur,h1,h2,(hb.block g (lt_of_block h3) (fun e=>ap g (by rw [h1];rfl) e.symm)).trans h3,h4⟩
theorem OwnI.at {B:Nat} {e:TypeId} {ao:Option Addr} {n c:Nat} {L:List (List Nat)} {w:World} (h:OwnI B e (.slice ao n c) L w) (hL:Ids L):IAt ao L w:=by
 by_cases h0:L = []
 ·exact .inl h0
 ·obtain ⟨g,cap,hv,_,hg⟩:=h.formB (List.length_pos_iff.2 h0)
  obtain rfl:ao = some ⟨g,0,none⟩:=by injection hv
  refine .inr ⟨g,0,rfl,hg,fun i hi j v hj=>?_⟩
  have hc:=World.ownsRow.cells h (g:=g) rfl (32 * i + j) v
  have hj16:j < 32:=by
   have:=(List.getElem?_eq_some_iff.1 hj).1
   rw [z0v,(hL.getD hi).1] at this
   exact this
  rw [z3x hL hi hj16,Addr.add_lit,Nat.zero_add] at hc
  rw [Nat.zero_add]
  exact hc hj
theorem z8e {P:Program} {w:World} {ops:Array Oper} {rest:List Oper} {o:Oper} {a:Act} {Q:Exit → Act → World → Prop} (hgd:o.guard = none) (s x:Operand) (t e:TypeId)
 (ho:o.op = .call { callee:=.builtin .append,args:=#[s,x],argTypes:=#[t,t] })
 (B:Nat) (z:Value) (hzs:z.cells.size = 32) (ht:P.underlying t = some (.slice e)) (hinfo:(P.info? e).map (fun i=>(i.zero,i.size,i.bytes)) = some (some z,32,32))
 (v:Value) (L M:List (List Nat)) (hM:Ids M) (ad:Addr) (n c:Nat) (hn:n = M.length) (hs:a.eval s = v) (hown:OwnI B e v L w) (hx:a.eval x = .slice (some ad) n c) (hnews:∀ j u,(z1w M)[j]? = some u → w.cell? (ad.add j) = some u)
 (h63:L.length + M.length ≤ 4398046511104) (hB:B ≤ w.heap.size)
 (h:∀ v' w',Hid (OwnI B e v' (L ++ M) w') → Hid (Below B w w') → wpList P ops Q rest (a.put o.dst v') w'):wpList P ops Q (o :: rest) a w:=by
 obtain ⟨i,hi,hz0,hz1,hz2⟩:=info_parts hinfo
 subst hn
 refine wpList_append_own_at w hgd s x _ ho B e i z 32 32 ht hi hz0 hz1 hz2 hzs (by decide) v L.length (z1w L) hs hown ad M.length c (z1w M) hx (z14 hM) hnews (z9w M) (by unfold maxLen;omega) (by omega) hB ?_
 intro v' w' h2 hg _ _
 refine h v' w' ?_ ((Below.refl B w).grown hg hB (fun k hk=>(World.ownsRow.lt hown k hk).1))
 show w'.ownsRow B e 32 v' (L ++ M).length (z1w (L ++ M))
 rw [List.length_append,z2j]
 exact h2
theorem z0b {P:Program} {ops:Array Oper} {rest:List Oper} {o:Oper} {a:Act} {w:World} {Q:Exit → Act → World → Prop} (hgd:o.guard = none) (ty:TypeId) (x:Operand) (ho:o.op = .load ty x)
 (b off:Nat) (l:List Nat) (d:TypeDesc) (hx:a.eval x = .pointer (some ⟨b,off,none⟩)) (hc:w.rangeAt b off (z06 .u8 l))
 (hu:P.underlying ty = some d) (hd:d.isRow = true) (hi:(P.info? ty).map (·.size) = some l.length)
 (h:wpList P ops Q rest (a.put o.dst (.agg (z06 .u8 l).toArray)) w):wpList P ops Q (o :: rest) a w :=
 wpList_load_mid hgd ty x ho b off hx _ d hc hu hd (by rw [z0v];exact hi) h
theorem z0c {P:Program} {o:Oper} {a:Act} {C:World → Prop} {K:Act → Prop} (ty:TypeId) (x:Operand) (ho:o.op = .load ty x) (b off:Nat) (l:List Nat) (d:TypeDesc)
 (hx:a.eval x = .pointer (some ⟨b,off,none⟩)) (hC:∀ w,C w → w.rangeAt b off (z06 .u8 l)) (hu:P.underlying ty = some d) (hd:d.isRow = true) (hi:(P.info? ty).map (·.size) = some l.length)
 (hk:K (a.put o.dst (.agg (z06 .u8 l).toArray))):o.quiet P a C K:=by
 refine ⟨_,fun w hw=>?_,hk⟩
 unfold Oper.quietAt execOp
 simp only [ho,hx,Instr.loadAt,Instr.sureAddr,Sem.run_bind,Sem.run_pure,Result.andThen_ok,run_loadVar_mid w b off ty _ d (hC w hw) hu hd (by rw [z0v];exact hi)]
 exact ⟨rfl,rfl⟩
theorem z83 {P:Program} {o:Oper} {a:Act} {w:World} {K:Act → World → Prop} {Q:Exit → Act → World → Prop} (ty:TypeId) (x:Operand) (ho:o.op = .load ty x) (b off:Nat) (l:List Nat) (d:TypeDesc)
 (hx:a.eval x = .pointer (some ⟨b,off,none⟩)) (hc:w.rangeAt b off (z06 .u8 l)) (hu:P.underlying ty = some d) (hd:d.isRow = true) (hi:(P.info? ty).map (·.size) = some l.length)
 (h:K (a.put o.dst (.agg (z06 .u8 l).toArray)) w):OpWp P o a w K Q:=by
 refine ⟨?_⟩
 unfold Oper.wp execOp
 simp only [ho,hx,Instr.loadAt,Instr.sureAddr,Sem.run_bind,Sem.run_pure,Result.andThen_ok,run_loadVar_mid w b off ty _ d hc hu hd (by rw [z0v];exact hi)]
 exact h
theorem z6s {H:Type} {enc:TypeId × Value → H} {P:Program} {W:World} {t e:TypeId} {n base fuel:Nat} {sp:Nat → Bool} {held:Bool} {cs:List Value} {x:DataW H × List MemPlace}
 (hu:P.underlying t = some (.array n e)) (he:P.underlying e = some (.int .u8)) (hone:P.cellsOf e = 1) (hsz:P.cellsOf t = n) (h:DataW.trod enc P W base sp held fuel t cs = some x) :
 ∃ l:List Nat,cs = z06 .u8 l ∧ l.length = n ∧ ∀ y ∈ l,y < 256:=by
 obtain ⟨xs,m,_,_,hcl,hxl,hat⟩:=DataW.trod_array hu h
 rw [hsz] at hcl
 have key:∀ i,i < n → ∃ z:Int,cs[i]? = some (.int .u8 z) ∧ 0 ≤ z ∧ z ≤ 255:=by
  intro i hi
  have h1:=hat i hi
  rw [hone,Nat.mul_one,List.getElem?_eq_getElem (by omega)] at h1
  obtain ⟨z,hz,_,hw⟩:=DataW.trod_int he h1
  refine ⟨z,?_,?_⟩
  ·have:=congrArg (fun l=>l[0]?) hz
   simpa [List.getElem?_drop,List.getElem?_take] using this
  ·simp only [Lit.wf,Bool.and_eq_true,decide_eq_true_eq] at hw
   exact ⟨hw.1,hw.2⟩
 refine ⟨cs.map fun v=>(intOf v).toNat,?_,by simp [hcl],?_⟩
 ·refine List.ext_getElem? fun i=>?_
  rw [z06,List.getElem?_map,List.getElem?_map]
  rcases Nat.lt_or_ge i n with hi | hi
  ·obtain ⟨z,h1,h2,h3⟩:=key i hi
   rw [h1]
   simp [intOf]
   omega
  ·rw [List.getElem?_eq_none (by omega)]
   rfl
 ·intro y hy
  obtain ⟨v,hv,rfl⟩:=List.mem_map.1 hy
  obtain ⟨i,hi,rfl⟩:=List.mem_iff_getElem.1 hv
  obtain ⟨z,h1,h2,h3⟩:=key i (by omega)
  rw [List.getElem?_eq_getElem hi] at h1
  obtain h1:=Option.some.inj h1
  rw [h1]
  simp [intOf]
  omega
theorem zd5 {H:Type} {enc:TypeId × Value → H} {P:Program} {W:World} {v:Value} {fuel:Nat} {x:DataW H × List MemPlace} {t e u:TypeId}
 (ht:P.underlying t = some (.slice e)) (hu:P.underlying e = some (.array 32 u)) (he:P.underlying u = some (.int .u8)) (hone:P.cellsOf u = 1) (hsz:P.cellsOf e = 32) (hb16:P.bytesOf e = 32)
 (hf:DataW.trod enc P W 0 (fun _=>true) true fuel t [v] = some x) (hwt:∀ n ∈ DataW.weights P t x.1,n ≤ 140737488351232) :
 ∃ (ao:Option Addr) (L:List (List Nat)) (cap:Nat),v = .slice ao L.length cap ∧ IAt ao L W ∧ Ids L ∧ L.length ≤ 4398046510976 ∧ (ao = none → cap = 0):=by
 rcases Deep.open_slice ht hf with ⟨hcs,_⟩ | ⟨x0,len0,cap0,m,n,D,Pl,hcs,_,hl,hm,hmm,hx,hi⟩
 ·simp only [List.cons.injEq,and_true] at hcs
  subst hcs
  exact ⟨none,[],0,rfl,Or.inl rfl,Ids.nil,by simp,fun _=>rfl⟩
 ·simp only [List.cons.injEq,and_true] at hcs
  subst hcs
  simp only [if_true] at hmm
  subst hmm
  rw [hsz] at hi
  have hd:x.1 = .slice ((List.range len0).map D) ((List.range (m - len0)).map fun j=>D (len0 + j)):=congrArg Prod.fst hx
  rw [hd] at hwt
  simp only [DataW.weights,ht] at hwt
  have hwn:=hwt _ (List.mem_cons_self ..)
  rw [hb16] at hwn
  simp only [List.length_map,List.length_range] at hwn
  have hE:∀ i,i < m → ∃ l:List Nat,(l.length = 32 ∧ ∀ y ∈ l,y < 256) ∧ ∀ j y,(z06 .u8 l)[j]? = some y → W.cell? ((x0.add (i * 32)).add j) = some y:=by
   intro i him
   obtain ⟨cs',hc,htr⟩:=hi i him
   obtain ⟨_,hcl,hat⟩:=World.cells?_some hc
   obtain ⟨l,rfl,h1,h2⟩:=z6s hu he hone hsz htr
   refine ⟨l,⟨h1,h2⟩,fun j y hj=>?_⟩
   have hj16:j < 32:=by
    have:=(List.getElem?_eq_some_iff.1 hj).1
    rw [z0v,h1] at this
    exact this
   rw [hat j hj16]
   exact hj
  let F:Nat → List Nat:=fun i=>if h:i < m then (hE i h).choose else []
  have hF:∀ i,i < m → ((F i).length = 32 ∧ ∀ y ∈ F i,y < 256) ∧ ∀ j y,(z06 .u8 (F i))[j]? = some y → W.cell? ((x0.add (i * 32)).add j) = some y:=by
   intro i him
   show ((if h:i < m then (hE i h).choose else []).length = 32 ∧ _) ∧ _
   simp only [F,dif_pos him]
   exact (hE i him).choose_spec
  have hlen:((List.range len0).map F).length = len0:=by simp
  refine ⟨some x0,(List.range len0).map F,m,by rw [hlen],?_,?_,by rw [hlen];omega,fun h=>by cases h⟩
  ·by_cases h0:len0 = 0
   ·subst h0;exact Or.inl rfl
   ·have h1:=hF 0 (by omega)
    obtain ⟨b,o,spot⟩:=x0
    have hc0:=h1.2 0 ((z06 .u8 (F 0))[0]'(by rw [z0v,h1.1.1];decide)) (List.getElem?_eq_getElem _)
    have hspot:spot = none:=by simpa [Addr.add] using World.cell?_spot hc0
    subst hspot
    refine Or.inr ⟨b,o,rfl,?_,fun i hi2 j y hj=>?_⟩
    ·have:=block_lt_of_cell hc0
     simpa [Addr.add] using this
    ·rw [hlen] at hi2
     have hg:((List.range len0).map F).getD i [] = F i:=by rw [List.getD_eq_getElem?_getD,List.getElem?_map,List.getElem?_range hi2];rfl
     rw [hg] at hj
     have:=(hF i (by omega)).2 j y hj
     rw [Addr.add_mid,Addr.add_mid] at this
     rw [Nat.mul_comm 32 i]
     exact this
  ·intro z hz
   obtain ⟨i,hi2,rfl⟩:=List.mem_map.1 hz
   exact (hF i (by have:=List.mem_range.1 hi2;omega)).1
theorem Ids.set {L:List (List Nat)} (h:Ids L) (i:Nat) {x:List Nat} (hx:x.length = 32) (lx:∀ y ∈ x,y < 256):Ids (L.set i x):=fun z hz=>by
 rcases List.mem_or_eq_of_mem_set hz with hz | rfl
 ·exact h z hz
 ·exact ⟨hx,lx⟩
def zgo (xs:List Value):Nat → List Value → List Value
 | _,[]=>xs
 | o,v :: r=>zgo (xs.set o v) (o + 1) r
theorem z9f:∀ (vs:List Value) (xs:List Value) (o j:Nat),o + vs.length ≤ xs.length → (zgo xs o vs)[j]? = if o ≤ j ∧ j < o + vs.length then vs[j - o]? else xs[j]?
 | [],xs,o,j,_=>by rw [zgo,if_neg (by simp only [List.length_nil];omega)]
 | v :: r, xs, o, j, h => by
   simp only [List.length_cons] at h ⊢
   rw [zgo,z9f r (xs.set o v) (o + 1) j (by rw [List.length_set];omega)]
   by_cases h1:o + 1 ≤ j ∧ j < o + 1 + r.length
   ·rw [if_pos h1,if_pos (by omega),show j - o = (j - (o + 1)) + 1 by omega,List.getElem?_cons_succ]
   ·rw [if_neg h1]
    by_cases h2:j = o
    ·subst h2
     rw [if_pos (by omega),Nat.sub_self,List.getElem?_set_self (by omega)]
     rfl
    ·rw [if_neg (by omega),List.getElem?_set_ne (by omega)]
theorem zdm {L:List (List Nat)} (hL:Ids L) {i:Nat} (hi:i < L.length) {x:List Nat} (hx:x.length = 32) (lx:∀ y ∈ x,y < 256):z1w (L.set i x) = zgo (z1w L) (32 * i) (z06 .u8 x):=by
 have hnx:(z06 .u8 x).length = 32:=by rw [z0v,hx]
 have hfl:=z14 hL
 have hS:=hL.set i hx lx
 have hfs:=z14 hS
 rw [List.length_set] at hfs
 refine List.ext_getElem? fun j=>?_
 rw [z9f _ _ _ _ (by rw [hnx,hfl];omega),hnx]
 rcases Nat.lt_or_ge j (L.length * 32) with hj | hj
 ·obtain ⟨q,m,rfl,hm⟩:∃ q m,j = 32 * q + m ∧ m < 32:=⟨j / 32,j % 32,by omega,Nat.mod_lt _ (by decide)⟩
  rw [z3x hS (by rw [List.length_set];omega) hm,z3x hL (by omega) hm]
  by_cases hq:q = i
  ·subst hq
   rw [if_pos (by omega),show 32 * q + m - 32 * q = m by omega]
   simp [List.getD_eq_getElem?_getD,List.getElem?_set_self hi]
  ·rw [if_neg (by omega)]
   simp [List.getD_eq_getElem?_getD,List.getElem?_set_ne (Ne.symm hq)]
 ·rw [if_neg (by omega),List.getElem?_eq_none (by omega),List.getElem?_eq_none (by omega)]
theorem z8l {B g n c size:Nat} {e:TypeId}:∀ (vs xs:List Value) (o:Nat) (w:World),w.ownsRow B e size (.slice (some ⟨g,0,none⟩) n c) n xs → (w.setCells g o vs).ownsRow B e size (.slice (some ⟨g,0,none⟩) n c) n (zgo xs o vs)
 | [],_,_,_,h=>h
 | v :: r,_,o,_,h=>z8l r _ (o + 1) _ (World.ownsRow.stored h o v).1
theorem OwnI.set {B g n c i:Nat} {e:TypeId} {L:List (List Nat)} {w:World} (hn:n = L.length) (h:OwnI B e (.slice (some ⟨g,0,none⟩) n c) L w) (hL:Ids L) (hi:i < n) {x:List Nat} (hx:x.length = 32) (lx:∀ y ∈ x,y < 256) :
 OwnI B e (.slice (some ⟨g,0,none⟩) n c) (L.set i x) (w.setCells g (32 * i) (z06 .u8 x)):=by
 subst hn
 have h1:=z8l (z06 .u8 x) _ (32 * i) w h
 unfold OwnI
 rw [List.length_set,zdm hL hi hx lx]
 exact h1
theorem OwnI.there {B g n c i:Nat} {e:TypeId} {L:List (List Nat)} {w:World} (hn:n = L.length) (h:OwnI B e (.slice (some ⟨g,0,none⟩) n c) L w) (hL:Ids L) (hi:i < n):w.there g (32 * i) 32:=by
 subst hn
 intro j hj
 exact ⟨by rw [World.ownsRow.cellAt h (32 * i + j) (by omega),List.getElem?_eq_getElem (by rw [z14 hL];omega)];rfl,World.ownsRow.frozenAt h (32 * i + j)⟩
theorem But.setCellsI {b:Nat} {w:World}:∀ (vs:List Value) (o:Nat) (w':World),But b w w' → But b w (w'.setCells b o vs)
 | [],_,_,h=>h
 | v :: r,o,_,h=>But.setCellsI r (o + 1) _ (h.setCell o v)
theorem z61 {P:Program} {w:World} {ops:Array Oper} {rest:List Oper} {o:Oper} {a:Act} {Q:Exit → Act → World → Prop} (hgd:o.guard = none) (ty:TypeId) (x y:Operand) (ho:o.op = .store ty x y) (hd:o.dst = none)
 (B g n c i off:Nat) (e:TypeId) (L:List (List Nat)) (l:List Nat) (hn:n = L.length) (hoff:off = 32 * i) (hx:a.eval x = .pointer (some ⟨g,off,none⟩)) (hy:a.eval y = .agg (z06 .u8 l).toArray)
 (hO:OwnI B e (.slice (some ⟨g,0,none⟩) n c) L w) (hL:Ids L) (hi:i < n) (hl:l.length = 32) (ll:∀ y ∈ l,y < 256) (hty:(P.info? ty).map (·.size) = some 32)
 (h:∀ w',Hid (OwnI B e (.slice (some ⟨g,0,none⟩) n c) (L.set i l) w') → Hid (But g w w') → wpList P ops Q rest a w'):wpList P ops Q (o :: rest) a w:=by
 subst hoff
 have hs:(z06 .u8 l).toArray.size = 32:=by rw [List.size_toArray,z0v,hl]
 refine wpList_store_mid hgd ty x y ho g (32 * i) _ hx hy (by rw [hs];exact hO.there hn hL hi) (by rw [hs];exact hty) (all_oneCell_toArray (z4w _ _)) ?_
 rw [hd]
 refine h _ ?_ ?_
 ·exact (hO.set hn hL hi hl ll)
 ·exact (But.setCellsI _ _ _ (But.refl _ _))
theorem z0g {b o B:Nat} {cs:List Value} {w w':World} (h:w.rangeAt b o cs) (hb:Below B w w') (hB:b < B):w'.rangeAt b o cs:=fun j v hv=>(hb.cell (p:=⟨b,o + j,none⟩) hB).trans (h j v hv)
theorem Tryz.infoI32:(Tryz.prog.info? 25).map (fun i=>(i.zero,i.size,i.bytes)) = some (some (.agg (z06 .u8 (List.replicate 32 0)).toArray),32,32):=by kernel_rfl
theorem z17 {P:Program} {ops:Array Oper} {rest:List Oper} {o:Oper} {a:Act} {w:World} {Q:Exit → Act → World → Prop} (hg:o.guard = none) (t e:TypeId) (x:Operand) (ho:o.op = .buildSlice t 1 #[(0,x)])
 (l:List Nat) (hx:a.eval x = .agg (z06 .u8 l).toArray) (hl:l.length = 32) (ht:P.underlying t = some (.slice e)) (hinfo:(P.info? e).map (fun i=>(i.zero,i.size,i.bytes)) = some (some (.agg (z06 .u8 (List.replicate 32 0)).toArray),32,32))
 (h:∀ w',Hid (Blk w.heap.size e .u8 l w') → Hid (Below w.heap.size w w') → wpList P ops Q rest (a.put o.dst (.slice (some ⟨w.heap.size,0,none⟩) 1 1)) w'):wpList P ops Q (o :: rest) a w:=by
 obtain ⟨ie,hi,hz0,hz1,_⟩:=info_parts hinfo
 refine wpList_buildSlice hg t e 1 #[(0,x)] ho (z06 .u8 l).toArray ie _ ht hi hz0 (by rw [hz1];decide) (by rw [hz1];decide) ?_ (h _ (heap_alloc_new w _) ((Below.refl _ w).alloc (Nat.le_refl _) _))
 rw [hz1]
 have h1:=Great.fill_whole (s:=32) (by decide) [Value.agg (z06 .u8 l).toArray] ((Array.range (1 * 32)).map ((Value.agg (z06 .u8 (List.replicate 32 0)).toArray).cells[· % (Value.agg (z06 .u8 (List.replicate 32 0)).toArray).cells.size]!))
  (fun v hv=>by obtain rfl:=List.mem_singleton.1 hv;show (z06 .u8 l).toArray.size = 32;rw [List.size_toArray,z0v,hl]) (by simp)
 have e1:((#[(0,x)]:Array (Nat × Operand)).map fun (i,x)=>(i,a.eval x)).toList = ([Value.agg (z06 .u8 l).toArray].zipIdx 0).map fun x=>(x.2,x.1):=by
  simp [hx,List.zipIdx_cons]
 have e2:([Value.agg (z06 .u8 l).toArray].flatMap fun v=>v.cells.toList).toArray = (z06 .u8 l).toArray:=by
  rw [List.flatMap_cons,List.flatMap_nil,List.append_nil]
  rfl
 rw [e1,h1,e2]
theorem z2b (a b:List Nat) (ha:a.length = 32) (hb:b.length = 32) (la:∀ x ∈ a,x < 256) (lb:∀ x ∈ b,x < 256) (w:World) :
 (Op.equalIn 10000 25 (.agg (z06 .u8 a).toArray) (.agg (z06 .u8 b).toArray)).run Tryz.prog w = .ok (a == b) w :=
 zg6 _ _ _ Tryz.underlying25 Tryz.underlying5 Tryz.sizeOf5 a b ha hb la lb w
end Go.Proofs.YtnbldbbbibpobaaGreatDoor
namespace Go.Proofs.YtnbldbbbibpobaaGreatDoor
open Go.RowKit
structure Only (O:Nat → Prop) (w w':World):Prop where
 os:w'.os = w.os
 tape:w'.tape = w.tape
 output:w'.output = w.output
 size:w.heap.size ≤ w'.heap.size
 block:∀ k,k < w.heap.size → ¬ O k → w'.heap[k]? = w.heap[k]?
theorem Only.refl (O:Nat → Prop) (w:World):Only O w w:=⟨rfl,rfl,rfl,Nat.le_refl _,fun _ _ _=>rfl⟩
theorem Only.below {O:Nat → Prop} {w w1 w2:World} (h:Only O w w1) (k:Below w1.heap.size w1 w2):Only O w w2 :=
 ⟨k.os.trans h.os,k.tape.trans h.tape,k.output.trans h.output,Nat.le_trans h.size k.size,fun i hi hO=>(k.block i (Nat.lt_of_lt_of_le hi h.size)).trans (h.block i hi hO)⟩
theorem Only.of {O:Nat → Prop} {w w':World} (h:Below w.heap.size w w'):Only O w w':=(Only.refl O w).below h
theorem Only.but {O:Nat → Prop} {b:Nat} {w w1 w2:World} (h:Only O w w1) (k:But b w1 w2) (hb:O b ∨ w.heap.size ≤ b):Only O w w2 :=
 ⟨k.os.trans h.os,k.tape.trans h.tape,k.output.trans h.output,Nat.le_trans h.size k.size,fun i hi hO=>(k.block i (Nat.lt_of_lt_of_le hi h.size) (fun e=>by
  subst e
  rcases hb with hb | hb
  ·exact hO hb
  ·omega)).trans (h.block i hi hO)⟩
theorem Only.grown {O:Nat → Prop} {row:Option Nat} {w w1 w2:World} (h:Only O w w1) (k:w1.grownBy w2 row) (hr:∀ b,row = some b → O b ∨ w.heap.size ≤ b):Only O w w2 :=
 ⟨k.os.trans h.os,k.tape.trans h.tape,k.output.trans h.output,Nat.le_trans h.size k.size,fun i hi hO=>(k.block i (Nat.lt_of_lt_of_le hi h.size) (fun e=>by
  rcases hr i e.symm with hb | hb
  ·exact hO hb
  ·omega)).trans (h.block i hi hO)⟩
theorem Only.setCell {O:Nat → Prop} {w w1:World} (h:Only O w w1) {b:Nat} (o:Nat) (v:Value) (hb:O b ∨ w.heap.size ≤ b):Only O w (w1.setCell ⟨b,o,none⟩ v):=h.but ((But.refl b w1).setCell o v) hb
theorem Only.trans {O O':Nat → Prop} {w1 w2 w3:World} (h:Only O w1 w2) (k:Only O' w2 w3) (ho:∀ b,O' b → O b ∨ w1.heap.size ≤ b):Only O w1 w3 :=
 ⟨k.os.trans h.os,k.tape.trans h.tape,k.output.trans h.output,Nat.le_trans h.size k.size,fun i hi hO=>(k.block i (Nat.lt_of_lt_of_le hi h.size) (fun e=>by
  rcases ho i e with hb | hb
  ·exact hO hb
  ·omega)).trans (h.block i hi hO)⟩
theorem Only.toBelow {O:Nat → Prop} {B:Nat} {w0 w w':World} (h0:Below B w0 w) (h:Only O w w') (hO:∀ b,O b → B ≤ b) (hB:B ≤ w.heap.size):Below B w0 w' :=
 h0.trans ⟨h.os,h.tape,h.output,h.size,fun k hk=>h.block k (Nat.lt_of_lt_of_le hk hB) (fun e=>by have:=hO k e;omega)⟩
structure Turn (O O':Nat → Prop) (w w':World):Prop where
 only:Only O w w'
 own:∀ b,O' b → O b ∨ w.heap.size ≤ b
theorem Turn.refl (O:Nat → Prop) (w:World):Turn O O w w:=⟨Only.refl O w,fun _ h=>.inl h⟩
theorem Turn.trans {O O' O'':Nat → Prop} {w1 w2 w3:World} (h:Turn O O' w1 w2) (k:Turn O' O'' w2 w3):Turn O O'' w1 w3 :=
 ⟨h.only.trans k.only h.own,fun b hb=>by
  rcases k.own b hb with h1 | h1
  ·exact h.own b h1
  ·exact .inr (Nat.le_trans h.only.size h1)⟩
theorem Turn.below {O O':Nat → Prop} {w1 w2 w3:World} (h:Turn O O' w1 w2) (k:Below w2.heap.size w2 w3):Turn O O' w1 w3:=⟨h.only.below k,h.own⟩
theorem Turn.of {O:Nat → Prop} {w w':World} (k:Below w.heap.size w w'):Turn O O w w':=(Turn.refl O w).below k
theorem Cells.only {O:Nat → Prop} {b:Nat} {t:TypeId} {cs:Array Value} {w w':World} (h:Cells b t cs w) (k:Only O w w') (hb:¬ O b):Cells b t cs w':=(k.block b h.lt hb).trans h
theorem Cells.set {g:Nat} {t:TypeId} {cs:Array Value} {w:World} (h:Cells g t cs w) (j:Nat) (u:Value):Cells g t (cs.setIfInBounds j u) (w.setCell ⟨g,j,none⟩ u):=z2n h
theorem Cells.at {g:Nat} {t:TypeId} {cs:Array Value} {w:World} (h:Cells g t cs w) (j:Nat):w.cell? ⟨g,j,none⟩ = cs[j]?:=Lib.cell_of_heap h j
theorem Cells.frozen {g:Nat} {t:TypeId} {cs:Array Value} {w:World} (h:Cells g t cs w) (j:Nat):w.frozen? ⟨g,j,none⟩ = false:=by
 have h':w.heap[g]? = some (.cells cs t (0,0)):=h
 simp [World.frozen?,h']
theorem conv_in {P:Program} {src dst e:TypeId} (hs:P.underlying src = some (.slice e)) (he:P.underlying e = some (.int .u8)) (hd:P.underlying dst = some .string) {ao:Option Addr} {c:Nat} {b:List UInt8} {w:World} (h:NumsAt ao .u8 (z10 b) w) :
 (convert src dst (.slice ao b.length c)).run P w = .ok (.string ⟨b.toArray⟩) w:=by
 rcases h with h | ⟨g,o,rfl,_,hc⟩
 ·obtain rfl:b = []:=by simpa [z10] using h
  rw [run_convert_bytes_string w src dst e _ _ c hs he hd]
  cases ao <;> simp [Conv.bytesToString,loadCells]
  all_goals rfl
 ·refine run_convert_bytes_back w src dst e ⟨g,o,none⟩ c b hs he hd (fun j hj=>?_)
  rw [Addr.add_mid]
  have:=hc j (by rw [z0w];exact hj)
  rw [this]
  simp [z10]
theorem zar {P:Program} {o:Oper} {a:Act} {C:World → Prop} {K:Act → Prop} (t u:TypeId) (x:Operand) (ho:o.op = .convert t u x) (v r:Value) (hx:a.eval x = v)
 (hC:∀ w,C w → (convert t u v).run P w = .ok r w) (hk:K (a.put o.dst r)):o.quiet P a C K:=by
 refine ⟨_,fun w hw=>?_,hk⟩
 unfold Oper.quietAt execOp
 simp only [ho,hx,Sem.run_bind,hC w hw,Result.andThen_ok,Sem.run_pure]
 exact ⟨rfl,rfl⟩
end Go.Proofs.YtnbldbbbibpobaaGreatDoor
