/-
  Joined: Regions whose order is open: laws; what every layer over digests wants.; The values of a printed region, together: what each is once it is there.; Operations as plain mathematics: which can be, their bytes, what bytes are.; Sizes of drafts and operations that the laws let through.; The document's numbers of layer 2 as mathematics; rows of numbers; digests as mathematics.; An operation's name, as mathematics.; Layer 10 as plain mathematics: which operations are there, which wait, what comes by one that is taken.
-/
import Derived.Deep.Quiet
import Derived.Laws.ResultCell
import Derived.StillTail
import Derived.Test.YtnbldbbbibpobaaGreatDoorJ01
set_option maxHeartbeats 1000000
namespace Go.Proofs.YtnbldbbbibpobaaGreatDoor
open Go.RowKit
section
variable {P:Program} {ops:Array Oper} {md:Region.Mode} {C:World → Prop}
def zf3 (P:Program) (md:Region.Mode) (ops:Array Oper) (C:World → Prop) (n:Nat) (L:Array Bool → Act → Prop):Nat → Array Bool → Act → Prop
 | 0,seen,a=>L seen a
 | f + 1,seen,a=>Region.ready md ops seen ≠ [] ∧ ∀ i,i ∈ Region.ready md ops seen → i < n ∧ qOp P ops C i (zf3 P md ops C n L f (seen.setIfInBounds i true)) a
theorem zd5 {n g:Nat} {L:Array Bool → Act → Prop} {Q:Exit → Act → World → Prop} (hL:∀ seen a w,C w → L seen a → wpAny P md ops Q g seen a w) (f:Nat) :
 ∀ (seen:Array Bool) (a:Act) (w:World),C w → zf3 P md ops C n L f seen a → wpAny P md ops Q (f + g) seen a w:=by
 induction f with
 | zero=>intro seen a w hw h;rw [Nat.zero_add];exact hL seen a w hw h
 | succ f ih =>
   intro seen a w hw h
   rw [Nat.add_right_comm]
   exact ⟨fun e=>(h.1 e).elim,fun i hi=>wpOp_of_qOp hw (fun a' w' hw' h'=>ih _ a' w' hw' h') (h.2 i hi).2⟩
theorem zg6 {n i:Nat} {o:Oper} {v:Value} {L:Array Bool → Act → Prop} (ho:ops[i]? = some o) (hns:Region.noSelect ops = true) (hsink:Region.sinkB md ops n = true) (hchain:Region.chainB md ops n = true) (hn:n < ops.size) (hi:i < n)
 (hend:∀ seen a,L seen a → ∀ j ∈ Region.ready md ops seen,n ≤ j) (f:Nat) :
 ∀ (seen : Array Bool) (a : Act), HeadInv md ops n seen →
   (∀ j p,ops[j]? = some p → j ≠ i → seen.getD j true = false → (∀ e ∈ p.after,Region.binds md e = true → e.on ≠ i) → o.apart ops p = true) →
   i ∈ Region.ready md ops seen → YieldsIn P ops C o v a → zf3 P md ops C n L f (seen.setIfInBounds i true) (a.put o.dst v) → zf3 P md ops C n L (f + 1) seen a:=by
 have hsel:=Region.noSelect_spec hns
 induction f with
 | zero =>
   intro seen a inv _ hr hy H
   refine ⟨List.ne_nil_of_mem hr,fun j hj=>?_⟩
   have hjn:j < n:=Nat.lt_of_not_le fun h=>tail_waits hsink hchain hn inv _ i rfl hi (mem_ready.1 hr).1 j h hj
   refine ⟨hjn,?_⟩
   by_cases e:j = i
   ·subst e
    exact hy.qOp ho H
   ·exact absurd (hend _ _ H j (ready_mono hj e)) (by omega)
 | succ f ih =>
   intro seen a inv hfree hr hy H
   refine ⟨List.ne_nil_of_mem hr,fun j hj=>?_⟩
   have hjn:j < n:=Nat.lt_of_not_le fun h=>tail_waits hsink hchain hn inv _ i rfl hi (mem_ready.1 hr).1 j h hj
   refine ⟨hjn,?_⟩
   by_cases e:j = i
   ·subst e
    exact hy.qOp ho H
   ·obtain ⟨hjs,p,hp,hall⟩:=mem_ready.1 hj
    have hno:∀ x ∈ p.after,Region.binds md x = true → x.on ≠ i:=fun x hx hb ex=>by
     have h1:=hall x hx hb
     rw [ex,getD_both (mem_ready.1 hr).1] at h1
     cases h1
    refine qOp_mono (fun a' h3=>?_) (qOp_put hp (hfree j p hp e hjs hno) (fun cs b=>hsel i o cs b ho) (fun cs b=>hsel j p cs b hp) hy (H.2 j (ready_mono hj e)).2)
    refine ih _ a' (inv.set hj hjn) (fun k q hq hk hs hnk=>?_) (ready_mono hr (Ne.symm e)) h3.1 ?_
    ·refine hfree k q hq hk ?_ hnk
     by_cases ek:j = k
     ·subst ek;exact hjs
     ·rwa [getD_set_ne true ek] at hs
    ·rw [Array.setIfInBounds_comm _ _ e]
     exact h3.2
theorem zjy {n g:Nat} {M:Act → Prop} (hns:Region.noSelect ops = true) (hsink:Region.sinkB md ops n = true) (hchain:Region.chainB md ops n = true) (hn:n < ops.size) (l:List Oper) :
 ∀ (k:Nat) (seen:Array Bool) (a:Act),(∀ j,j < l.length → l[j]? = ops[k + j]?) → k + l.length = n → HeadInv md ops n seen → Region.lexHead md ops g l.length k seen = true → wpQuiet P ops C M l a →
 zf3 P md ops C n (fun seen' a'=>Region.seqB md ops g n seen' = true ∧ M a') l.length seen a:=by
 induction l with
 | nil =>
   intro k seen a _ hk _ hB h
   obtain rfl:k = n:=hk
   exact ⟨hB,h⟩
 | cons o l ih =>
   intro k seen a hl hk inv hB h
   have ho:ops[k]? = some o:=by simpa using (hl 0 (by simp)).symm
   have hlen:(o :: l).length = l.length + 1:=rfl
   rw [hlen] at hk hB
   simp only [Region.lexHead,Bool.and_eq_true] at hB
   have hkr:k ∈ Region.ready md ops seen:=by simpa using hB.1.1
   obtain ⟨v,hy,hK⟩:=yieldsIn_of_qOp ho (show qOp P ops C k (wpQuiet P ops C M l) a by unfold qOp;simp only [ho];exact h)
   refine zg6 ho hns hsink hchain hn (by omega) (fun seen' a' hL=>seqB_ready hL.1) l.length seen a inv (Region.free_spec ho hB.1.2) hkr hy (ih (k + 1) _ _ (fun j hj=>?_) (by omega) (inv.set hkr (by omega)) hB.2 hK)
   have:=hl (j + 1) (by simp;omega)
   rw [List.getElem?_cons_succ] at this
   rw [this]
   congr 1
   omega
theorem z0c {id:Nat} {Q:Exit → Act → World → Prop} {a:Act} {w:World} {l:List Oper} (C:World → Prop) (n:Nat) (hm:P.follows .mixedOrders = true) (hB:Region.lexTailB .any l.toArray n = true) (hC:C w.drew)
 (h:wpQuiet P l.toArray C (fun a'=>∀ w',C w' → wpList P l.toArray Q (l.drop n) a' w') (l.take n) a):(Code.region id l.toArray true).wp P Q a w:=by
 simp only [Region.lexTailB,Bool.and_eq_true,decide_eq_true_eq] at hB
 obtain ⟨⟨⟨⟨hns,hn⟩,hsink⟩,hchain⟩,hlex⟩:=hB
 have hsz:l.toArray.size = l.length:=by simp
 have ht:(l.take n).length = n:=by rw [List.length_take];omega
 have hd:(l.drop n).length = l.toArray.size - n:=by rw [List.length_drop,hsz]
 have inv:HeadInv .any l.toArray n (Array.replicate l.toArray.size false) :=
  ⟨Array.size_replicate,fun j p _ hs=>(by rw [getD_replicate_false] at hs;cases hs),fun t _ ht'=>getD_in (by rw [Array.size_replicate];exact ht') (getD_replicate_false _ _)⟩
 have H:=zjy (md:=.any) (g:=l.toArray.size - n) hns hsink hchain hn (l.take n) 0 _ a (fun j hj=>by
  rw [ht] at hj
  simp [hj]) (by omega) inv (by rw [ht];exact hlex) h
 have A:=zd5 (Q:=Q) (g:=l.toArray.size - n) (fun seen a' w' hw' hL=>by
  have:=wpAny_of_seq (md:=.any) (Q':=Q) (l.drop n) n seen a' w' (fun j=>by simp [List.getElem?_drop]) (by rw [hd];exact hL.1) (hL.2 w' hw')
  rwa [hd] at this) _ _ a w.drew hC H
 rw [ht,show n + (l.toArray.size - n) = l.toArray.size by omega] at A
 exact wp_region_any hm A
end
section
variable {P:Program} {ops:Array Oper} {md:Region.Mode}
def left (seen:Array Bool) (n:Nat):Nat:=(List.range n).countP fun i=>!seen.getD i false
theorem zet {seen:Array Bool} {n:Nat} (h:left seen n = 0) (i:Nat) (hi:i < n):seen.getD i false = true:=by
 have:=List.countP_eq_zero.1 h i (List.mem_range.2 hi)
 simpa using this
theorem left_set {seen:Array Bool} {i:Nat} (hs:i < seen.size) (hu:seen.getD i false = false):∀ n,i < n → left (seen.setIfInBounds i true) n + 1 = left seen n:=by
 intro n
 induction n with
 | zero=>intro h;omega
 | succ n ih =>
   intro h
   simp only [left,List.range_succ,List.countP_append,List.countP_cons,List.countP_nil] at ih ⊢
   by_cases e:i = n
   ·subst e
    have h1:(seen.setIfInBounds i true).getD i false = true:=by simp [hs]
    have h2:(List.range i).countP (fun j=>!(seen.setIfInBounds i true).getD j false) = (List.range i).countP (fun j=>!seen.getD j false):=by
     refine List.countP_congr fun j hj=>?_
     rw [getD_set_ne false (by have:=List.mem_range.1 hj;omega)]
    rw [h1,h2,hu]
    simp
   ·have h1:(seen.setIfInBounds i true).getD n false = seen.getD n false:=getD_set_ne false e
    rw [h1]
    have:=ih (by omega)
    omega
theorem zjn {seen:Array Bool}:∀ {n:Nat},left seen n ≠ 0 → ∃ k,k < n ∧ seen.getD k false = false ∧ ∀ j,j < k → seen.getD j false = true:=by
 intro n
 induction n with
 | zero=>intro h;exact absurd rfl h
 | succ n ih =>
   intro h
   by_cases h0:left seen n = 0
   ·refine ⟨n,by omega,?_,zet h0⟩
    simp only [left,List.range_succ,List.countP_append,List.countP_cons,List.countP_nil] at h h0
    cases hs:seen.getD n false with
    | false=>rfl
    | true=>exact absurd h0 (by rw [hs] at h;simpa using h)
   ·obtain ⟨k,hk,h1,h2⟩:=ih h0
    exact ⟨k,by omega,h1,h2⟩
theorem zfd {g:Nat} (f:Nat):∀ (k:Nat) (seen:Array Bool),seen.size = ops.size → (∀ j,seen.getD j false = decide (j < k)) → k + f ≤ ops.size → Region.lexHead md ops g f k seen = true →
 (∀ j,k ≤ j → j < k + f → ∃ o,ops[j]? = some o ∧ ∀ e ∈ o.after,Region.binds md e = true → e.on < j) ∧ ∃ full:Array Bool,full.size = ops.size ∧ (∀ j,full.getD j false = decide (j < k + f)) ∧ Region.seqB md ops g (k + f) full = true:=by
 induction f with
 | zero=>intro k seen hz hs _ hB;exact ⟨fun j h1 h2=>by omega,seen,hz,hs,hB⟩
 | succ f ih =>
   intro k seen hz hs hf hB
   simp only [Region.lexHead,Bool.and_eq_true] at hB
   have hkr:k ∈ Region.ready md ops seen:=by simpa using hB.1.1
   obtain ⟨_,o,ho,hall⟩:=mem_ready.1 hkr
   obtain ⟨h1,full,h2,h3,h4⟩:=ih (k + 1) (seen.setIfInBounds k true) (by simpa using hz) (fun j=>by
    by_cases e:k = j
    ·subst e
     have:k < seen.size:=by omega
     simp [this]
    ·rw [getD_set_ne false e,hs j]
     exact decide_eq_decide.2 (by omega)) (by omega) hB.2
   refine ⟨fun j hj1 hj2=>?_,full,h2,fun j=>by rw [h3 j];exact decide_eq_decide.2 (by omega),by rw [show k + (f + 1) = k + 1 + f by omega];exact h4⟩
   by_cases e:j = k
   ·subst e
    refine ⟨o,ho,fun x hx hb=>?_⟩
    have:=hall x hx hb
    rw [hs] at this
    simpa using this
   ·exact h1 j (by omega) (by omega)
theorem ze1 {id:Nat} {Q:Exit → Act → World → Prop} {a:Act} {w:World} {l:List Oper} (n:Nat) (Inv:Array Bool → Act → World → Prop) (hm:P.follows .mixedOrders = true) (hB:Region.lexTailB .any l.toArray n = true)
 (h0:Inv (Array.replicate l.toArray.size false) a w.drew)
 (hstep:∀ seen a w i,i < n → i ∈ Region.ready .any l.toArray seen → i < seen.size → Inv seen a w → wpOp P l.toArray Q i (fun a' w'=>Inv (seen.setIfInBounds i true) a' w') a w)
 (hend:∀ seen a w,(∀ i,i < n → seen.getD i false = true) → Inv seen a w → wpList P l.toArray Q (l.drop n) a w):(Code.region id l.toArray true).wp P Q a w:=by
 simp only [Region.lexTailB,Bool.and_eq_true,decide_eq_true_eq] at hB
 obtain ⟨⟨⟨⟨hns,hn⟩,hsink⟩,hchain⟩,hlex⟩:=hB
 have hsz:l.toArray.size = l.length:=by simp
 have hd:(l.drop n).length = l.toArray.size - n:=by rw [List.length_drop,hsz]
 obtain ⟨hdeps,full,hfz,hfull,hseq⟩:=zfd (md:=.any) (ops:=l.toArray) n 0 _ Array.size_replicate (fun j=>by rw [getD_replicate_false];simp) (by omega) hlex
 rw [Nat.zero_add] at hseq
 have key:∀ r seen a w,HeadInv .any l.toArray n seen → left seen n = r → Inv seen a w → wpAny P .any l.toArray Q (r + (l.toArray.size - n)) seen a w:=by
  intro r
  induction r with
  | zero =>
    intro seen a w inv hr hI
    have hall:=zet hr
    have hsame:seen = full:=by
     refine Array.ext (by rw [inv.size,hfz]) fun j h1 h2=>?_
     have e1:=hfull j
     have e2:seen.getD j false = decide (j < 0 + n):=by
      by_cases hj:j < n
      ·rw [hall j hj];simp [hj]
      ·have:=getD_both (inv.tail j (by omega) (by rw [← inv.size];exact h1))
       rw [this];simp [hj]
     rw [← e1] at e2
     simpa [h1,h2] using e2
    have:=wpAny_of_seq (md:=.any) (Q':=Q) (l.drop n) n seen a w (fun j=>by simp [List.getElem?_drop]) (by rw [hd,hsame];exact hseq) (hend seen a w hall hI)
    rw [hd] at this
    rw [Nat.zero_add]
    exact this
  | succ r ih =>
    intro seen a w inv hr hI
    rw [Nat.add_right_comm]
    obtain ⟨k,hk,hku,hkl⟩:=zjn (seen:=seen) (n:=n) (by omega)
    have hks:k < seen.size:=by rw [inv.size];omega
    have hkr:k ∈ Region.ready .any l.toArray seen:=by
     obtain ⟨o,ho,hb⟩:=hdeps k (by omega) (by omega)
     exact mem_ready.2 ⟨getD_in hks hku,o,ho,fun e he hbe=>hkl _ (hb e he hbe)⟩
    refine ⟨fun e=>(by rw [e] at hkr;cases hkr),fun i hi=>?_⟩
    have hin:i < n:=Nat.lt_of_not_le fun h=>tail_waits hsink hchain hn inv _ k rfl hk (getD_in hks hku) i h hi
    have his:i < seen.size:=by rw [inv.size];omega
    refine wpOp_mono (fun a' w' hI'=>ih _ a' w' (inv.set hi hin) ?_ hI') (hstep seen a w i hin hi his hI)
    have:=left_set his (getD_both (mem_ready.1 hi).1) n hin
    omega
 have inv0:HeadInv .any l.toArray n (Array.replicate l.toArray.size false) :=
  ⟨Array.size_replicate,fun j p _ hs=>(by rw [getD_replicate_false] at hs;cases hs),fun t _ ht'=>getD_in (by rw [Array.size_replicate];exact ht') (getD_replicate_false _ _)⟩
 have H:=key n _ a w.drew inv0 (by
  have:∀ m,left (Array.replicate l.toArray.size false) m = m:=fun m=>by
   unfold left
   rw [List.countP_eq_length.2 (fun i _=>by rw [getD_replicate_false];rfl),List.length_range]
  exact this n) h0
 rw [show n + (l.toArray.size - n) = l.toArray.size by omega] at H
 exact wp_region_any hm H
end
section
variable {P:Program}
def z0h:List Oper → (Nat → Value) → Act → Act
 | [],_,a=>a
 | o :: l,V,a=>z0h l (fun i=>V (i + 1)) (a.put o.dst (V 0))
def zim:List Oper → Bool
 | []=>true
 | o :: l=>l.all (fun p=>!(o.dst == p.dst)) && zim l
def upd (V:Nat → Value) (i:Nat) (v:Value):Nat → Value:=fun j=>if j = i then v else V j
theorem z2p (V:Nat → Value) (i:Nat) (v:Value):upd V i v i = v:=by simp [upd]
theorem z23 (V:Nat → Value) {i j:Nat} (v:Value) (h:j ≠ i):upd V i v j = V j:=by simp [upd,h]
theorem put_put (a:Act) (d:Option Tmp) (u v:Value):(a.put d u).put d v = a.put d v:=by
 cases d with
 | none=>rfl
 | some d=>simp [Act.put]
theorem zj7 (l:List Oper) (o:Oper) (v:Value) (h:l.all (fun p=>!(o.dst == p.dst)) = true):∀ (V:Nat → Value) (a:Act),z0h l V (a.put o.dst v) = (z0h l V a).put o.dst v:=by
 induction l with
 | nil=>intro V a;rfl
 | cons p l ih =>
   intro V a
   simp only [List.all_cons,Bool.and_eq_true] at h
   rw [z0h,z0h,Act.put_comm a v (V 0) (fun d hd e=>by rw [hd,e] at h;simp at h),ih h.2]
theorem zje (l:List Oper) (h:zim l = true):∀ (i:Nat) (o:Oper) (v:Value) (V:Nat → Value) (a:Act),l[i]? = some o → z0h l (upd V i v) a = (z0h l V a).put o.dst v:=by
 induction l with
 | nil=>intro i o v V a ho;simp at ho
 | cons p l ih =>
   intro i o v V a ho
   simp only [zim,Bool.and_eq_true] at h
   cases i with
   | zero =>
     obtain rfl:p = o:=by simpa using ho
     rw [z0h,z0h,← zj7 l p v h.1,put_put]
     rfl
   | succ i =>
     rw [z0h,z0h,← ih h.2 i o v (fun j=>V (j + 1)) _ (by simpa using ho)]
     congr 1
     funext j
     simp [upd]
structure OpWp (P:Program) (o:Oper) (a:Act) (w:World) (K:Act → World → Prop) (Q:Exit → Act → World → Prop):Prop where
 out:Oper.wp P o a w K Q
structure FreeStep (P:Program) (ops:Array Oper) (Q:Exit → Act → World → Prop) (F:(Nat → Value) → Act) (Inv:(Nat → Bool) → (Nat → Value) → World → Prop) (o:Oper) (i:Nat):Prop where
 go:∀ s V w,(∀ e ∈ o.after,Region.binds .any e = true → s e.on = true) → s i = false → Inv s V w →
  ∀ K : Act → World → Prop, (∀ v w', Inv (fun j => s j || j == i) (upd V i v) w' → K ((F V).put o.dst v) w') →
    if Region.wanted o (yielded ops (F V).tmps) = true then Oper.wp P o (F V) w K Q else K ((F V).put o.dst undef) w
def FreeSteps (P:Program) (ops:Array Oper) (Q:Exit → Act → World → Prop) (F:(Nat → Value) → Act) (Inv:(Nat → Bool) → (Nat → Value) → World → Prop):List Oper → Nat → Prop
 | [],_=>True
 | o :: l,i=>FreeStep P ops Q F Inv o i ∧ FreeSteps P ops Q F Inv l (i + 1)
theorem zQn {ops:Array Oper} {Q:Exit → Act → World → Prop} {F:(Nat → Value) → Act} {Inv:(Nat → Bool) → (Nat → Value) → World → Prop} {i:Nat}:FreeSteps P ops Q F Inv [] i:=trivial
theorem zQc {ops:Array Oper} {Q:Exit → Act → World → Prop} {F:(Nat → Value) → Act} {Inv:(Nat → Bool) → (Nat → Value) → World → Prop} {o:Oper} {l:List Oper} {i:Nat} (h:FreeStep P ops Q F Inv o i) (hs:FreeSteps P ops Q F Inv l (i + 1)):FreeSteps P ops Q F Inv (o :: l) i:=⟨h,hs⟩
theorem zQf {ops:Array Oper} {Q:Exit → Act → World → Prop} {F:(Nat → Value) → Act} {Inv:(Nat → Bool) → (Nat → Value) → World → Prop} {o:Oper} {i:Nat} (hg:o.guard = none)
 (h:∀ s V w,(∀ e ∈ o.after,Region.binds .any e = true → s e.on = true) → s i = false → Inv s V w → ∀ K:Act → World → Prop,(∀ v w',Inv (fun j=>s j || j == i) (upd V i v) w' → K ((F V).put o.dst v) w') → OpWp P o (F V) w K Q):FreeStep P ops Q F Inv o i:=⟨fun s V w hr hu hI K hK=>by
 have hw:Region.wanted o (yielded ops (F V).tmps) = true:=by simp [Region.wanted,hg]
 rw [if_pos hw]
 exact (h s V w hr hu hI K hK).out⟩
theorem FreeSteps.get {ops:Array Oper} {Q:Exit → Act → World → Prop} {F:(Nat → Value) → Act} {Inv:(Nat → Bool) → (Nat → Value) → World → Prop} (l:List Oper):∀ (i k:Nat) (o:Oper),FreeSteps P ops Q F Inv l k → l[i]? = some o → FreeStep P ops Q F Inv o (k + i):=by
 induction l with
 | nil=>intro i k o _ ho;simp at ho
 | cons p l ih =>
   intro i k o h ho
   cases i with
   | zero =>
     obtain rfl:p = o:=by simpa using ho
     exact h.1
   | succ i =>
     have:=ih i (k + 1) o h.2 (by simpa using ho)
     rwa [show k + 1 + i = k + (i + 1) by omega] at this
theorem z0e {id:Nat} {Q:Exit → Act → World → Prop} {a:Act} {w:World} {l:List Oper} (n:Nat) (Inv:(Nat → Bool) → (Nat → Value) → World → Prop) (V0:Nat → Value) (hm:P.follows .mixedOrders = true) (hB:Region.lexTailB .any l.toArray n = true) (hd:zim (l.take n) = true)
 (ha:z0h (l.take n) V0 a = a) (h0:Inv (fun _=>false) V0 w.drew)
 (hstep:FreeSteps P l.toArray Q (fun V=>z0h (l.take n) V a) Inv (l.take n) 0)
 (hend:∀ s V w,(∀ i,i < n → s i = true) → Inv s V w → wpList P l.toArray Q (l.drop n) (z0h (l.take n) V a) w):(Code.region id l.toArray true).wp P Q a w:=by
 have hn:n < l.length:=by
  simp only [Region.lexTailB,Bool.and_eq_true,decide_eq_true_eq] at hB
  simpa using hB.1.1.1.2
 refine ze1 n (fun seen a' w'=>∃ V,a' = z0h (l.take n) V a ∧ Inv (fun j=>seen.getD j false) V w') hm hB ⟨V0,ha.symm,?_⟩ ?_ ?_
 ·rw [show (fun j=>(Array.replicate l.toArray.size false).getD j false) = fun _=>false from funext fun j=>getD_replicate_false _ _]
  exact h0
 ·rintro seen a' w' i hi hr hs ⟨V,rfl,hI⟩
  obtain ⟨hu,o,ho,hall⟩:=mem_ready.1 hr
  have ho':(l.take n)[i]? = some o:=by
   rw [List.getElem?_take,if_pos hi]
   simpa using ho
  have hF:=FreeSteps.get (l.take n) i 0 o hstep ho'
  rw [Nat.zero_add] at hF
  have e:(fun j=>(seen.setIfInBounds i true).getD j false) = fun j=>seen.getD j false || j == i:=funext fun j=>by
   by_cases hj:i = j
   ·subst hj;simp [hs]
   ·rw [getD_set_ne false hj]
    have:(j == i) = false:=by simp;omega
    rw [this,Bool.or_false]
  have hF2:=hF.go _ V w' hall (getD_both hu) hI (fun a'' w''=>∃ V,a'' = z0h (l.take n) V a ∧ Inv (fun j=>(seen.setIfInBounds i true).getD j false) V w'') (fun v w'' h=>⟨upd V i v,(zje _ hd i o v V a ho').symm,by rw [e];exact h⟩)
  unfold wpOp
  simp only [ho]
  split
  ·rename_i hw
   rw [if_pos hw] at hF2
   exact .inl hF2
  ·rename_i hw
   rw [if_neg hw] at hF2
   exact hF2
 ·rintro seen a' w' hall ⟨V,rfl,hI⟩
  exact hend _ V w' (fun i hi=>hall i hi) hI
theorem z4b {w:World} {ops:Array Oper} {rest:List Oper} {o:Oper} {a:Act} {Q:Exit → Act → World → Prop} (hw:Region.wanted o (yielded ops a.tmps) = true) (ty:TypeId) (x:Operand) (ho:o.op = .load ty x)
 (g:Nat) (k:IntKind) (l:List Nat) (t:TypeId) (d:TypeDesc) (hx:a.eval x = .pointer (some ⟨g,0,none⟩)) (hg:Blk g t k l w)
 (hu:P.underlying ty = some d) (hd:(match d with | .struct _ | .array _ _=>true | _=>false) = true) (hi:(P.info? ty).map (·.size) = some l.length)
 (h:wpList P ops Q rest (a.put o.dst (.agg (z07 k l).toArray)) w):wpList P ops Q (o :: rest) a w :=
 BigFrame.wpList_want hw fun _ hK=>wp_load_row ty x ho g hx t _ _ d hg hu hd (by rw [z19];exact hi) (hK _ _ h)
theorem z1k {o:Oper} {a:Act} {w:World} {K:Act → World → Prop} {Q:Exit → Act → World → Prop} (ty:TypeId) (x:Operand) (ho:o.op = .load ty x) (b:Nat) (k:IntKind) (l:List Nat) (t:TypeId) (d:TypeDesc)
 (hx:a.eval x = .pointer (some ⟨b,0,none⟩)) (hb:Blk b t k l w) (hu:P.underlying ty = some d) (hd:(match d with | .struct _ | .array _ _=>true | _=>false) = true) (hi:(P.info? ty).map (·.size) = some l.length)
 (h:K (a.put o.dst (.agg (z07 k l).toArray)) w):OpWp P o a w K Q:=by
 refine ⟨?_⟩
 unfold Oper.wp execOp
 simp only [ho,hx,Instr.loadAt,Instr.sureAddr,Sem.run_bind,Sem.run_pure,Result.andThen_ok,run_loadVar_row w b t ty _ (0,0) d hb hu hd (by rw [z19];exact hi)]
 exact h
theorem z0f {o:Oper} {a:Act} {w:World} {K:Act → World → Prop} {Q:Exit → Act → World → Prop} (x:Operand) (ho:o.op = .move x) (v:Value) (hx:a.eval x = v) (h:K (a.put o.dst v) w):OpWp P o a w K Q:=by
 refine ⟨?_⟩
 unfold Oper.wp execOp
 simp only [ho,hx,Sem.run_pure]
 exact h
theorem z2b {o:Oper} {a:Act} {w:World} {K:Act → World → Prop} {Q:Exit → Act → World → Prop} (x:Operand) (n:Nat) (ho:o.op = .extract x n) (vs:Array Value) (v:Value) (hx:a.eval x = .tuple vs) (hv:vs[n]? = some v) (h:K (a.put o.dst v) w):OpWp P o a w K Q:=by
 refine ⟨?_⟩
 unfold Oper.wp execOp
 simp [ho,hx,hv,Instr.extract]
 exact h
theorem z5n {α:Type} {a b:α} {l m:List α} (h:a = b) (h2:l = m):a :: l = b :: m:=by rw [h,h2]
structure Shut (p:Prop):Prop where
 out:p
theorem z6j {o : Oper} {a : Act} {w : World} {K : Act → World → Prop} {Q : Exit → Act → World → Prop} {f : FuncId} {fn : Func} (hf : P.funcs[f]? = some fn) (hname : (fn.name == "runtime.NumGoroutine") = false) (hb : fn.body.isNone = false)
 {args:Array Operand} {ts:Array TypeId} (ho:o.op = .call { callee:=.value (.func f),args:=args,argTypes:=ts }) (vs:List Value) (hv:args.toList.map a.eval = vs) {C:Ending → World → Prop}
 (hc:Calls P f vs.toArray w C) (h:∀ e w',C e w' → ∃ v,e = .returned v ∧ K (a.put o.dst v) w'):OpWp P o a w K Q:=by
 have hr:(execOp a.eval o).run P w = .ok (.enter f vs.toArray) w:=by
  obtain ⟨dst,op,ty,pos,after,guard⟩:=o
  simp only at ho
  subst ho
  rw [execOp_call_go,show args.map a.eval = vs.toArray by rw [← hv,← Array.toList_map,Array.toArray_toList],Array.append_empty,Array.empty_append]
  have h1 : ¬ fn.name = "runtime.NumGoroutine" := by simpa using hname
  have h2:¬ fn.body = none:=by intro e;rw [e] at hb;cases hb
  simp [callFunc,Sem.run_bind,hf,h1,h2,go_sem]
 refine ⟨?_⟩
 unfold Oper.wp
 rw [hr,Oper.upon_enter]
 refine hc.mono fun e w' he=>?_
 obtain ⟨v,rfl,hk⟩:=h e w' he
 exact hk
theorem z3i {o:Oper} {a:Act} {w:World} {K:Act → World → Prop} {Q:Exit → Act → World → Prop} (ty:TypeId) (ho:o.op = .alloc ty) (z:Array Value) (hz:∀ w,(Instr.alloc ty true (.tuple #[])).run P w = .ok (.pointer (some ⟨w.heap.size,0,none⟩)) (w.alloc (.cells z ty)))
 (h:K (a.put o.dst (.pointer (some ⟨w.heap.size,0,none⟩))) (w.alloc (.cells z ty))):OpWp P o a w K Q:=by
 refine ⟨?_⟩
 unfold Oper.wp execOp
 simp only [ho,Sem.run_bind,Sem.run_pure,Result.andThen_ok,hz]
 exact h
def Cells (b:Nat) (t:TypeId) (cs:Array Value) (w:World):Prop:=w.heap[b]? = some (.cells cs t (0,0))
theorem Cells.lt {b:Nat} {t:TypeId} {cs:Array Value} {w:World} (h:Cells b t cs w):b < w.heap.size:=lt_of_block h
theorem Cells.below {b:Nat} {t:TypeId} {cs:Array Value} {w w':World} (h:Cells b t cs w) (hb:Below w.heap.size w w'):Cells b t cs w':=(hb.block b h.lt).trans h
theorem Cells.but {b g:Nat} {t:TypeId} {cs:Array Value} {w w':World} (h:Cells b t cs w) (hb:But g w w') (hne:b ≠ g):Cells b t cs w':=(hb.block b h.lt hne).trans h
theorem z0k {o:Oper} {a:Act} {C:World → Prop} {K:Act → Prop} (ty:TypeId) (x:Operand) (ho:o.op = .load ty x) (b:Nat) (cs:Array Value) (t:TypeId) (d:TypeDesc)
 (hx:a.eval x = .pointer (some ⟨b,0,none⟩)) (hC:∀ w,C w → Cells b t cs w) (hu:P.underlying ty = some d) (hd:(match d with | .struct _ | .array _ _=>true | _=>false) = true) (hi:(P.info? ty).map (·.size) = some cs.size)
 (hk:K (a.put o.dst (.agg cs))):o.quiet P a C K:=by
 refine ⟨_,fun w hw=>?_,hk⟩
 unfold Oper.quietAt execOp
 simp only [ho,hx,Instr.loadAt,Instr.sureAddr,Sem.run_bind,Sem.run_pure,Result.andThen_ok,run_loadVar_row w b t ty _ (0,0) d (hC w hw) hu hd hi]
 exact ⟨rfl,rfl⟩
theorem z01 {w:World} {ops:Array Oper} {rest:List Oper} {o:Oper} {a:Act} {Q:Exit → Act → World → Prop} (hgd:o.guard = none) (ty:TypeId) (x:Operand) (ho:o.op = .load ty x)
 (g:Nat) (cs:Array Value) (t:TypeId) (d:TypeDesc) (hx:a.eval x = .pointer (some ⟨g,0,none⟩)) (hg:Cells g t cs w)
 (hu:P.underlying ty = some d) (hd:(match d with | .struct _ | .array _ _=>true | _=>false) = true) (hi:(P.info? ty).map (·.size) = some cs.size)
 (h:wpList P ops Q rest (a.put o.dst (.agg cs)) w):wpList P ops Q (o :: rest) a w :=
 wpList_load_row hgd ty x ho g hx t _ _ d hg hu hd hi h
theorem z02 {w:World} {ops:Array Oper} {rest:List Oper} {o:Oper} {a:Act} {Q:Exit → Act → World → Prop} (hgd:o.guard = none) (ty:TypeId) (x y:Operand) (ho:o.op = .store ty x y)
 (hd:o.dst = none) (g:Nat) (cs cs':Array Value) (t:TypeId) (hx:a.eval x = .pointer (some ⟨g,0,none⟩)) (hy:a.eval y = .agg cs')
 (hg:Cells g t cs w) (hi:(P.info? ty).map (·.size) = some cs'.size) (hl:cs.size = cs'.size) (h1:cs'.all (·.oneCell') = true)
 (h:∀ w',Hid (Cells g t cs' w') → Hid (But g w w') → wpList P ops Q rest a w'):wpList P ops Q (o :: rest) a w :=
 wpList_store_rowTo hgd ty x y ho hd g cs' hx hy t _ hg hi hl h1 (h _ (setRow_heap _ _ _ _ _ _ hg) ((But.refl g w).setRow _))
theorem z28 {o:Oper} {a:Act} {w:World} {K:Act → World → Prop} {Q:Exit → Act → World → Prop} (ty:TypeId) (x:Operand) (ho:o.op = .load ty x) (b:Nat) (cs:Array Value) (t:TypeId) (d:TypeDesc)
 (hx:a.eval x = .pointer (some ⟨b,0,none⟩)) (hb:Cells b t cs w) (hu:P.underlying ty = some d) (hd:(match d with | .struct _ | .array _ _=>true | _=>false) = true) (hi:(P.info? ty).map (·.size) = some cs.size)
 (h:K (a.put o.dst (.agg cs)) w):OpWp P o a w K Q:=by
 refine ⟨?_⟩
 unfold Oper.wp execOp
 simp only [ho,hx,Instr.loadAt,Instr.sureAddr,Sem.run_bind,Sem.run_pure,Result.andThen_ok,run_loadVar_row w b t ty _ (0,0) d hb hu hd hi]
 exact h
def Val (s:Nat → Bool) (V:Nat → Value) (i:Nat) (v:Value):Prop:=s i = true → V i = v
theorem Val.none {V:Nat → Value} {i:Nat} {v:Value}:Val (fun _=>false) V i v:=fun h=>by cases h
theorem z83 {s:Nat → Bool} {i j:Nat} (hne:j ≠ i) (h:(s j || j == i) = true):s j = true:=by
 have:(j == i) = false:=by simpa using hne
 rwa [this,Bool.or_false] at h
theorem Val.same {s:Nat → Bool} {V:Nat → Value} {i:Nat} {v:Value}:Val (fun j=>s j || j == i) (upd V i v) i v:=fun _=>z2p _ _ _
theorem Val.ne {s:Nat → Bool} {V:Nat → Value} {i j:Nat} {v u:Value} (h:Val s V j v) (hne:j ≠ i):Val (fun j=>s j || j == i) (upd V i u) j v:=fun hs=>by
 rw [z23 V u hne]
 exact h (z83 hne hs)
def Late (s:Nat → Bool) (i j:Nat):Prop:=s j = true → s i = true
theorem Late.none {i j:Nat}:Late (fun _=>false) i j:=fun h=>by cases h
theorem Late.ne {s:Nat → Bool} {i j m:Nat} (h:Late s i j) (hj:j ≠ m):Late (fun n=>s n || n == m) i j:=fun hs=>by
 show (s i || i == m) = true
 rw [h (z83 hj hs),Bool.true_or]
theorem Late.same {s:Nat → Bool} {i j:Nat} (h:s i = true):Late (fun n=>s n || n == j) i j:=fun _=>by
 show (s i || i == j) = true
 rw [h,Bool.true_or]
theorem Late.not {s:Nat → Bool} {i j:Nat} (h:Late s i j) (hi:s i = false):s j = false:=by
 cases e:s j with
 | false=>rfl
 | true=>rw [h e] at hi;cases hi
end
theorem cat2 (l s:List UInt8):(({ data:=l.toArray }:ByteArray) ++ { data:=s.toArray }) = { data:=(l ++ s).toArray }:=by
 rw [ByteArray.ext_iff];simp
theorem conv_blk {P:Program} (w:World) (src dst e:TypeId) (b cap n:Nat) (l:List Nat) (t:TypeId) (hn:n = l.length) (hl:∀ y ∈ l,y < 256) (hb:Blk b t .u8 l w) (hs:P.underlying src = some (.slice e)) (he:P.underlying e = some (.int .u8)) (hd:P.underlying dst = some .string) :
 (convert src dst (.slice (some ⟨b,0,none⟩) n cap)).run P w = .ok (.string ⟨(txt l).toArray⟩) w:=by
 subst hn
 have hc:=run_convert_bytes_back (P:=P) w src dst e ⟨b,0,none⟩ cap (txt l) hs he hd (fun j hj=>by
  rw [z32] at hj
  rw [Addr.add_lit,Nat.zero_add,hb.cell j hj,List.getD_eq_getElem?_getD,List.getElem?_eq_getElem hj]
  have h1:=hl _ (List.getElem_mem hj)
  simp only [txt,List.getElem_map,Option.getD_some]
  rw [show (UInt8.ofNat l[j]).toNat = l[j] by simp;omega])
 rwa [z32] at hc
theorem z4c {P:Program} (w:World) (ty:TypeId) (p:Addr) (v:Value) (hc:w.cell? p = some v) (hi:∀ w,(isAgg ty).run P w = .ok false w):(loadVar ty p).run P w = .ok v w:=by
 simp [loadVar,hi,hc,go_sem]
theorem z03 {P:Program} {o:Oper} {a:Act} {C:World → Prop} {K:Act → Prop} (ty:TypeId) (x:Operand) (ho:o.op = .load ty x) (p:Addr) (v:Value)
 (hx:a.eval x = .pointer (some p)) (hC:∀ w,C w → w.cell? p = some v) (hi:∀ w,(isAgg ty).run P w = .ok false w) (hk:K (a.put o.dst v)):o.quiet P a C K:=by
 refine ⟨_,fun w hw=>?_,hk⟩
 unfold Oper.quietAt execOp
 simp only [ho,hx,Instr.loadAt,Instr.sureAddr,Sem.run_bind,Sem.run_pure,Result.andThen_ok,z4c w ty p v (hC w hw) hi]
 exact ⟨rfl,rfl⟩
theorem z8d {P:Program} {w:World} {ops:Array Oper} {rest:List Oper} {o:Oper} {a:Act} {Q:Exit → Act → World → Prop} (hgd:o.guard = none) (s x:Operand) (t e:TypeId)
 (ho:o.op = .call { callee:=.builtin .append,args:=#[s,x],argTypes:=#[t,t] })
 (B:Nat) (k:IntKind) (bytes:Nat) (ht:P.underlying t = some (.slice e)) (hinfo:(P.info? e).map (fun i=>(i.zero,i.size,i.bytes)) = some (some (.int k 0),1,bytes))
 (v:Value) (l m:List Nat) (ad:Addr) (n c:Nat) (hn:n = m.length) (hs:a.eval s = v) (hown:OwnN B e k v l w) (hx:a.eval x = .slice (some ad) n c) (hnews:∀ j u,(z07 k m)[j]? = some u → w.cell? (ad.add j) = some u)
 (h63:l.length + m.length ≤ maxLen) (hbytes:(l.length + m.length) * bytes ≤ 140737488355328) (hB:B ≤ w.heap.size)
 (h:∀ v' w',Hid (OwnN B e k v' (l ++ m) w') → Hid (Below B w w') → wpList P ops Q rest (a.put o.dst v') w'):wpList P ops Q (o :: rest) a w:=by
 obtain ⟨i,hi,hz0,hz1,hz2⟩:=info_parts hinfo
 subst hn
 refine wpList_append_own_at w hgd s x _ ho B e i (.int k 0) 1 bytes ht hi hz0 hz1 hz2 rfl (by decide) v l.length (z07 k l) hs hown ad m.length c (z07 k m) hx (by rw [z0y,Nat.mul_one]) hnews (z5i k m) h63 hbytes hB ?_
 intro v' w' h2 hg _ _
 refine h v' w' ?_ ((Below.refl B w).grown hg hB (fun k hk=>(World.ownsRow.lt hown k hk).1))
 show w'.ownsRow B e 1 v' (l ++ m).length (z07 k (l ++ m))
 rw [List.length_append,show z07 k (l ++ m) = z07 k l ++ z07 k m by simp [z07]]
 exact h2
theorem blk_news {g:Nat} {t:TypeId} {k:IntKind} {l:List Nat} {w:World} (h:Blk g t k l w):∀ j u,(z07 k l)[j]? = some u → w.cell? ((⟨g,0,none⟩:Addr).add j) = some u:=by
 intro j u hj
 rw [Addr.add_lit,Nat.zero_add,Lib.cell_of_heap h j,List.getElem?_toArray]
 exact hj
theorem dat {a : Array Edge} {s : Nat → Bool} (hr : ∀ e ∈ a, Region.binds .any e = true → s e.on = true) (n : Nat) (h : ({ on := n, ground := .data } : Edge) ∈ a := by simp) : s n = true := hr _ h rfl
theorem Val.nd {s : Nat → Bool} {V : Nat → Value} {i j : Nat} {v u : Value} (h : Val s V j v) (hne : j ≠ i := by decide) : Val (fun j => s j || j == i) (upd V i u) j v := h.ne hne
theorem Late.nd {s : Nat → Bool} {i j m : Nat} (h : Late s i j) (hj : j ≠ m := by decide) : Late (fun n => s n || n == m) i j := h.ne hj
theorem zS {α : Type _} (l : List α) (i : Nat) (a : α) : l.toArray.setIfInBounds i a = (l.set i a).toArray := List.setIfInBounds_toArray ..
theorem zA {α : Type _} {x : α} {xs : List α} {a : α} : (x :: xs).set 0 a = a :: xs := List.set_cons_zero
theorem zB {α : Type _} {x : α} {xs : List α} {i : Nat} {a : α} : (x :: xs).set (i + 1) a = x :: xs.set i a := List.set_cons_succ
theorem zC {α : Type _} {a : α} {l : List α} {i : Nat} : List.take (i + 1) (a :: l) = a :: List.take i l := List.take_succ_cons
theorem zD {α : Type _} {l : List α} : List.take 0 l = [] := List.take_zero
theorem zE {α : Type _} {a : α} {l : List α} {i : Nat} : List.drop (i + 1) (a :: l) = List.drop i l := List.drop_succ_cons
theorem zF {α : Type _} {l : List α} : List.drop 0 l = l := List.drop_zero
open Go.BigFrame
def Vals (q:Nat → Bool) (V:Nat → Value) (L:List (Nat × Value)):Prop:=∀ n v,q n = true → L.lookup n = some v → V n = v
section
variable {q:Nat → Bool} {V:Nat → Value} {L:List (Nat × Value)} {i n:Nat} {v u:Value}
theorem Vals.none:Vals (fun _=>false) V L:=fun _ _ h=>by cases h
theorem Vals.set (h:Vals q V L) (hl:L.lookup i = some v):Vals (fun j=>q j || j == i) (upd V i v) L:=fun n x hn hx=>by
 by_cases e:n = i
 ·subst e
  rw [z2p]
  exact Option.some.inj (hl.symm.trans hx)
 ·rw [z23 V v e]
  exact h n x (z83 e hn) hx
theorem Vals.off (h:Vals q V L) (hl:L.lookup i = Option.none):Vals (fun j=>q j || j == i) (upd V i u) L:=fun n x hn hx=>by
 by_cases e:n = i
 ·subst e
  rw [hl] at hx
  cases hx
 ·rw [z23 V u e]
  exact h n x (z83 e hn) hx
theorem Vals.get (h:Vals q V L) (n:Nat) (hq:q n = true) (hl:L.lookup n = some v):V n = v:=h n v hq hl
end
example (q:Nat → Bool) (V:Nat → Value) (a b c:Value) (h:Vals q V [(0,a),(1,b),(2,.bool true),(5,c)]) (hq:∀ i,i < 6 → q i = true) (K:Value → (Nat → Bool) → (Nat → Value) → Prop) (hK:∀ v,Vals (fun j=>q j || j == 5) (upd V 5 v) [(0,a),(1,b),(2,.bool true),(5,c)] ∧ True → K v q V):K c q V ∧ V 1 = b:=by
 refine ⟨hK _ ⟨h.set rfl,trivial⟩,?_⟩
 have v1:=h.get 1 (hq 1 (by decide)) rfl
 have v2:=h.get 2 (hq 2 (by decide)) rfl
 have v5:=h.get 5 (hq 5 (by decide)) rfl
 exact v1
example (q:Nat → Bool) (V:Nat → Value) (a b c:Value) (h:Vals q V [(0,a),(1,b),(2,.bool true),(5,c)]) (u:Value):Vals (fun j=>q j || j == 3) (upd V 3 u) [(0,a),(1,b),(2,.bool true),(5,c)]:=h.off rfl
end Go.Proofs.YtnbldbbbibpobaaGreatDoor
namespace Go.Proofs.YtnbldbbbibpobaaGreatDoor
open Go.RowKit
structure DraftN where
 kind:Int
 key:List UInt8
 val:List UInt8
 ref:List Nat
deriving DecidableEq
structure OpN where
 d:DraftN
 author:Int
 depth:Int
 preds:List (List Nat)
deriving DecidableEq
def IdOk (l:List Nat):Prop:=l.length = 32 ∧ ∀ x ∈ l,x < 256
structure OpN.Ok (o:OpN):Prop where
 ref:IdOk o.d.ref
 preds:∀ p ∈ o.preds,IdOk p
def zeroI:List Nat:=List.replicate 32 0
theorem zeroI_ok:IdOk zeroI:=⟨List.length_replicate,fun x hx=>by rw [(List.mem_replicate.1 hx).2];decide⟩
def z1t:List Nat → List Nat → Int
 | a :: x,b :: y=>if a < b then -1 else if b < a then 1 else z1t x y
 | _,_=>0
def GoodD (d:DraftN):Prop:=1 ≤ d.kind ∧ d.kind ≤ 5 ∧ 1 ≤ d.key.length ∧ d.key.length ≤ 16 ∧ d.val.length ≤ 64 ∧ (d.kind ≤ 3 → d.ref = zeroI) ∧ (d.kind = 5 → d.ref ≠ zeroI ∧ d.val = [])
instance (d:DraftN):Decidable (GoodD d):=by unfold GoodD;infer_instance
def AscN (L:List (List Nat)):Prop:=∀ i,i < L.length → 0 < i → z1t (L.getD (i - 1) []) (L.getD i []) = -1
instance (L:List (List Nat)):Decidable (AscN L):=by unfold AscN;infer_instance
def GoodO (o:OpN):Prop:=AscN o.preds ∧ (o.preds = [] → o.depth = 1) ∧ (o.preds ≠ [] → 2 ≤ o.depth) ∧ o.preds.length ≤ 32 ∧ GoodD o.d ∧ 0 ≤ o.author ∧ o.author ≤ 4
instance (o:OpN):Decidable (GoodO o):=by unfold GoodO;infer_instance
def z4e (d:DraftN):List UInt8:=z38 [z35 d.kind.toNat,d.key,d.val,txt d.ref]
def z4f (L:List (List Nat)):List UInt8:=(L.map txt).flatten
def opB (o:OpN):List UInt8:=z38 [z35 o.author.toNat,z35 o.depth.toNat,z4f o.preds,z4e o.d]
theorem zj9 {L:List (List Nat)} (h:∀ p ∈ L,IdOk p):(z4f L).length = 32 * L.length:=by
 induction L with
 | nil=>rfl
 | cons p L ih =>
   have h1:=ih (fun q hq=>h q (by simp [hq]))
   have h2:=(h p (by simp)).1
   rw [z4f,List.map_cons,List.flatten_cons,List.length_append,z32,h2,List.length_cons]
   rw [z4f] at h1
   omega
theorem zjz (d:DraftN):(z4e d).length = 2 + (z35 (z35 d.kind.toNat).length).length + (z35 d.kind.toNat).length + (z6q d.key).length + (z6q d.val).length + (z6q (txt d.ref)).length:=by
 rw [z4e,z3z]
 simp only [List.length_cons,List.length_nil,Nat.zero_add,Nat.reduceAdd,z62,List.length_append]
 have e:(z35 4).length = 2:=by simp [z35,dig]
 have e2:(z1x []).length = 0:=rfl
 rw [e,e2,z5f (z35 _)]
 omega
theorem z3g {t:List UInt8} (h:t.length < 9223372036854775808):(z6q t).length ≤ t.length + 9:=by
 have:=z61 h
 rw [z5f]
 omega
theorem z6r {n:Nat} (h:n < 9223372036854775808):(z35 n).length ≤ 9:=z61 h
theorem zgb {d:DraftN} (hk:d.kind < 9223372036854775808) (h1:d.key.length ≤ 512) (h2:d.val.length ≤ 512) (h3:d.ref.length = 32):(z4e d).length ≤ 1200:=by
 have e:=zjz d
 have a1:=z6r (n:=d.kind.toNat) (by omega)
 have a2:=z6r (n:=(z35 d.kind.toNat).length) (by omega)
 have a3:=z3g (t:=d.key) (by omega)
 have a4:=z3g (t:=d.val) (by omega)
 have a5:=z3g (t:=txt d.ref) (by rw [z32];omega)
 rw [z32] at a5
 omega
theorem opB_le {o:OpN} (hk:o.d.kind < 9223372036854775808) (ha:o.author < 9223372036854775808) (hd:o.depth < 9223372036854775808) (h1:o.d.key.length ≤ 512) (h2:o.d.val.length ≤ 512) (h3:o.Ok) (h4:o.preds.length ≤ 70):(opB o).length ≤ 4000:=by
 have hl:=zgb hk h1 h2 h3.ref.1
 have hp:=zj9 h3.preds
 rw [opB,z3z]
 simp only [List.length_cons,List.length_nil,Nat.zero_add,Nat.reduceAdd,z62,List.length_append]
 have e:(z35 4).length = 2:=by simp [z35,dig]
 have e2:(z1x []).length = 0:=rfl
 have a1:=z6r (n:=o.author.toNat) (by omega)
 have a2:=z6r (n:=o.depth.toNat) (by omega)
 have b1:=z3g (t:=z35 o.author.toNat) (by omega)
 have b2:=z3g (t:=z35 o.depth.toNat) (by omega)
 have b3:=z3g (t:=z4f o.preds) (by omega)
 have b4:=z3g (t:=z4e o.d) (by omega)
 omega
end Go.Proofs.YtnbldbbbibpobaaGreatDoor
namespace Go.Proofs.YtnbldbbbibpobaaGreatDoor
structure DraftN.Fit (d:DraftN):Prop where
 ref:IdOk d.ref
 low:-9223372036854775808 ≤ d.kind
 high:d.kind ≤ 9223372036854775807
 key:d.key.length ≤ 512
 val:d.val.length ≤ 512
structure OpN.Fit (o:OpN):Prop where
 d:o.d.Fit
 alow:-9223372036854775808 ≤ o.author
 ahigh:o.author ≤ 9223372036854775807
 dlow:-9223372036854775808 ≤ o.depth
 dhigh:o.depth ≤ 9223372036854775807
 preds:∀ p ∈ o.preds,IdOk p
 many:o.preds.length ≤ 70
theorem OpN.Fit.ok {o:OpN} (h:o.Fit):o.Ok:=⟨h.d.ref,h.preds⟩
open Go.RowKit
def z7p (x k:Nat):Nat:=x / 2 ^ k ||| x * 2 ^ (32 - k) % 4294967296
theorem z2d (x k:Nat) (hx:x < 4294967296):z7p x k < 4294967296:=by
 unfold z7p
 have h1:x / 2 ^ k < 2 ^ 32:=Nat.lt_of_le_of_lt (Nat.div_le_self _ _) hx
 have h2:x * 2 ^ (32 - k) % 4294967296 < 2 ^ 32:=Nat.mod_lt _ (by decide)
 exact Nat.or_lt_two_pow h1 h2
theorem turn_or (x k:Nat) (hx:x < 4294967296):bits BinOp.or IntKind.u32 ((x:Int) / 2 ^ k) ((x:Int) * 2 ^ (32 - k) % 4294967296) = ((z7p x k:Nat):Int):=by
 have h1:x / 2 ^ k < 4294967296:=Nat.lt_of_le_of_lt (Nat.div_le_self _ _) hx
 have h2:x * 2 ^ (32 - k) % 4294967296 < 4294967296:=Nat.mod_lt _ (by decide)
 have:=u32_or_nat (x / 2 ^ k) (x * 2 ^ (32 - k) % 4294967296) h1 h2
 unfold z7p
 rw [← this]
 simp
theorem turn_any (x k:Nat) (w:World) (hx:x < 4294967296) (hk1:1 ≤ k) (hk:k ≤ 31) :
 Calls Tryz.prog 108 #[.int .u32 x,.int .u32 k] w fun e w'=>e = .returned (.int .u32 (z7p x k)) ∧ w = w':=by
 have h:=turn_or x k hx
 go_enter Tryz.func108,Tryz.ntmps108
 go_wp2_with fail
 go_ret
 exact ⟨rfl,rfl⟩
def sqOk (p y:Nat):Bool:=decide (y * y / 18446744073709551616 < p) || (decide (y * y / 18446744073709551616 = p) && decide (y * y % 18446744073709551616 = 0))
def cbLow (y:Nat):Nat:=y * y / 18446744073709551616 * y + y * y % 18446744073709551616 * y / 18446744073709551616
def cbOk (p y:Nat):Bool:=decide (cbLow y / 4294967296 < p) || (decide (cbLow y / 4294967296 = p) && (decide (cbLow y % 4294967296 = 0) && decide (y * y % 18446744073709551616 * y % 18446744073709551616 = 0)))
def bitAt (j:Nat):Nat:=68719476736 / 2 ^ j
def rootT (p:Nat) (cube:Bool) (y:Nat):Bool:=if cube then cbOk p y else sqOk p y
def rootX (p:Nat) (cube:Bool):Nat → Nat
 | 0=>0
 | j + 1=>if rootT p cube (rootX p cube j + bitAt j) then rootX p cube j + bitAt j else rootX p cube j
theorem Tryz.infoU32:(Tryz.prog.info? 143).map (fun i=>(i.zero,i.size,i.bytes)) = some (some (.int .u32 0),1,4):=by kernel_rfl
def shaH:List Nat:=[1779033703,3144134277,1013904242,2773480762,1359893119,2600822924,528734635,1541459225]
def shaK:List Nat:=[1116352408,1899447441,3049323471,3921009573,961987163,1508970993,2453635748,2870763221,3624381080,310598401,607225278,1426881987,1925078388,2162078206,2614888103,3248222580,3835390401,4022224774,264347078,604807628,770255983,1249150122,1555081692,1996064986,2554220882,2821834349,2952996808,3210313671,3336571891,3584528711,113926993,338241895,666307205,773529912,1294757372,1396182291,1695183700,1986661051,2177026350,2456956037,2730485921,2820302411,3259730800,3345764771,3516065817,3600352804,4094571909,275423344,430227734,506948616,659060556,883997877,958139571,1322822218,1537002063,1747873779,1955562222,2024104815,2227730452,2361852424,2428436474,2756734187,3204031479,3329325298]
theorem shaK_len:shaK.length = 64:=by decide
theorem zkx:∀ x ∈ shaK,x < 4294967296:=by decide
theorem zl4 (w:World) :
 Calls Tryz.prog 107 #[] w fun e w'=>e = .returned (.tuple #[.slice (some ⟨w.heap.size,0,none⟩) 8 8,.slice (some ⟨w.heap.size + 1,0,none⟩) 64 64]) ∧
  OwnN w.heap.size 143 .u32 (.slice (some ⟨w.heap.size,0,none⟩) 8 8) shaH w' ∧ OwnN w.heap.size 143 .u32 (.slice (some ⟨w.heap.size + 1,0,none⟩) 64 64) shaK w' ∧ Below w.heap.size w w':=by
 go_enter Tryz.func107,Tryz.ntmps107
 go_wp2_with fail
 go_ret2
 refine ⟨rfl,?_,?_,((Below.refl _ w).alloc (Nat.le_refl _) _).alloc (by simp) _⟩
 ·have h:=World.ownsRow_lit (base:=w.heap.size) (e:=143) (size:=1) w (z07 .u32 shaH).toArray 8 (Nat.le_refl _) (by unfold maxLen;omega) rfl
  exact OwnN.alloc h _
 ·have h:=World.ownsRow_lit (base:=w.heap.size) (e:=143) (size:=1) (w.alloc (.cells (z07 .u32 shaH).toArray 143)) (z07 .u32 shaK).toArray 64 (by simp) (by unfold maxLen;omega) rfl
  have e:(w.alloc (.cells (z07 .u32 shaH).toArray 143)).heap.size = w.heap.size + 1:=by simp
  rw [e] at h
  exact h
def s0 (x:Nat):Nat:=z7p x 7 ^^^ z7p x 18 ^^^ x / 8
def s1 (x:Nat):Nat:=z7p x 17 ^^^ z7p x 19 ^^^ x / 1024
def S1 (x:Nat):Nat:=z7p x 6 ^^^ z7p x 11 ^^^ z7p x 25
def S0 (x:Nat):Nat:=z7p x 2 ^^^ z7p x 13 ^^^ z7p x 22
def ch (e f g:Nat):Nat:=(e &&& f) ^^^ ((4294967295 ^^^ e) &&& g)
def mj (a b c:Nat):Nat:=(a &&& b) ^^^ (a &&& c) ^^^ (b &&& c)
theorem zcv {a b:Nat} (ha:a < 4294967296) (hb:b < 4294967296):a ^^^ b < 4294967296:=Nat.xor_lt_two_pow (n:=32) ha hb
theorem zbp {a b:Nat} (hb:b < 4294967296):a &&& b < 4294967296:=Nat.lt_of_le_of_lt Nat.and_le_right hb
def zaz (b:Nat → Nat) (i:Nat):Nat:=b (4 * i) * 16777216 + b (4 * i + 1) * 65536 + b (4 * i + 2) * 256 + b (4 * i + 3)
def zg2 (l:List Nat) (i:Nat):Nat:=(l.getD (i - 16) 0 + l.getD (i - 7) 0 + s0 (l.getD (i - 15) 0) + s1 (l.getD (i - 2) 0)) % 4294967296
def wl (b:Nat → Nat):Nat → List Nat
 | 0=>[]
 | i + 1=>wl b i ++ [if i < 16 then zaz b i else zg2 (wl b i) i]
theorem z6g (b:Nat → Nat) (i:Nat):(wl b i).length = i:=by
 induction i with
 | zero=>rfl
 | succ i ih=>rw [wl,List.length_append,ih];rfl
theorem zh1 {b:Nat → Nat} {i:Nat} (h:i < 16):wl b (i + 1) = wl b i ++ [zaz b i]:=by rw [wl,if_pos h]
theorem zhk {b:Nat → Nat} {i:Nat} (h:¬ i < 16):wl b (i + 1) = wl b i ++ [zg2 (wl b i) i]:=by rw [wl,if_neg h]
theorem wordN_lt {b:Nat → Nat} (hb:∀ j,b j < 256) (i:Nat):zaz b i < 4294967296:=by
 have h0:=hb (4 * i)
 have h1:=hb (4 * i + 1)
 have h2:=hb (4 * i + 2)
 have h3:=hb (4 * i + 3)
 unfold zaz
 omega
theorem wl_lt {b:Nat → Nat} (hb:∀ j,b j < 256) (i:Nat):∀ x ∈ wl b i,x < 4294967296:=by
 induction i with
 | zero=>intro x h;cases h
 | succ i ih =>
   intro x h
   rw [wl,List.mem_append] at h
   rcases h with h | h
   ·exact ih x h
   ·rw [List.mem_singleton] at h
    subst h
    split
    ·exact wordN_lt hb i
    ·exact Nat.mod_lt _ (by decide)
structure S8 where
 (a b c d e f g h:Nat)
def S8.list (v:S8):List Nat:=[v.a,v.b,v.c,v.d,v.e,v.f,v.g,v.h]
structure S8.Ok (v:S8):Prop where
 a:v.a < 4294967296
 b:v.b < 4294967296
 c:v.c < 4294967296
 d:v.d < 4294967296
 e:v.e < 4294967296
 f:v.f < 4294967296
 g:v.g < 4294967296
 h:v.h < 4294967296
def tN (v:S8) (k w:Nat):Nat:=(v.h + S1 v.e + ch v.e v.f v.g + k + w) % 4294967296
def uN (v:S8):Nat:=(S0 v.a + mj v.a v.b v.c) % 4294967296
def rnd (v:S8) (k w:Nat):S8:=⟨(tN v k w + uN v) % 4294967296,v.a,v.b,v.c,(v.d + tN v k w) % 4294967296,v.e,v.f,v.g⟩
theorem rnd_ok {v:S8} (h:v.Ok) (k w:Nat):(rnd v k w).Ok:=⟨Nat.mod_lt _ (by decide),h.a,h.b,h.c,Nat.mod_lt _ (by decide),h.e,h.f,h.g⟩
def rl (v:S8) (W:List Nat):Nat → S8
 | 0=>v
 | i + 1=>rnd (rl v W i) (shaK.getD i 0) (W.getD i 0)
theorem rl_ok {v:S8} (h:v.Ok) (W:List Nat) (i:Nat):(rl v W i).Ok:=by
 induction i with
 | zero=>exact h
 | succ i ih=>exact rnd_ok ih _ _
def addS (v u:S8):S8:=⟨(v.a + u.a) % 4294967296,(v.b + u.b) % 4294967296,(v.c + u.c) % 4294967296,(v.d + u.d) % 4294967296,(v.e + u.e) % 4294967296,(v.f + u.f) % 4294967296,(v.g + u.g) % 4294967296,(v.h + u.h) % 4294967296⟩
theorem zlp (v u:S8):(addS v u).Ok :=
 ⟨Nat.mod_lt _ (by decide),Nat.mod_lt _ (by decide),Nat.mod_lt _ (by decide),Nat.mod_lt _ (by decide),Nat.mod_lt _ (by decide),Nat.mod_lt _ (by decide),Nat.mod_lt _ (by decide),Nat.mod_lt _ (by decide)⟩
def H0:S8:=⟨1779033703,3144134277,1013904242,2773480762,1359893119,2600822924,528734635,1541459225⟩
theorem H0_ok:H0.Ok:=⟨by decide,by decide,by decide,by decide,by decide,by decide,by decide,by decide⟩
def block (v:S8) (b:Nat → Nat):S8:=addS v (rl v (wl b 64) 64)
theorem t_int (a b c d e f g h k w:Nat) (he:e < 4294967296) (hf:f < 4294967296) (hg:g < 4294967296) :
 ((h : Int) + bits BinOp.xor IntKind.u32 (bits BinOp.xor IntKind.u32 ((z7p e 6 : Nat) : Int) ((z7p e 11 : Nat) : Int)) ((z7p e 25 : Nat) : Int) +
   bits BinOp.xor IntKind.u32 (bits BinOp.and IntKind.u32 (e:Int) (f:Int)) (bits BinOp.and IntKind.u32 (bits BinOp.xor IntKind.u32 IntKind.u32.max (e:Int)) (g:Int)) + (k:Int) + (w:Int)) % 4294967296 =
 ((tN ⟨a,b,c,d,e,f,g,h⟩ k w:Nat):Int):=by
 have hm:IntKind.u32.max = ((4294967295:Nat):Int):=by decide
 rw [hm,u32_xor_nat _ _ (z2d _ _ he) (z2d _ _ he),u32_xor_nat _ _ (zcv (z2d _ _ he) (z2d _ _ he)) (z2d _ _ he),u32_and_nat _ _ he hf,u32_xor_nat _ _ (by decide) he,u32_and_nat _ _ (zcv (by decide) he) hg,u32_xor_nat _ _ (zbp hf) (zbp hg)]
 unfold tN S1 ch
 simp only [Int.natCast_emod,Int.natCast_add]
 rfl
theorem u_int (a b c d e f g h:Nat) (ha:a < 4294967296) (hb:b < 4294967296) (hc:c < 4294967296) :
 (bits BinOp.xor IntKind.u32 (bits BinOp.xor IntKind.u32 ((z7p a 2:Nat):Int) ((z7p a 13:Nat):Int)) ((z7p a 22:Nat):Int) +
  bits BinOp.xor IntKind.u32 (bits BinOp.xor IntKind.u32 (bits BinOp.and IntKind.u32 (a:Int) (b:Int)) (bits BinOp.and IntKind.u32 (a:Int) (c:Int))) (bits BinOp.and IntKind.u32 (b:Int) (c:Int))) % 4294967296 =
 ((uN ⟨a,b,c,d,e,f,g,h⟩:Nat):Int):=by
 rw [u32_xor_nat _ _ (z2d _ _ ha) (z2d _ _ ha),u32_xor_nat _ _ (zcv (z2d _ _ ha) (z2d _ _ ha)) (z2d _ _ ha),u32_and_nat _ _ ha hb,u32_and_nat _ _ ha hc,u32_and_nat _ _ hb hc,u32_xor_nat _ _ (zbp hb) (zbp hc),u32_xor_nat _ _ (zcv (zbp hb) (zbp hc)) (zbp hc)]
 unfold uN S0 mj
 simp only [Int.natCast_emod,Int.natCast_add]
 rfl
theorem w_int (y16 y7 y15 y2:Nat) (h15:y15 < 4294967296) (h2:y2 < 4294967296) (h3:y15 / 8 < 4294967296) (h4:y2 / 1024 < 4294967296) :
 ((y16 : Int) + (y7 : Int) + bits BinOp.xor IntKind.u32 (bits BinOp.xor IntKind.u32 ((z7p y15 7 : Nat) : Int) ((z7p y15 18 : Nat) : Int)) ((y15 / 8 : Nat) : Int) +
   bits BinOp.xor IntKind.u32 (bits BinOp.xor IntKind.u32 ((z7p y2 17:Nat):Int) ((z7p y2 19:Nat):Int)) ((y2 / 1024:Nat):Int)) % 4294967296 =
 (((y16 + y7 + s0 y15 + s1 y2) % 4294967296:Nat):Int):=by
 rw [u32_xor_nat _ _ (z2d _ _ h15) (z2d _ _ h15),u32_xor_nat _ _ (zcv (z2d _ _ h15) (z2d _ _ h15)) h3,u32_xor_nat _ _ (z2d _ _ h2) (z2d _ _ h2),u32_xor_nat _ _ (zcv (z2d _ _ h2) (z2d _ _ h2)) h4]
 unfold s0 s1
 simp only [Int.natCast_emod,Int.natCast_add]
 rfl
theorem tN_lt (v:S8) (k w:Nat):tN v k w < 4294967296:=Nat.mod_lt _ (by decide)
theorem uN_lt (v:S8):uN v < 4294967296:=Nat.mod_lt _ (by decide)
def z1w (p:List Nat):Nat → S8
 | 0=>H0
 | n + 1=>block (z1w p n) (fun j=>p.getD (64 * n + j) 0)
theorem z43 (p:List Nat) (n:Nat):(z1w p n).Ok:=by
 cases n with
 | zero=>exact H0_ok
 | succ n=>exact zlp _ _
def z1z (n:Nat):Nat:=(119 - n % 64) % 64
def l8 (N:Nat):Nat → List Nat
 | 0=>[]
 | i + 1=>l8 N i ++ [N * 256 ^ i % 18446744073709551616 / 72057594037927936]
theorem zef (N i:Nat):(l8 N i).length = i:=by
 induction i with
 | zero=>rfl
 | succ i ih=>rw [l8,List.length_append,ih];rfl
theorem l8_lt (N i:Nat):∀ x ∈ l8 N i,x < 256:=by
 induction i with
 | zero=>intro x h;cases h
 | succ i ih =>
   intro x h
   rw [l8,List.mem_append] at h
   rcases h with h | h
   ·exact ih x h
   ·rw [List.mem_singleton] at h
    have:N * 256 ^ i % 18446744073709551616 < 18446744073709551616:=Nat.mod_lt _ (by decide)
    omega
def z4y (s:List UInt8):List Nat:=z15 s ++ [128] ++ List.replicate (z1z s.length) 0 ++ l8 (s.length * 8) 8
theorem zad (s:List UInt8):(z4y s).length = s.length + 9 + z1z s.length:=by
 simp [z4y,z10,zef]
 omega
theorem padN_mod (s:List UInt8):(z4y s).length % 64 = 0:=by
 rw [zad]
 unfold z1z
 omega
theorem padN_lt (s:List UInt8):∀ x ∈ z4y s,x < 256:=by
 intro x h
 simp only [z4y,List.mem_append] at h
 rcases h with ((h | h) | h) | h
 ·simp only [z15,List.mem_map] at h
  obtain ⟨b,_,rfl⟩:=h
  exact b.toNat_lt
 ·rw [List.mem_singleton] at h;omega
 ·have:=List.eq_of_mem_replicate h;omega
 ·exact l8_lt _ _ x h
def zeb (l:List Nat):List Nat:=(List.range 32).map fun i=>l.getD (i / 4) 0 / 2 ^ (24 - 8 * (i % 4)) % 256
def z8c (s:List UInt8):List Nat:=zeb (z1w (z4y s) ((z4y s).length / 64)).list
def z00 (o:OpN):List Nat:=z8c (z38 [[111,112],opB o])
theorem z0p (o:OpN):(z00 o).length = 32:=by simp [z00,z8c,zeb]
theorem z5d (o:OpN):∀ x ∈ z00 o,x < 256:=by
 intro x hx
 simp only [z00,z8c,zeb,List.mem_map] at hx
 obtain ⟨i,_,rfl⟩:=hx
 exact Nat.mod_lt _ (by decide)
structure DagN where
 ops:List OpN
 wait:List OpN
def DagN.names (s:DagN):List (List Nat):=s.ops.map z00
def DagN.waits (s:DagN):List (List Nat):=s.wait.map z00
def DagN.new:DagN:=⟨[],[]⟩
def atN (L:List (List Nat)) (n:List Nat):Int:=if n ∈ L then (L.idxOf n:Int) else -1
def z1l (L:List (List Nat)) (o:OpN):Bool:=o.preds.all fun p=>decide (p ∈ L)
def z0z (ops:List OpN) (p:List Nat):Int:=((ops[(ops.map z00).idxOf p]?).map (·.depth)).getD 0
def z6i (ops:List OpN) (L:List (List Nat)):Int:=L.foldl (fun n p=>if n < z0z ops p then z0z ops p else n) 0
def z1p (ops:List OpN) (o:OpN):Int:=z6i ops o.preds + 1
def z2y (L:List (List Nat)) (W:List OpN) (b:Option Nat) (i:Nat):Option Nat :=
 match W[i]? with
 | some o=>if z1l L o then (match b with
  | none=>some i
  | some j=>if z1t (z00 o) (z00 (W.getD j o)) = -1 then some i else some j) else b
 | none=>b
def z2t (L:List (List Nat)) (W:List OpN):Nat → Option Nat
 | 0=>none
 | k + 1=>z2y L W (z2t L W k) k
def zc9 (L:List (List Nat)) (W:List OpN):Option Nat:=z2t L W W.length
theorem zbi (L:List (List Nat)) (W:List OpN):∀ (k j:Nat),k ≤ W.length → z2t L W k = some j → j < k
 | 0,j,_,h=>by cases h
 | k + 1, j, hk, h => by
   have ih:=fun j=>zbi L W k j (by omega)
   rw [z2t,z2y,List.getElem?_eq_getElem (by omega)] at h
   simp only at h
   split at h
   ·split at h
    ·cases h;omega
    ·rename_i j' hj'
     split at h
     ·cases h;omega
     ·cases h;have:=ih _ hj';omega
   ·have:=ih j h;omega
theorem zam {L:List (List Nat)} {W:List OpN} {j:Nat} (h:zc9 L W = some j):j < W.length:=zbi L W _ _ (Nat.le_refl _) h
def z0s:Nat → DagN → List (List Nat) × DagN
 | 0,s=>([],s)
 | f + 1, s => match zc9 s.names s.wait with
   | none=>([],s)
   | some i => match s.wait[i]? with
     | none=>([],s)
     | some o => if o.depth = z1p s.ops o then
      (z00 o :: (z0s f ⟨s.ops ++ [o],s.wait.eraseIdx i⟩).1,(z0s f ⟨s.ops ++ [o],s.wait.eraseIdx i⟩).2)
       else z0s f ⟨s.ops,s.wait.eraseIdx i⟩
def z2u (s:DagN) (o:OpN):List (List Nat) × Int × DagN :=
 if ¬ GoodO o then ([],1,s)
 else if z00 o ∈ s.names ∨ z00 o ∈ s.waits then ([],9,s)
 else if z1l s.names o = false then ([],0,⟨s.ops,s.wait ++ [o]⟩)
 else if o.depth ≠ z1p s.ops o then ([],10,s)
 else (z00 o :: (z0s s.wait.length ⟨s.ops ++ [o],s.wait⟩).1,0,(z0s s.wait.length ⟨s.ops ++ [o],s.wait⟩).2)
def zc7 (n:List Nat):List (List Nat) → List (List Nat)
 | []=>[n]
 | x :: r=>if z1t x n = -1 then x :: zc7 n r else n :: x :: r
def z0g (L:List (List Nat)):List (List Nat):=L.foldl (fun out n=>zc7 n out) []
theorem zi2 (n:List Nat):∀ L:List (List Nat),(zc7 n L).length = L.length + 1
 | []=>rfl
 | x :: r => by
   rw [zc7]
   split
   ·rw [List.length_cons,List.length_cons,zi2 n r]
   ·rfl
theorem insN_mem {n x:List Nat}:∀ {L:List (List Nat)},x ∈ zc7 n L ↔ x = n ∨ x ∈ L
 | []=>by simp [zc7]
 | y :: r => by
   rw [zc7]
   split
   ·rw [List.mem_cons,insN_mem,List.mem_cons]
    constructor
    ·rintro (h | h | h)
     ·exact .inr (.inl h)
     ·exact .inl h
     ·exact .inr (.inr h)
    ·rintro (h | h | h)
     ·exact .inr (.inl h)
     ·exact .inl h
     ·exact .inr (.inr h)
   ·simp
theorem z9t {x:List Nat}:∀ {L out:List (List Nat)},x ∈ L.foldl (fun out n=>zc7 n out) out ↔ x ∈ out ∨ x ∈ L
 | [],out=>by simp
 | y :: r, out => by
   rw [List.foldl_cons,z9t,insN_mem]
   simp only [List.mem_cons]
   constructor
   ·rintro ((h | h) | h)
    ·exact .inr (.inl h)
    ·exact .inl h
    ·exact .inr (.inr h)
   ·rintro (h | h | h)
    ·exact .inl (.inr h)
    ·exact .inl (.inl h)
    ·exact .inr h
theorem risingN_mem {x:List Nat} {L:List (List Nat)}:x ∈ z0g L ↔ x ∈ L:=by
 rw [z0g,z9t]
 simp
theorem za2:∀ {L out:List (List Nat)},(L.foldl (fun out n=>zc7 n out) out).length = out.length + L.length
 | [],out=>by simp
 | y :: r, out => by
   rw [List.foldl_cons,za2,zi2,List.length_cons]
   omega
theorem z36 (L:List (List Nat)):(z0g L).length = L.length:=by rw [z0g,za2];simp
theorem zgg (L:List (List Nat)) (n:List Nat):z0g (L ++ [n]) = zc7 n (z0g L):=by rw [z0g,List.foldl_append];rfl
def zgj (n:List Nat):List (List Nat) → Nat
 | []=>0
 | x :: r=>if z1t x n = -1 then zgj n r + 1 else 0
theorem zm5 (n:List Nat):∀ L:List (List Nat),zgj n L ≤ L.length
 | []=>Nat.le_refl _
 | x :: r => by
   rw [zgj]
   split
   ·have:=zm5 n r;rw [List.length_cons];omega
   ·exact Nat.zero_le _
theorem zdm (n:List Nat):∀ L:List (List Nat),zc7 n L = L.take (zgj n L) ++ n :: L.drop (zgj n L)
 | []=>rfl
 | x :: r => by
   rw [zc7,zgj]
   split
   ·rw [zdm n r,List.take_succ_cons,List.drop_succ_cons,List.cons_append]
   ·rfl
theorem zfl (n:List Nat):∀ (L:List (List Nat)) (k:Nat),k < L.length → k ≤ zgj n L → (k < zgj n L ↔ z1t (L.getD k []) n = -1)
 | [],k,h,_=>by cases h
 | x :: r, 0, _, _ => by
   rw [zgj]
   split
   ·rename_i h;simp [h]
   ·rename_i h;simp [h]
 | x :: r, k + 1, h, hk => by
   rw [zgj] at hk ⊢
   split at hk
   ·rename_i h1
    rw [if_pos h1]
    have ih:=zfl n r k (by simpa using h) (by omega)
    rw [List.getD_cons_succ,← ih]
    omega
   ·omega
def z2w (s:DagN):List (List Nat):=z0g (s.names.filter fun n=>!(s.ops.any fun o=>decide (n ∈ o.preds)))
def z7x (s:DagN) (a:Int) (d:DraftN):Option OpN × Int :=
 if ¬ GoodD d ∨ a < 0 ∨ 4 < a then (none,1)
 else if 32 < (z2w s).length then (none,3)
 else (some ⟨d,a,z6i s.ops (z2w s) + 1,z2w s⟩,0)
def DagN.Shallow (s:DagN):Prop:=∀ x ∈ s.ops,x.depth ≤ s.ops.length
theorem zjt {ops:List OpN} {n:Int} (h:∀ x ∈ ops,x.depth ≤ n) (h0:0 ≤ n) (p:List Nat):z0z ops p ≤ n:=by
 unfold z0z
 cases hq:ops[(ops.map z00).idxOf p]? with
 | none=>exact h0
 | some x=>exact h x (List.mem_of_getElem? hq)
theorem zhg {ops:List OpN} {n:Int} (h:∀ x ∈ ops,x.depth ≤ n) (h0:0 ≤ n):∀ (L:List (List Nat)) (m:Int),0 ≤ m → m ≤ n → 0 ≤ L.foldl (fun n p=>if n < z0z ops p then z0z ops p else n) m ∧ L.foldl (fun n p=>if n < z0z ops p then z0z ops p else n) m ≤ n
 | [],m,h1,h2=>⟨h1,h2⟩
 | p :: L, m, h1, h2 => by
   rw [List.foldl_cons]
   split
   ·rename_i hlt
    exact zhg h h0 L _ (by omega) (zjt h h0 p)
   ·exact zhg h h0 L _ h1 h2
theorem z9q {ops:List OpN} {n:Int} (h:∀ x ∈ ops,x.depth ≤ n) (h0:0 ≤ n) (L:List (List Nat)):0 ≤ z6i ops L ∧ z6i ops L ≤ n:=zhg h h0 L 0 (Int.le_refl _) h0
theorem Shallow_push {s:DagN} (h:s.Shallow) {o:OpN} (hd:o.depth = z1p s.ops o) (W:List OpN):DagN.Shallow ⟨s.ops ++ [o],W⟩:=by
 intro x hx
 have hm:=(z9q h (by omega) o.preds).2
 rw [List.length_append,List.length_singleton]
 rcases List.mem_append.1 hx with hx | hx
 ·have:=h x hx
  omega
 ·obtain rfl:=List.mem_singleton.1 hx
  rw [hd,z1p]
  omega
theorem z5l:∀ (f:Nat) (s:DagN),s.Shallow → (z0s f s).2.Shallow ∧ (z0s f s).2.ops.length + (z0s f s).2.wait.length ≤ s.ops.length + s.wait.length
 | 0,s,h=>⟨h,Nat.le_refl _⟩
 | f + 1, s, h => by
   unfold z0s
   split
   ·exact ⟨h,Nat.le_refl _⟩
   ·rename_i i hb
    have hi:=zam hb
    split
    ·exact ⟨h,Nat.le_refl _⟩
    ·rename_i o ho
     have hl:(s.wait.eraseIdx i).length + 1 = s.wait.length:=by rw [List.length_eraseIdx,if_pos hi];omega
     split
     ·rename_i hd
      obtain ⟨h1,h2⟩:=z5l f ⟨s.ops ++ [o],s.wait.eraseIdx i⟩ (Shallow_push h hd _)
      refine ⟨h1,Nat.le_trans h2 ?_⟩
      simp only [List.length_append,List.length_singleton]
      omega
     ·obtain ⟨h1,h2⟩:=z5l f ⟨s.ops,s.wait.eraseIdx i⟩ h
      refine ⟨h1,Nat.le_trans h2 ?_⟩
      show s.ops.length + (s.wait.eraseIdx i).length ≤ _
      omega
theorem z6p {s:DagN} (h:s.Shallow) (o:OpN):(z2u s o).2.2.Shallow ∧ (z2u s o).2.2.ops.length + (z2u s o).2.2.wait.length ≤ s.ops.length + s.wait.length + 1:=by
 unfold z2u
 split
 ·exact ⟨h,by simp⟩
 ·split
  ·exact ⟨h,by simp⟩
  ·split
   ·exact ⟨h,by simp;omega⟩
   ·split
    ·exact ⟨h,by simp⟩
    ·rename_i hd
     have hd:=Classical.not_not.1 hd
     obtain ⟨h1,h2⟩:=z5l s.wait.length ⟨s.ops ++ [o],s.wait⟩ (Shallow_push h hd _)
     refine ⟨h1,Nat.le_trans h2 ?_⟩
     simp only [List.length_append,List.length_singleton]
     omega
end Go.Proofs.YtnbldbbbibpobaaGreatDoor
