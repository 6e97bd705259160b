/-
  Joined: Take's cuts: one is taken out of a row: an empty literal, what lies ahead, what lies behind.
-/
import Derived.Test.YtnbldbbbibpobaaGreatDoorJ06
namespace Go.Proofs.YtnbldbbbibpobaaGreatDoor
open Go.RowKit Go.BigFrame
section
variable {X:Nat → Prop} {ap:Option Addr} {L:List OpN} {w:World}
theorem OpsX.take (h:OpsX X ap L w) (j:Nat):OpsX X ap (L.take j) w:=by
 rcases h with rfl | ⟨b,o,rfl,h2,h3⟩
 ·exact .inl (by simp)
 ·refine .inr ⟨b,o,rfl,h2,fun i x hx=>h3 i x ?_⟩
  have hi:=(List.getElem?_eq_some_iff.1 hx).1
  rw [List.length_take] at hi
  rw [List.getElem?_take_of_lt (by omega)] at hx
  exact hx
theorem OpsX.drop {c j:Nat} (h:OpsX X ap L w) (hc:L.length ≤ c):OpsX X (if c = j then ap else ap.map (·.add (j * 38))) (L.drop j) w:=by
 by_cases hj:L.length ≤ j
 ·exact .inl (List.drop_eq_nil_of_le hj)
 rw [if_neg (by omega)]
 rcases h with rfl | ⟨b,o,rfl,h2,h3⟩
 ·exact .inl (by simp)
 ·refine .inr ⟨b,o + j * 38,by simp [Addr.add_lit],h2,fun i x hx=>?_⟩
  rw [List.getElem?_drop] at hx
  have:=h3 (j + i) x hx
  rwa [show o + (j + i) * 38 = o + j * 38 + i * 38 by omega] at this
theorem OwnX.cap {B:Nat} {e:TypeId} {ao:Option Addr} {n c:Nat} (h:OwnX X B e (.slice ao n c) L w):L.length ≤ c:=by
 obtain ⟨ao',c',hv⟩:=h.form
 injection hv with _ hn _
 obtain ⟨fl,h1,_⟩:=h
 rcases h1.2 with ⟨h0,h2⟩ | ⟨g,cap,cur,h0,_,_,hk,_⟩
 ·rw [h2];exact Nat.zero_le _
 ·injection h0 with _ _ h5
  rw [h5];exact hk
end
section
variable {o:Oper} {a:Act} {w:World} {K:Act → World → Prop} {Q:Exit → Act → World → Prop}
theorem zdd (ho:o.op = .buildSlice 29 0 #[]) (h:K (a.put o.dst (.slice (some ⟨w.heap.size,0,none⟩) 0 0)) (w.alloc (.cells #[] 38))):OpWp Tryz.prog o a w K Q:=by
 have hr:(Instr.buildSlice 29 0 #[]).run Tryz.prog w = .ok (.slice (some ⟨w.heap.size,0,none⟩) 0 0) (w.alloc (.cells #[] 38)):=by go_simp
 refine ⟨?_⟩
 unfold Oper.wp execOp
 simp only [ho,Sem.run_bind,Array.map_empty,hr,Result.andThen_ok]
 exact h
theorem zcd (ho:o.op = .buildSlice 34 0 #[]) (h:K (a.put o.dst (.slice (some ⟨w.heap.size,0,none⟩) 0 0)) (w.alloc (.cells #[] 25))):OpWp Tryz.prog o a w K Q:=by
 have hr:(Instr.buildSlice 34 0 #[]).run Tryz.prog w = .ok (.slice (some ⟨w.heap.size,0,none⟩) 0 0) (w.alloc (.cells #[] 25)):=by go_simp
 refine ⟨?_⟩
 unfold Oper.wp execOp
 simp only [ho,Sem.run_bind,Array.map_empty,hr,Result.andThen_ok]
 exact h
end
def CutO (X:Nat → Prop) (wb:World) (L:List OpN) (i:Nat):Nat → Value → World → Prop
 | 0,_,w'=>Below wb.heap.size wb w'
 | 1,v,w'=>Below wb.heap.size wb w' ∧ OwnX X wb.heap.size 38 v [] w'
 | 2,v,w'=>Below wb.heap.size wb w' ∧ OwnX X wb.heap.size 38 v (L.take i) w'
 | _,v,w'=>Below wb.heap.size wb w' ∧ OwnX X wb.heap.size 38 v (L.take i ++ L.drop (i + 1)) w'
def CutI (wb:World) (L:List (List Nat)) (i:Nat):Nat → Value → World → Prop
 | 0,_,w'=>Below wb.heap.size wb w'
 | 1,v,w'=>Below wb.heap.size wb w' ∧ OwnI wb.heap.size 25 v [] w'
 | 2,v,w'=>Below wb.heap.size wb w' ∧ OwnI wb.heap.size 25 v (L.take i) w'
 | _,v,w'=>Below wb.heap.size wb w' ∧ OwnI wb.heap.size 25 v (L.take i ++ L.drop (i + 1)) w'
theorem Moved.new {B:Nat} {v u:Value} {w:World} (h:∀ k,v.ownBlock = some k → B ≤ k) (hB:w.heap.size ≤ B):Moved v u w:=fun b hb=>.inr (Nat.le_trans hB (h b hb))
theorem add_one (i:Nat) (h:i ≤ 1000000) (w:World):(binOp .add 3 (.int .i64 (i:Int)) (.int .i64 1)).run Tryz.prog w = .ok (.int .i64 ((i + 1:Nat):Int)) w:=by
 have e:IntKind.i64.wrap ((i:Int) + 1) = ((i + 1:Nat):Int):=by
  simp [IntKind.wrap,IntKind.bits,IntKind.signed]
  omega
 rw [← e]
 go_simp
theorem RefL.only {X O:Nat → Prop} {gs:Nat} {vo vw vn vq:Value} {A W:List OpN} {N Q:List (List Nat)} {w w':World} (h:RefL X gs vo vw vn vq A W N Q w) (k:Only O w w') (hO:∀ b,O b → X b) (hn:∀ b,RefX gs vo vw vn vq b → ¬ O b):RefL X gs vo vw vn vq A W N Q w' :=
 ⟨h.cells.only k (hn _ (.inl rfl)),h.ops.only k hO (fun g hg=>hn g (.inr (.inl hg))),h.wait.only k hO (fun g hg=>hn g (.inr (.inr (.inl hg)))),h.names.only k (fun g hg=>hn g (.inr (.inr (.inr (.inl hg))))),h.waits.only k (fun g hg=>hn g (.inr (.inr (.inr (.inr hg))))),h.mine,h.apart,h.apartN⟩
theorem zcc {α:Type} (L:List α) (i:Nat):L.take i ++ L.drop (i + 1) = L.eraseIdx i:=(List.eraseIdx_eq_take_drop_succ L i).symm
end Go.Proofs.YtnbldbbbibpobaaGreatDoor
