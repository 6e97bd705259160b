/-
  Joined: Operations of a region whose order is open, one by one (for the steps of wp_region_free): fields, loads, conversions, literal slices of one value, values pushed.; Drafts and operations as values.; Structs built: a literal of any struct type by its layout (wpList_build_val, quiet_build_val, op_build_val: the value as an equation of P.built).; Drafts and operations built.; Drafts compared.; The document's Same.; Rows of blocks of K cells (arrays, structs), one behind the other: a block read, laid over, pushed; copy; a call of a function value.; Rows of operations; the document's SameAll.; What a law's arguments are: slices of texts, opened.; Drafts, operations, rows of operations that came in.; Makes (layer 10) that came in: how operations are to be made.; Each depth is right, whatever was taken; an index out of any number.; The values of a printed region, together: what each is once it is there.
-/
import Derived.ChangeOld
import Derived.ChangeSlices
import Derived.Deep.MidRow
import Derived.Deep.Slices
import Derived.Great.BuildSlice
import Derived.Laws.DeepStrings4
import Derived.Laws.IdiomCopy
import Derived.Laws.StructEq
import Derived.OpenShut
import Derived.ProofKit
import Derived.ShutString
import Derived.SizedLaws
import Derived.SliceStrings
import Derived.Test.YtnbldbbbibpobaaGreatDoorRows
import Derived.Test.YtnbldbbbibpobaaGreatDoorJ01
import Derived.Test.YtnbldbbbibpobaaGreatDoorJ02
import Derived.Test.YtnbldbbbibpobaaGreatDoorJ03
set_option maxRecDepth 100000
set_option maxHeartbeats 4000000
namespace Go.Proofs.YtnbldbbbibpobaaGreatDoor
open Go.RowKit
section
variable {P:Program} {o:Oper} {a:Act} {w:World} {K:Act → World → Prop} {Q:Exit → Act → World → Prop}
theorem z0m (x:Operand) (ho:o.op = .nilCheck x) (p:Addr) (hx:a.eval x = .pointer (some p)) (h:K (a.put o.dst (.pointer (some p))) w):OpWp P o a w K Q:=by
 refine ⟨?_⟩
 unfold Oper.wp execOp
 simp only [ho,hx,Sem.run_pure]
 exact h
theorem z0l (ty:TypeId) (x:Operand) (k:Nat) (ho:o.op = .fieldAddr ty x k) (p q:Addr) (hx:a.eval x = .pointer (some p)) (hr:∀ w,(Instr.fieldAt ty (.pointer (some p)) k).run P w = .ok (.pointer (some q)) w)
 (h:K (a.put o.dst (.pointer (some q))) w):OpWp P o a w K Q:=by
 refine ⟨?_⟩
 unfold Oper.wp execOp
 simp only [ho,hx,Sem.run_bind,Sem.run_pure,hr,Result.andThen_ok]
 exact h
theorem z0o (ty:TypeId) (x:Operand) (ho:o.op = .load ty x) (p:Addr) (v:Value) (hx:a.eval x = .pointer (some p)) (hc:w.cell? p = some v) (hi:∀ w,(isAgg ty).run P w = .ok false w) (h:K (a.put o.dst v) w):OpWp P o a w K Q:=by
 refine ⟨?_⟩
 unfold Oper.wp execOp
 simp only [ho,hx,Instr.loadAt,Instr.sureAddr,Sem.run_bind,Sem.run_pure,Result.andThen_ok,z3g w ty p v hc hi]
 exact h
theorem z2y (ty:TypeId) (x y:Operand) (ho:o.op = .indexAddr ty x y) (vx vy:Value) (q:Addr) (hx:a.eval x = vx) (hy:a.eval y = vy) (hr:∀ w,(Instr.indexAt ty vx vy).run P w = .ok (.pointer (some q)) w)
 (h:K (a.put o.dst (.pointer (some q))) w):OpWp P o a w K Q:=by
 refine ⟨?_⟩
 unfold Oper.wp execOp
 simp only [ho,hx,hy,Sem.run_bind,Sem.run_pure,hr,Result.andThen_ok]
 exact h
theorem z8b (t u:TypeId) (x:Operand) (ho:o.op = .convert t u x) (v r:Value) (hx:a.eval x = v) (hC:(convert t u v).run P w = .ok r w) (h:K (a.put o.dst r) w):OpWp P o a w K Q:=by
 refine ⟨?_⟩
 unfold Oper.wp execOp
 simp only [ho,hx,Sem.run_bind,hC,Result.andThen_ok,Sem.run_pure]
 exact h
end
theorem z8s {P:Program} {o:Oper} {a:Act} {w:World} {K:Act → World → Prop} {Q:Exit → Act → World → Prop} (op:BinOp) (t u:TypeId) (x y:Operand) (ho:o.op = .binOp op t x y u) (vx vy r:Value) (hx:a.eval x = vx) (hy:a.eval y = vy)
 (hg:∀ w,(eqGuard op t x y vx vy).run P w = .ok () w) (hr:∀ w,(binOp op t vx vy).run P w = .ok r w) (h:K (a.put o.dst r) w):OpWp P o a w K Q:=by
 refine ⟨?_⟩
 unfold Oper.wp execOp
 simp only [ho,hx,hy,Sem.run_bind,Sem.run_pure,hg,hr,Result.andThen_ok]
 exact h
theorem z0p {P:Program} {fn:Func} {p u:Tmp} {ty:TypeId} (h:fn.results = #[.cell p ty,.tmp u]) (tmps:Array Value) (w:World) (g:Nat) (cs:Array Value) (t:TypeId) (d:TypeDesc) (v:Value)
 (hp:tmps.getD p undef = .pointer (some ⟨g,0,none⟩)) (hv:tmps.getD u undef = v) (hg:Cells g t cs w)
 (hu:P.underlying ty = some d) (hd:(match d with | .struct _ | .array _ _=>true | _=>false) = true) (hi:(P.info? ty).map (·.size) = some cs.size) :
 (results fn tmps).run P w = .ok (.tuple #[.agg cs,v]) w:=by
 rw [results_cell_tmp h,hp,hv]
 simp [asAddr,Result.andThen,run_loadVar_row w g t ty _ (0,0) d hg hu hd hi]
open Go.BigFrame
def z18 (d:DraftN):List Value:=.int .i64 d.kind :: .string ⟨d.key.toArray⟩ :: .string ⟨d.val.toArray⟩ :: z06 .u8 d.ref
def z0d (d:DraftN):Array Value:=(z18 d).toArray
def opL (o:OpN) (pa:Option Addr) (pc:Nat):List Value:=z18 o.d ++ [.int .i64 o.author,.int .i64 o.depth,.slice pa o.preds.length pc]
def opV (o:OpN) (pa:Option Addr) (pc:Nat):Array Value:=(opL o pa pc).toArray
theorem z0s {d:DraftN} (h:d.ref.length = 32):(z18 d).length = 35:=by simp [z18,z0v,h]
theorem z2i {o:OpN} {pa:Option Addr} {pc:Nat} (h:o.d.ref.length = 32):(opL o pa pc).length = 38:=by rw [opL,List.length_append,z0s h];rfl
theorem zay (d:DraftN):∀ u ∈ z18 d,u.oneCell' = true:=fun u hu=>by
 simp only [z18,List.mem_cons] at hu
 rcases hu with rfl | rfl | rfl | hu
 ·rfl
 ·rfl
 ·rfl
 ·exact z4w _ _ u hu
theorem zdy (o:OpN) (pa:Option Addr) (pc:Nat):∀ u ∈ opL o pa pc,u.oneCell' = true:=fun u hu=>by
 rcases List.mem_append.1 hu with hu | hu
 ·exact zay _ u hu
 ·simp only [List.mem_cons,List.not_mem_nil,or_false] at hu
  rcases hu with rfl | rfl | rfl <;> rfl
theorem zdr:(z06 .u8 zeroI).toArray = #[.int .u8 0,.int .u8 0,.int .u8 0,.int .u8 0,.int .u8 0,.int .u8 0,.int .u8 0,.int .u8 0,.int .u8 0,.int .u8 0,.int .u8 0,.int .u8 0,.int .u8 0,.int .u8 0,.int .u8 0,.int .u8 0,.int .u8 0,.int .u8 0,.int .u8 0,.int .u8 0,.int .u8 0,.int .u8 0,.int .u8 0,.int .u8 0,.int .u8 0,.int .u8 0,.int .u8 0,.int .u8 0,.int .u8 0,.int .u8 0,.int .u8 0,.int .u8 0]:=rfl
theorem Tryz.sizeI:(Tryz.prog.info? 25).map (·.size) = some 32:=by kernel_rfl
theorem z2z {g:Nat} {t:TypeId} {d:DraftN} {w:World} (h:Cells g t (z0d d) w):w.cell? ⟨g,0,none⟩ = some (.int .i64 d.kind) ∧ w.cell? ⟨g,1,none⟩ = some (.string ⟨d.key.toArray⟩) ∧ w.cell? ⟨g,2,none⟩ = some (.string ⟨d.val.toArray⟩) ∧ w.rangeAt g 3 (z06 .u8 d.ref):=by
 refine ⟨by rw [h.at];rfl,by rw [h.at];rfl,by rw [h.at];rfl,fun j v hj=>?_⟩
 rw [h.at,z0d,List.getElem?_toArray,z18,Nat.add_comm,List.getElem?_cons_succ,List.getElem?_cons_succ,List.getElem?_cons_succ]
 exact hj
theorem z0k {g:Nat} {t:TypeId} {o:OpN} {pa:Option Addr} {pc:Nat} {w:World} (hr:o.d.ref.length = 32) (h:Cells g t (opV o pa pc) w) :
 w.rangeAt g 0 (z18 o.d) ∧ w.cell? ⟨g,35,none⟩ = some (.int .i64 o.author) ∧ w.cell? ⟨g,36,none⟩ = some (.int .i64 o.depth) ∧ w.cell? ⟨g,37,none⟩ = some (.slice pa o.preds.length pc):=by
 have hl:=z0s hr
 have hx:∀ i,w.cell? ⟨g,35 + i,none⟩ = ([Value.int .i64 o.author,.int .i64 o.depth,.slice pa o.preds.length pc]:List Value)[i]?:=fun i=>by
  rw [h.at,opV,List.getElem?_toArray,opL,List.getElem?_append_right (by omega),hl,Nat.add_sub_cancel_left]
 refine ⟨fun j v hj=>?_,hx 0,hx 1,hx 2⟩
 have hjl:=(List.getElem?_eq_some_iff.1 hj).1
 rw [Nat.zero_add,h.at,opV,List.getElem?_toArray,opL,List.getElem?_append_left hjl]
 exact hj
theorem z5p {g:Nat} {d:DraftN} {w:World} (h:w.rangeAt g 0 (z18 d)):w.cell? ⟨g,0,none⟩ = some (.int .i64 d.kind) ∧ w.cell? ⟨g,1,none⟩ = some (.string ⟨d.key.toArray⟩) ∧ w.cell? ⟨g,2,none⟩ = some (.string ⟨d.val.toArray⟩) ∧ w.rangeAt g 3 (z06 .u8 d.ref):=by
 refine ⟨h 0 _ rfl,h 1 _ rfl,h 2 _ rfl,fun j v hj=>?_⟩
 have h1:=h (j + 3) v (by
  rw [z18,List.getElem?_cons_succ,List.getElem?_cons_succ,List.getElem?_cons_succ]
  exact hj)
 rw [show 0 + (j + 3) = 3 + j by omega] at h1
 exact h1
theorem z9t (v:List UInt8):(v == []) = decide (v = []):=by cases v <;> simp
end Go.Proofs.YtnbldbbbibpobaaGreatDoor
namespace Go.Proofs.YtnbldbbbibpobaaGreatDoor
open Go.RowKit
def putL (xs:List Value):Nat → List Value → List Value
 | _,[]=>xs
 | o,v :: r=>putL (xs.set o v) (o + 1) r
theorem zcf (off:Nat):∀ (vs:List Value) (cs:Array Value) (k:Nat),List.foldl (fun (cs:Array Value) (x:Value × Nat)=>cs.setIfInBounds (off + x.2) x.1) cs (vs.zipIdx k) = (putL cs.toList (off + k) vs).toArray
 | [],cs,k=>by simp [putL]
 | v :: r,cs,k=>by rw [List.zipIdx_cons,List.foldl_cons,zcf off r,putL];simp [Nat.add_assoc]
theorem zfr:∀ (vs xs ys zs:List Value),vs.length = ys.length → putL (xs ++ (ys ++ zs)) xs.length vs = xs ++ (vs ++ zs)
 | [], xs, ys, zs, h => by
   obtain rfl:ys = []:=List.length_eq_zero_iff.1 h.symm
   rfl
 | v :: r, xs, ys, zs, h => by
   cases ys with
   | nil=>cases h
   | cons y ys =>
     have ih:=zfr r (xs ++ [v]) ys zs (by simpa using h)
     rw [List.length_append,List.length_singleton] at ih
     rw [putL,List.cons_append,List.set_append_right _ _ (Nat.le_refl _),Nat.sub_self,List.set_cons_zero]
     simpa using ih
theorem z3p (place:Nat → Option (Nat × Nat)) (i off size:Nat) (v:Value) (rest:List (Nat × Value)) (xs ys zs vs:List Value) (hp:place i = some (off,size)) (hv:v.cells.toList = vs) (h1:vs.length = size) (h2:ys.length = size) (h3:xs.length = off) :
 Instr.fill place (xs ++ (ys ++ zs)).toArray ((i,v) :: rest) = Instr.fill place (xs ++ (vs ++ zs)).toArray rest:=by
 have hc:v.cells.size = size:=by rw [← h1,← hv,Array.length_toList]
 rw [Instr.fill]
 simp only [hp]
 rw [if_neg (by simp [hc];omega)]
 congr 1
 rw [← Array.foldl_toList,Array.toList_zipIdx,zcf off,hv]
 show (putL (xs ++ (ys ++ zs)) (off + 0) vs).toArray = _
 rw [Nat.add_zero,← h3,zfr _ _ _ _ (by omega)]
theorem zba (place:Nat → Option (Nat × Nat)) (cs:Array Value):Instr.fill place cs [] = some cs:=rfl
theorem z4v {P:Program} {a:Act} {w:World} (t:TypeId) (parts:Array (Nat × Operand)) (vals:List (Nat × Value)) (cs:Array Value)
 (hp:(parts.map fun (i,x)=>(i,a.eval x)) = vals.toArray) (hb:P.built t vals = some cs):(Instr.build t (parts.map fun (i,x)=>(i,a.eval x))).run P w = .ok (.agg cs) w:=by
 rw [hp]
 exact run_build w t vals.toArray cs (by simpa using hb)
theorem z0r {P:Program} {ops:Array Oper} {rest:List Oper} {o:Oper} {a:Act} {w:World} {Q:Exit → Act → World → Prop} (hg:o.guard = none) (t:TypeId) (parts:Array (Nat × Operand)) (ho:o.op = .build t parts)
 (vals:List (Nat × Value)) (cs:Array Value) (hp:(parts.map fun (i,x)=>(i,a.eval x)) = vals.toArray) (hb:P.built t vals = some cs) (hk:wpList P ops Q rest (a.put o.dst (.agg cs)) w):wpList P ops Q (o :: rest) a w:=by
 refine wpList_plain hg fun K hK=>?_
 unfold Oper.wp execOp
 simp only [ho,Sem.run_bind,z4v t parts vals cs hp hb,Result.andThen_ok]
 exact hK _ _ hk
theorem z3v {P:Program} {o:Oper} {a:Act} {C:World → Prop} {K:Act → Prop} (t:TypeId) (parts:Array (Nat × Operand)) (ho:o.op = .build t parts)
 (vals:List (Nat × Value)) (cs:Array Value) (hp:(parts.map fun (i,x)=>(i,a.eval x)) = vals.toArray) (hb:P.built t vals = some cs) (hk:K (a.put o.dst (.agg cs))):o.quiet P a C K:=by
 refine ⟨_,fun w hw=>?_,hk⟩
 unfold Oper.quietAt execOp
 simp only [ho,Sem.run_bind,z4v t parts vals cs hp hb,Result.andThen_ok]
 exact ⟨rfl,rfl⟩
theorem z5l {P:Program} {o:Oper} {a:Act} {w:World} {K:Act → World → Prop} {Q:Exit → Act → World → Prop} (t:TypeId) (parts:Array (Nat × Operand)) (ho:o.op = .build t parts)
 (vals:List (Nat × Value)) (cs:Array Value) (hp:(parts.map fun (i,x)=>(i,a.eval x)) = vals.toArray) (hb:P.built t vals = some cs) (hk:K (a.put o.dst (.agg cs)) w):OpWp P o a w K Q:=by
 refine ⟨?_⟩
 unfold Oper.wp execOp
 simp only [ho,Sem.run_bind,z4v t parts vals cs hp hb,Result.andThen_ok]
 exact hk
def NewC (s:Nat → Bool) (V:Nat → Value) (B i:Nat) (t:TypeId) (cs:Array Value) (w:World):Prop:=s i = true → ∃ g,V i = .pointer (some ⟨g,0,none⟩) ∧ B ≤ g ∧ Cells g t cs w
theorem NewC.none {V:Nat → Value} {B i:Nat} {t:TypeId} {cs:Array Value} {w:World}:NewC (fun _=>false) V B i t cs w:=fun h=>by cases h
theorem NewC.ne {s:Nat → Bool} {V:Nat → Value} {B i j:Nat} {t:TypeId} {cs:Array Value} {w w':World} {u:Value} (h:NewC s V B j t cs w) (hne:j ≠ i) (hb:Below w.heap.size w w'):NewC (fun j=>s j || j == i) (upd V i u) B j t cs w':=fun hs=>by
 obtain ⟨g,e,hg,hk⟩:=h (z6m hne hs)
 exact ⟨g,by rw [z1r V u hne];exact e,hg,hk.below hb⟩
theorem NewC.same {s:Nat → Bool} {V:Nat → Value} {B i:Nat} {t:TypeId} {cs:Array Value} {w:World} (hB:B ≤ w.heap.size):NewC (fun j=>s j || j == i) (upd V i (.pointer (some ⟨w.heap.size,0,Option.none⟩))) B i t cs (w.alloc (.cells cs t)) :=
 fun _=>⟨w.heap.size,z28 _ _ _,hB,heap_alloc_new w _⟩
theorem z2w {P:Program} {w:World} {ops:Array Oper} {rest:List Oper} {o:Oper} {a:Act} {Q:Exit → Act → World → Prop} (hw:Region.wanted o (yielded ops a.tmps) = true) (ty:TypeId) (x:Operand) (ho:o.op = .load ty x)
 (g:Nat) (cs:Array Value) (t:TypeId) (d:TypeDesc) (hx:a.eval x = .pointer (some ⟨g,0,none⟩)) (hg:Cells g t cs w)
 (hu:P.underlying ty = some d) (hd:(match d with | .struct _ | .array _ _=>true | _=>false) = true) (hi:(P.info? ty).map (·.size) = some cs.size)
 (h:wpList P ops Q rest (a.put o.dst (.agg cs)) w):wpList P ops Q (o :: rest) a w :=
 BigFrame.wpList_want hw fun _ hK=>wp_load_row ty x ho g hx t _ _ d hg hu hd hi (hK _ _ h)
theorem z36 {P:Program} {o:Oper} {a:Act} {C:World → Prop} {K:Act → Prop} (ty:TypeId) (x:Operand) (ho:o.op = .load ty x) (b off:Nat) (cs:List Value) (d:TypeDesc)
 (hx:a.eval x = .pointer (some ⟨b,off,none⟩)) (hC:∀ w,C w → w.rangeAt b off cs) (hu:P.underlying ty = some d) (hd:d.isRow = true) (hi:(P.info? ty).map (·.size) = some cs.length)
 (hk:K (a.put o.dst (.agg cs.toArray))):o.quiet P a C K:=by
 refine ⟨_,fun w hw=>?_,hk⟩
 unfold Oper.quietAt execOp
 simp only [ho,hx,Instr.loadAt,Instr.sureAddr,Sem.run_bind,Sem.run_pure,Result.andThen_ok,run_loadVar_mid w b off ty _ d (hC w hw) hu hd hi]
 exact ⟨rfl,rfl⟩
theorem part_row {P:Program} {w:World} {t:TypeId} {xs vs:Array Value} {off n:Nat} (h1:(isAgg t).run P w = .ok true w) (h2:(sizeOf t).run P w = .ok n w) (h3:xs.extract off (off + n) = vs):(Go.part t xs off).run P w = .ok (.agg vs) w:=by
 simp only [Go.part,Sem.run_bind,h1,h2,Result.andThen_ok,if_true,h3,Sem.run_pure]
theorem z7c {P:Program} {w:World} {t:TypeId} {xs:Array Value} {off:Nat} {v:Value} (h1:(isAgg t).run P w = .ok false w) (h3:xs[off]? = some v):(Go.part t xs off).run P w = .ok v w:=by
 simp only [Go.part,Sem.run_bind,h1,Result.andThen_ok,Bool.false_eq_true,if_false,h3,Sem.run_pure]
theorem z3o {P : Program} {w : World} {d : Nat} {xs ys : Array Value} {f : Field} {fs : List Field} {nm : String} {t : TypeId} {off : Nat} {a b : Value} {r s : Bool} (hf : (f.name, f.type, f.offset) = (nm, t, off)) (hn : nm ≠ "_")
 (ha:(Go.part t xs off).run P w = .ok a w) (hb:(Go.part t ys off).run P w = .ok b w) (hr:(Op.equalIn d t a b).run P w = .ok r w) (hs:(Op.eqFields d xs ys fs).run P w = .ok s w):(Op.eqFields d xs ys (f :: fs)).run P w = .ok (r && s) w:=by
 simp only [Prod.mk.injEq] at hf
 obtain ⟨rfl,rfl,rfl⟩:=hf
 rw [Op.eqFields,if_pos hn]
 simp only [Sem.run_bind,ha,hb,hr,Result.andThen_ok]
 cases r with
 | false=>simp
 | true=>simpa using hs
theorem zc8 {P:Program} {w:World} {d:Nat} {xs ys:Array Value}:(Op.eqFields d xs ys []).run P w = .ok true w:=by
 rw [Op.eqFields,Sem.run_pure]
theorem z6k {P:Program} {w:World} (d:Nat) (t:TypeId) (a b:List UInt8) (h:P.underlying t = some .string):(Op.equalIn (d + 1) t (.string ⟨a.toArray⟩) (.string ⟨b.toArray⟩)).run P w = .ok (a == b) w:=by
 rw [run_equalIn_string w d t _ _ h,ByteArray.toList_eq,ByteArray.toList_eq]
theorem fields4 {l:List Field} {a b c d:String × TypeId × Nat} (h:l.map (fun f=>(f.name,f.type,f.offset)) = [a,b,c,d]):∃ f0 f1 f2 f3,l = [f0,f1,f2,f3] ∧ (f0.name,f0.type,f0.offset) = a ∧ (f1.name,f1.type,f1.offset) = b ∧ (f2.name,f2.type,f2.offset) = c ∧ (f3.name,f3.type,f3.offset) = d:=by
 match l,h with
 | [f0, f1, f2, f3], h =>
   simp only [List.map_cons,List.map_nil,List.cons.injEq,and_true] at h
   exact ⟨f0,f1,f2,f3,rfl,h.1,h.2.1,h.2.2.1,h.2.2.2⟩
 | [],h=>simp at h
 | [_],h=>simp at h
 | [_,_],h=>simp at h
 | [_,_,_],h=>simp at h
 | _ :: _ :: _ :: _ :: _ :: _,h=>simp at h
open Go.BigFrame
theorem Tryz.sizeD:(Tryz.prog.info? 27).map (·.size) = some 35:=by kernel_rfl
theorem Tryz.sizeO:(Tryz.prog.info? 38).map (·.size) = some 38:=by kernel_rfl
def z8d:DraftN:=⟨0,[],[],zeroI⟩
def z05:OpN:=⟨z8d,0,0,[]⟩
theorem z5w:opV z05 none 0 = #[.int .i64 0,.string ⟨#[]⟩,.string ⟨#[]⟩,.int .u8 0,.int .u8 0,.int .u8 0,.int .u8 0,.int .u8 0,.int .u8 0,.int .u8 0,.int .u8 0,.int .u8 0,.int .u8 0,.int .u8 0,.int .u8 0,.int .u8 0,.int .u8 0,.int .u8 0,.int .u8 0,.int .u8 0,.int .u8 0,.int .u8 0,.int .u8 0,.int .u8 0,.int .u8 0,.int .u8 0,.int .u8 0,.int .u8 0,.int .u8 0,.int .u8 0,.int .u8 0,.int .u8 0,.int .u8 0,.int .u8 0,.int .u8 0,.int .i64 0,.int .i64 0,.slice none 0 0]:=rfl
def zh6:Nat → Option (Nat × Nat):=fun i=>(#[(0,1),(1,1),(2,1),(3,32)]:Array (Nat × Nat))[i]?
def z8p:Nat → Option (Nat × Nat):=fun i=>(#[(0,35),(35,1),(36,1),(37,1)]:Array (Nat × Nat))[i]?
theorem zgn (parts:List (Nat × Value)):Tryz.prog.built 27 parts = Instr.fill zh6 (z0d z8d) parts:=by kernel_rfl
theorem zdw (parts:List (Nat × Value)):Tryz.prog.built 38 parts = Instr.fill z8p (opV z05 none 0) parts:=by kernel_rfl
theorem z26:Tryz.prog.built 38 [] = some (opV z05 none 0):=by rw [zdw];rfl
theorem z0z (o:OpN) (pa:Option Addr) (pc:Nat):(opV o pa pc).all (·.oneCell') = true:=by
 rw [opV,List.all_toArray]
 exact List.all_eq_true.2 (zdy o pa pc)
theorem z5a {d:DraftN} (h:d.ref.length = 32):(z0d d).size = 35:=z0s h
theorem z07 {o:OpN} {pa:Option Addr} {pc:Nat} (h:o.d.ref.length = 32):(opV o pa pc).size = 38:=z2i h
theorem zck : (Tryz.prog.fieldsOf 27).toList.map (fun f => (f.name, f.type, f.offset)) = [("Kind", 3, 0), ("Key", 9, 1), ("Value", 9, 2), ("Ref", 25, 3)] := by kernel_rfl
theorem zaz (d:DraftN) (hd:d.ref.length = 32) (w:World):(Go.part 3 (z0d d) 0).run Tryz.prog w = .ok (.int .i64 d.kind) w ∧ (Go.part 9 (z0d d) 1).run Tryz.prog w = .ok (.string ⟨d.key.toArray⟩) w ∧
 (Go.part 9 (z0d d) 2).run Tryz.prog w = .ok (.string ⟨d.val.toArray⟩) w ∧ (Go.part 25 (z0d d) 3).run Tryz.prog w = .ok (.agg (z06 .u8 d.ref).toArray) w:=by
 refine ⟨z7c (by kernel_rfl) rfl,z7c (by kernel_rfl) rfl,z7c (by kernel_rfl) rfl,part_row (n:=32) (by kernel_rfl) (by kernel_rfl) ?_⟩
 apply Array.ext'
 rw [z0d,z18,List.extract_toArray,List.toList_toArray,List.extract_eq_take_drop]
 simp only [zE,zF]
 rw [List.take_of_length_le (by rw [z0v,hd];decide)]
def eqDB (a b:DraftN):Bool:=(a.kind == b.kind) && ((a.key == b.key) && ((a.val == b.val) && ((a.ref == b.ref) && true)))
theorem eqDB_eq (a b:DraftN):eqDB a b = decide (a = b):=by
 obtain ⟨a1,a2,a3,a4⟩:=a
 obtain ⟨b1,b2,b3,b4⟩:=b
 simp only [eqDB,DraftN.mk.injEq]
 rw [Bool.eq_iff_iff]
 simp
theorem zep (a b:DraftN) (ha:IdOk a.ref) (hb:IdOk b.ref) (w:World) :
 (Op.equalIn 10000 27 (.agg (z0d a)) (.agg (z0d b))).run Tryz.prog w = .ok (decide (a = b)) w:=by
 have hs:=run_equalIn_struct (P:=Tryz.prog) w 9999 27 (z0d a) (z0d b) (by kernel_rfl) (by kernel_rfl)
 rw [show 9999 + 1 = 10000 from rfl] at hs
 rw [hs]
 obtain ⟨f0,f1,f2,f3,hf,h0,h1,h2,h3⟩:=fields4 zck
 rw [hf]
 obtain ⟨p0,p1,p2,p3⟩:=zaz a ha.1 w
 obtain ⟨q0,q1,q2,q3⟩:=zaz b hb.1 w
 have e0:=run_equalIn_int (P:=Tryz.prog) w 9998 3 .i64 .i64 a.kind b.kind Tryz.underlying3
 have e1:=z6k (P:=Tryz.prog) (w:=w) 9998 9 a.key b.key Tryz.underlying9
 have e2:=z6k (P:=Tryz.prog) (w:=w) 9998 9 a.val b.val Tryz.underlying9
 have e3:(Op.equalIn 9999 25 (.agg (z06 .u8 a.ref).toArray) (.agg (z06 .u8 b.ref).toArray)).run Tryz.prog w = .ok (a.ref == b.ref) w:=by
  rw [z79 ha.2,z79 hb.2,run_equalIn_bytes w 9997 25 5 32 Tryz.underlying25 Tryz.underlying5 Tryz.sizeOf5 (txt a.ref) (txt b.ref) (by rw [z2f,ha.1]) (by rw [z2f,hb.1]),zh0 ha.2 hb.2]
 have h:=z3o h0 (by decide) p0 q0 e0 (z3o h1 (by decide) p1 q1 e1 (z3o h2 (by decide) p2 q2 e2 (z3o h3 (by decide) p3 q3 e3 zc8)))
 rw [h,← eqDB_eq]
 rfl
theorem getD_all {L M:List (List Nat)} {n:Nat} (hl:L.length = n) (hm:M.length = n) (h:∀ j,j < n → L.getD j [] = M.getD j []):L = M:=by
 refine List.ext_getElem (by omega) fun j h1 h2=>?_
 have:=h j (by omega)
 rwa [List.getD_eq_getElem?_getD,List.getD_eq_getElem?_getD,List.getElem?_eq_getElem h1,List.getElem?_eq_getElem h2] at this
theorem zhj (a b:OpN):a = b ↔ a.d = b.d ∧ a.author = b.author ∧ a.depth = b.depth ∧ a.preds = b.preds:=by
 obtain ⟨a1,a2,a3,a4⟩:=a
 obtain ⟨b1,b2,b3,b4⟩:=b
 simp
theorem z5h (a b:OpN) (pa pb:Option Addr) (pc pd:Nat) (w:World) (ha:a.Ok) (hb:b.Ok) (hpa:IAt pa a.preds w) (hpb:IAt pb b.preds w) (hna:a.preds.length ≤ 140737488351232) (hnb:b.preds.length ≤ 140737488351232) :
 Calls Tryz.prog 20 #[.agg (opV a pa pc),.agg (opV b pb pd)] w fun e w'=>e = .returned (.bool (decide (a = b))) ∧ Below w.heap.size w w':=by
 have b1:Below w.heap.size w (w.alloc (.cells (opV a pa pc) 38)):=(Below.refl _ _).alloc (Nat.le_refl _) _
 have x1:Cells w.heap.size 38 (opV a pa pc) (w.alloc (.cells (opV a pa pc) 38)):=heap_alloc_new w _
 have s1:(w.alloc (.cells (opV a pa pc) 38)).heap.size = w.heap.size + 1:=World.size_alloc _ _
 have b2:Below (w.alloc (.cells (opV a pa pc) 38)).heap.size (w.alloc (.cells (opV a pa pc) 38)) ((w.alloc (.cells (opV a pa pc) 38)).alloc (.cells (opV b pb pd) 38)):=(Below.refl _ _).alloc (Nat.le_refl _) _
 have x2:Cells (w.alloc (.cells (opV a pa pc) 38)).heap.size 38 (opV b pb pd) ((w.alloc (.cells (opV a pa pc) 38)).alloc (.cells (opV b pb pd) 38)):=heap_alloc_new _ _
 rw [s1] at x2
 have HX1:=Lib.hid (x1.below b2)
 have HX2:=Lib.hid x2
 have HB:=Lib.hid (b1.trans (b2.mono b1.size))
 have HA:=Lib.hid ha
 have HBB:=Lib.hid hb
 have HPA:=Lib.hid (hpa.below HB.out)
 have HPB:=Lib.hid (hpb.below HB.out)
 have HEQ:=Shut.mk (zhj a b)
 have hsd:(Tryz.prog.info? 27).map (·.size) = some (z18 a.d).length:=by rw [z0s ha.ref.1];exact Tryz.sizeD
 have hsd2:(Tryz.prog.info? 27).map (·.size) = some (z18 b.d).length:=by rw [z0s hb.ref.1];exact Tryz.sizeD
 have HSD:=Lib.hid hsd
 have HSD2:=Lib.hid hsd2
 clear b1 x1 s1 b2 x2 hpa hpb hsd hsd2
 go_enter Tryz.func20,Tryz.ntmps20
 go_upto_region 1 with (fail)
 obtain ⟨w2,hw2⟩:∃ x,x = ((w.alloc (.cells (opV a pa pc) 38)).alloc (.cells (opV b pb pd) 38)):=⟨_,rfl⟩
 rw [← hw2] at HX1 HX2 HB HPA HPB ⊢
 obtain ⟨c0,c35,c36,c37⟩:=z0k HA.out.ref.1 HX1.out
 obtain ⟨d0,d35,d36,d37⟩:=z0k HBB.out.ref.1 HX2.out
 have HC0:=Lib.hid c0
 have HD0:=Lib.hid d0
 obtain ⟨A1,hA1⟩:∃ x,a.author = x:=⟨_,rfl⟩
 obtain ⟨A2,hA2⟩:∃ x,a.depth = x:=⟨_,rfl⟩
 obtain ⟨n,hn⟩:∃ x,a.preds.length = x:=⟨_,rfl⟩
 obtain ⟨B1,hB1⟩:∃ x,b.author = x:=⟨_,rfl⟩
 obtain ⟨B2,hB2⟩:∃ x,b.depth = x:=⟨_,rfl⟩
 obtain ⟨m,hm⟩:∃ x,b.preds.length = x:=⟨_,rfl⟩
 have HN:=Shut.mk hn
 have HM:=Shut.mk hm
 have HEQ2:=Shut.mk (show a = b ↔ a.d = b.d ∧ A1 = B1 ∧ A2 = B2 ∧ a.preds = b.preds by rw [HEQ.out,hA1,hA2,hB1,hB2])
 rw [hA1] at c35
 rw [hA2] at c36
 rw [hn] at c37 hna
 rw [hB1] at d35
 rw [hB2] at d36
 rw [hm] at d37 hnb
 have heq:=fun w'=>zep a.d b.d ha.ref hb.ref w'
 obtain ⟨z,hz⟩:∃ z,decide (a.d = b.d) = z:=⟨_,rfl⟩
 rw [hz] at heq
 have HZ:=Shut.mk hz
 unfold z0d at heq
 clear hw2 c0 d0 hA1 hA2 hB1 hB2 hn hm hz ha hb HEQ
 by_cases hz2:z = false
 ·subst hz2
  have HR:=Shut.mk (show decide (a = b) = false from decide_eq_false (fun h=>by have h1:=(HEQ2.out.1 h).1;have h2:=HZ.out;rw [decide_eq_true h1] at h2;cases h2))
  refine wp_region_lit ?_
  iterate 3 (first | go_skip | go_guarded | go_step)
  refine wpList_load_mid rfl 27 _ rfl w.heap.size 0 rfl _ _ HC0.out Tryz.underlying27 rfl HSD.out ?_
  simp only [Act.put,zS,zA,zB]
  iterate 3 (first | go_skip | go_guarded | go_step)
  refine wpList_load_mid rfl 27 _ rfl (w.heap.size + 1) 0 rfl _ _ HD0.out Tryz.underlying27 rfl HSD2.out ?_
  simp only [Act.put,zS,zA,zB]
  go_wp2_with fail
  go_ret
  exact ⟨by rw [HR.out];rfl,HB.out⟩
 obtain rfl:z = true:=by simpa using hz2
 have hd:a.d = b.d:=of_decide_eq_true HZ.out
 have HD:=Shut.mk hd
 clear hd hz2
 by_cases h1:¬ A1 = B1
 ·have h1b:(A1 != B1) = true:=by simpa using h1
  have HR:=Shut.mk (show decide (a = b) = false from decide_eq_false (fun h=>h1 (HEQ2.out.1 h).2.1))
  clear h1
  refine wp_region_lit ?_
  iterate 3 (first | go_skip | go_guarded | go_step)
  refine wpList_load_mid rfl 27 _ rfl w.heap.size 0 rfl _ _ HC0.out Tryz.underlying27 rfl HSD.out ?_
  simp only [Act.put,zS,zA,zB]
  iterate 3 (first | go_skip | go_guarded | go_step)
  refine wpList_load_mid rfl 27 _ rfl (w.heap.size + 1) 0 rfl _ _ HD0.out Tryz.underlying27 rfl HSD2.out ?_
  simp only [Act.put,zS,zA,zB]
  go_wp2_with fail
  go_ret
  exact ⟨by rw [HR.out];rfl,HB.out⟩
 have h1:=Classical.not_not.1 h1
 subst h1
 by_cases h2:¬ A2 = B2
 ·have h2b:(A2 != B2) = true:=by simpa using h2
  have HR:=Shut.mk (show decide (a = b) = false from decide_eq_false (fun h=>h2 (HEQ2.out.1 h).2.2.1))
  clear h2
  refine wp_region_lit ?_
  iterate 3 (first | go_skip | go_guarded | go_step)
  refine wpList_load_mid rfl 27 _ rfl w.heap.size 0 rfl _ _ HC0.out Tryz.underlying27 rfl HSD.out ?_
  simp only [Act.put,zS,zA,zB]
  iterate 3 (first | go_skip | go_guarded | go_step)
  refine wpList_load_mid rfl 27 _ rfl (w.heap.size + 1) 0 rfl _ _ HD0.out Tryz.underlying27 rfl HSD2.out ?_
  simp only [Act.put,zS,zA,zB]
  go_wp2_with fail
  go_ret
  exact ⟨by rw [HR.out];rfl,HB.out⟩
 have h2:=Classical.not_not.1 h2
 subst h2
 by_cases h3:¬ n = m
 ·have h3b:((n:Int) == (m:Int)) = false:=by simp;omega
  have HR:=Shut.mk (show decide (a = b) = false from decide_eq_false (fun h=>h3 (by rw [← HN.out,← HM.out,(HEQ2.out.1 h).2.2.2])))
  refine wp_region_lit ?_
  iterate 3 (first | go_skip | go_guarded | go_step)
  refine wpList_load_mid rfl 27 _ rfl w.heap.size 0 rfl _ _ HC0.out Tryz.underlying27 rfl HSD.out ?_
  simp only [Act.put,zS,zA,zB]
  iterate 3 (first | go_skip | go_guarded | go_step)
  refine wpList_load_mid rfl 27 _ rfl (w.heap.size + 1) 0 rfl _ _ HD0.out Tryz.underlying27 rfl HSD2.out ?_
  simp only [Act.put,zS,zA,zB]
  go_wp2_with fail
  go_ret
  exact ⟨by rw [HR.out];rfl,HB.out⟩
 have h3:=Classical.not_not.1 h3
 subst h3
 have HEQ3:=Shut.mk (show a = b ↔ a.preds = b.preds from ⟨fun h=>(HEQ2.out.1 h).2.2.2,fun h=>HEQ2.out.2 ⟨HD.out,rfl,rfl,h⟩⟩)
 clear HEQ2
 refine wp_region_lit ?_
 iterate 3 (first | go_skip | go_guarded | go_step)
 refine wpList_load_mid rfl 27 _ rfl w.heap.size 0 rfl _ _ HC0.out Tryz.underlying27 rfl HSD.out ?_
 simp only [Act.put,zS,zA,zB]
 iterate 3 (first | go_skip | go_guarded | go_step)
 refine wpList_load_mid rfl 27 _ rfl (w.heap.size + 1) 0 rfl _ _ HD0.out Tryz.underlying27 rfl HSD2.out ?_
 simp only [Act.put,zS,zA,zB]
 go_wp2_with fail
 clear heq c35 c36 d35 d36 HC0 HD0 HSD HSD2 HZ
 go_loopw [37] (fun i wr=>∃ k:Nat,k ≤ n ∧ i = .int .i64 k ∧ (∀ j,j < k → a.preds.getD j [] = b.preds.getD j []) ∧ Below w2.heap.size w2 wr) (fun i _=>n - (intOf i).toNat)
 case atStart=>exact ⟨0,Nat.zero_le _,rfl,fun j hj=>by omega,Below.refl _ _⟩
 case round =>
  obtain ⟨k,hk,rfl,hj,hb⟩:=hrel
  have HJ:=Lib.hid hj
  have HBW:=Lib.hid hb
  have HXA:=Lib.hid (HX1.out.below hb)
  have HXB:=Lib.hid (HX2.out.below hb)
  have HPA2:=Lib.hid (HPA.out.below hb)
  have HPB2:=Lib.hid (HPB.out.below hb)
  clear hj hb c37 d37 HX1 HX2 HPA HPB
  obtain ⟨_,_,_,c37⟩:=z0k HA.out.ref.1 HXA.out
  obtain ⟨_,_,_,d37⟩:=z0k HBB.out.ref.1 HXB.out
  rw [HN.out] at c37
  rw [HM.out] at d37
  by_cases hkn:k < n
  ·obtain ⟨ba,oa,rfl,hba⟩:=HPA2.out.some (by rw [HN.out];omega)
   obtain ⟨bb,ob,rfl,hbb⟩:=HPB2.out.some (by rw [HM.out];omega)
   have g1:=HPA2.out.get (i:=k) (by rw [HN.out];omega)
   have g2:=HPB2.out.get (i:=k) (by rw [HM.out];omega)
   have i1:=Ids.getD HA.out.preds (i:=k) (by rw [HN.out];omega)
   have i2:=Ids.getD HBB.out.preds (i:=k) (by rw [HM.out];omega)
   obtain ⟨x,hx⟩:∃ x,a.preds.getD k [] = x:=⟨_,rfl⟩
   obtain ⟨y,hy⟩:∃ y,b.preds.getD k [] = y:=⟨_,rfl⟩
   rw [hx] at g1 i1
   rw [hy] at g2 i2
   have HXE:=Shut.mk hx
   have HYE:=Shut.mk hy
   have HR1:=Lib.hid (fun (w':World) (q:Below wr.heap.size wr w')=>show w'.rangeAt ba (oa + k * 32) (z06 .u8 x) from z0g g1 q hba)
   have HR2:=Lib.hid (fun (w':World) (q:Below wr.heap.size wr w')=>show w'.rangeAt bb (ob + k * 32) (z06 .u8 y) from z0g g2 q hbb)
   have HS1:=Lib.hid (show (Tryz.prog.info? 25).map (·.size) = some x.length by rw [i1.1];exact Tryz.sizeI)
   have HS2:=Lib.hid (show (Tryz.prog.info? 25).map (·.size) = some y.length by rw [i2.1];exact Tryz.sizeI)
   have hxl:=HXA.out.lt
   have hyl:=HXB.out.lt
   have HC37:=Lib.hid (fun (w':World) (q:Below wr.heap.size wr w')=>show w'.cell? ⟨w.heap.size,37,none⟩ = some (.slice (some ⟨ba,oa,none⟩) n pc) from (q.cell (p:=⟨w.heap.size,37,none⟩) hxl).trans c37)
   have HD37:=Lib.hid (fun (w':World) (q:Below wr.heap.size wr w')=>show w'.cell? ⟨w.heap.size + 1,37,none⟩ = some (.slice (some ⟨bb,ob,none⟩) n pd) from (q.cell (p:=⟨w.heap.size + 1,37,none⟩) hyl).trans d37)
   have heq:=fun w'=>z2b x y i1.1 i2.1 i1.2 i2.2 w'
   obtain ⟨z,hz⟩:∃ z,(x == y) = z:=⟨_,rfl⟩
   rw [hz] at heq
   have HZ:=Shut.mk hz
   clear hx hy g1 g2 i1 i2 hxl hyl hz hba hbb c37 d37
   cases z with
   | true =>
     have hxy:x = y:=by have:=HZ.out;simpa using this
     have HXY:=Shut.mk hxy
     clear hxy
     go_upto_region 6 with (fail)
     refine z09 (fun w'=>Below wr.heap.size wr w') (by kernel_rfl) (by kernel_rfl) (Below.refl _ _).drew ?_
     repeat (first
      | go_big_quiet_skip
      | (go_big_quiet_want;refine z02 34 _ rfl ⟨w.heap.size,37,none⟩ _ rfl HC37.out Tryz.isAgg34 ?_;go_big_quiet_on;simp only [Act.put,zS,zA,zB])
      | (go_big_quiet_want;refine z02 34 _ rfl ⟨w.heap.size + 1,37,none⟩ _ rfl HD37.out Tryz.isAgg34 ?_;go_big_quiet_on;simp only [Act.put,zS,zA,zB])
      | (go_big_quiet_want;refine z0c 25 _ rfl ba (oa + k * 32) x _ rfl HR1.out Tryz.underlying25 rfl HS1.out ?_;go_big_quiet_on;simp only [Act.put,zS,zA,zB])
      | (go_big_quiet_want;refine z0c 25 _ rfl bb (ob + k * 32) y _ rfl HR2.out Tryz.underlying25 rfl HS2.out ?_;go_big_quiet_on;simp only [Act.put,zS,zA,zB])
      | go_big_quiet_step ((intro hs';rfl)))
     refine wpQuiet_nil ?_
     intro w3 hb2
     go_wp2_with fail
     refine ⟨⟨k + 1,by omega,by go_num,fun q hq=>?_,HBW.out.trans (hb2.mono HBW.out.size)⟩,by simp [intOf];omega⟩
     by_cases hqj:q = k
     ·subst hqj
      rw [HXE.out,HYE.out,HXY.out]
     ·exact HJ.out q (by omega)
   | false =>
     have hxy:x ≠ y:=by have:=HZ.out;simpa using this
     have HR:=Shut.mk (show decide (a = b) = false from decide_eq_false (fun h=>hxy (by rw [← HXE.out,← HYE.out,h])))
     clear hxy
     go_upto_region 6 with (fail)
     refine z09 (fun w'=>Below wr.heap.size wr w') (by kernel_rfl) (by kernel_rfl) (Below.refl _ _).drew ?_
     repeat (first
      | go_big_quiet_skip
      | (go_big_quiet_want;refine z02 34 _ rfl ⟨w.heap.size,37,none⟩ _ rfl HC37.out Tryz.isAgg34 ?_;go_big_quiet_on;simp only [Act.put,zS,zA,zB])
      | (go_big_quiet_want;refine z02 34 _ rfl ⟨w.heap.size + 1,37,none⟩ _ rfl HD37.out Tryz.isAgg34 ?_;go_big_quiet_on;simp only [Act.put,zS,zA,zB])
      | (go_big_quiet_want;refine z0c 25 _ rfl ba (oa + k * 32) x _ rfl HR1.out Tryz.underlying25 rfl HS1.out ?_;go_big_quiet_on;simp only [Act.put,zS,zA,zB])
      | (go_big_quiet_want;refine z0c 25 _ rfl bb (ob + k * 32) y _ rfl HR2.out Tryz.underlying25 rfl HS2.out ?_;go_big_quiet_on;simp only [Act.put,zS,zA,zB])
      | go_big_quiet_step ((intro hs';rfl)))
     refine wpQuiet_nil ?_
     intro w3 hb2
     go_wp2_with fail
     go_ret
     exact ⟨by rw [HR.out];rfl,HB.out.trans ((HBW.out.trans (hb2.mono HBW.out.size)).mono HB.out.size)⟩
  ·obtain rfl:k = n:=by omega
   have HR:=Shut.mk (show decide (a = b) = true from decide_eq_true (HEQ3.out.2 (getD_all HN.out HM.out HJ.out)))
   clear c37 d37
   go_wp2_with fail
   go_ret
   exact ⟨by rw [HR.out];rfl,HB.out.trans (HBW.out.mono HB.out.size)⟩
end Go.Proofs.YtnbldbbbibpobaaGreatDoor
namespace Go.Proofs.YtnbldbbbibpobaaGreatDoor
open Go.RowKit
section
variable {α:Type}
def Wide (K:Nat) (L:List (List α)):Prop:=∀ x ∈ L,x.length = K
theorem Wide.nil (K:Nat):Wide K ([]:List (List α)):=fun x hx=>by cases hx
theorem Wide.getD {K:Nat} {L:List (List α)} (h:Wide K L) {i:Nat} (hi:i < L.length):(L.getD i []).length = K:=by
 rw [List.getD_eq_getElem?_getD,List.getElem?_eq_getElem hi]
 exact h _ (List.getElem_mem hi)
theorem zbt {K:Nat} {L:List (List α)} (h:Wide K L):L.flatten.length = L.length * K:=by
 induction L with
 | nil=>simp
 | cons x L ih =>
   have h1:=h x (by simp)
   have h2:=ih fun y hy=>h y (by simp [hy])
   rw [List.flatten_cons,List.length_append,h1,h2,List.length_cons,Nat.succ_mul]
   omega
theorem zfe {K:Nat} {L:List (List α)} (h:Wide K L):∀ {i j:Nat},i < L.length → j < K → L.flatten[K * i + j]? = (L.getD i [])[j]?:=by
 induction L with
 | nil=>intro i j hi _;cases hi
 | cons x L ih =>
   intro i j hi hj
   have h1:=h x (by simp)
   rw [List.flatten_cons]
   cases i with
   | zero=>rw [Nat.mul_zero,Nat.zero_add,List.getElem?_append_left (by omega)];rfl
   | succ i =>
     have e:K * (i + 1) + j = x.length + (K * i + j):=by rw [h1,Nat.mul_succ];omega
     rw [e,List.getElem?_append_right (by omega),Nat.add_sub_cancel_left]
     exact ih (fun y hy=>h y (by simp [hy])) (by simpa using hi) hj
end
theorem block_of {K q n:Nat} (hK:0 < K):∃ i m,q = K * i + m ∧ m < K ∧ (q < n * K → i < n):=by
 refine ⟨q / K,q % K,(Nat.div_add_mod q K).symm,Nat.mod_lt _ hK,fun h=>?_⟩
 exact (Nat.div_lt_iff_lt_mul hK).2 h
section
variable {P:Program} {o:Oper} {a:Act} {w:World} {K:Act → World → Prop} {Q:Exit → Act → World → Prop}
theorem zc4 (ty:TypeId) (z:List Value) (hz:(P.info? ty).bind (·.zero) = some (.agg z.toArray)) (w:World):(Instr.alloc ty true (.tuple #[])).run P w = .ok (.pointer (some ⟨w.heap.size,0,none⟩)) (w.alloc (.cells z.toArray ty)):=by
 obtain ⟨i,hi,hzz⟩:=Option.bind_eq_some_iff.1 hz
 simp [Instr.alloc,zeroValue,typeInfo,hi,hzz,go_sem]
theorem z0j {ops:Array Oper} {rest:List Oper} (hgd:o.guard = none) (ty:TypeId) (ho:o.op = .alloc ty) (z:List Value) (hz:(P.info? ty).bind (·.zero) = some (.agg z.toArray))
 (h:wpList P ops Q rest (a.put o.dst (.pointer (some ⟨w.heap.size,0,none⟩))) (w.alloc (.cells z.toArray ty))):wpList P ops Q (o :: rest) a w :=
 wpList_plain hgd fun _ hK=>(z2s ty ho z.toArray (zc4 ty z hz) (hK _ _ h)).out
theorem za9 (t e:TypeId) (us:List Value) (z:Value) (bytes size:Nat) (ht:P.underlying t = some (.slice e)) (hinfo:(P.info? e).map (fun i=>(i.zero,i.size,i.bytes)) = some (some z,size,bytes)) (hs:us.length = size) (h0:0 < size) (hsm:size ≤ 100000) (w:World) :
 (Instr.buildSlice t 1 #[(0,.agg us.toArray)]).run P w = .ok (.slice (some ⟨w.heap.size,0,none⟩) 1 1) (w.alloc (.cells us.toArray e)):=by
 obtain ⟨i,hi,hz0,hz1,_⟩:=info_parts hinfo
 refine run_buildSlice (P:=P) w t e 1 #[(0,.agg us.toArray)] us.toArray i z ht hi hz0 (by rw [hz1];omega) (by rw [hz1];omega) ?_
 rw [hz1]
 have h1:=Great.fill_whole (s:=size) h0 [Value.agg us.toArray] ((Array.range (1 * size)).map (z.cells[· % z.cells.size]!))
  (fun v hv=>by obtain rfl:=List.mem_singleton.1 hv;show us.toArray.size = size;rw [List.size_toArray,hs]) (by simp)
 have e1:(#[(0,Value.agg us.toArray)]:Array (Nat × Value)).toList = ([Value.agg us.toArray].zipIdx 0).map fun x=>(x.2,x.1):=by simp [List.zipIdx_cons]
 have e2:([Value.agg us.toArray].flatMap fun v=>v.cells.toList).toArray = us.toArray:=by
  rw [List.flatMap_cons,List.flatMap_nil,List.append_nil]
  rfl
 rw [e1,h1,e2]
theorem zbu (t e:TypeId) (x:Operand) (ho:o.op = .buildSlice t 1 #[(0,x)]) (us:List Value) (hx:a.eval x = .agg us.toArray)
 (hr:∀ w,(Instr.buildSlice t 1 #[(0,.agg us.toArray)]).run P w = .ok (.slice (some ⟨w.heap.size,0,none⟩) 1 1) (w.alloc (.cells us.toArray e)))
 (h:K (a.put o.dst (.slice (some ⟨w.heap.size,0,none⟩) 1 1)) (w.alloc (.cells us.toArray e))):OpWp P o a w K Q:=by
 refine ⟨?_⟩
 have e1:((#[(0,x)]:Array (Nat × Operand)).map fun (i,x)=>(i,a.eval x)) = #[(0,.agg us.toArray)]:=by simp [hx]
 unfold Oper.wp execOp
 simp only [ho,e1,Sem.run_bind,Sem.run_pure,hr,Result.andThen_ok]
 exact h
end
open Go.BigFrame
theorem IAt.grown {ao:Option Addr} {L:List (List Nat)} {w w':World} {row:Option Nat} (h:IAt ao L w) (k:w.grownBy w' row) (hr:∀ a,ao = Option.some a → L ≠ [] → row ≠ Option.some a.block):IAt ao L w':=by
 rcases h with h | ⟨b,o,rfl,h2,h3⟩
 ·exact .inl h
 ·by_cases h0:L = []
  ·exact .inl h0
  ·exact .inr ⟨b,o,rfl,Nat.lt_of_lt_of_le h2 k.size,fun i hi j v hv=>(World.cell?_of_block (a:=⟨b,o + 32 * i + j,none⟩) (k.block b h2 (fun e=>hr _ rfl h0 e.symm))).trans (h3 i hi j v hv)⟩
theorem IAt.lt {ao:Option Addr} {L:List (List Nat)} {w:World} (h:IAt ao L w) (h0:L ≠ []) {a:Addr} (ha:ao = Option.some a):a.block < w.heap.size:=by
 rcases h with h | ⟨b,o,h1,h2,_⟩
 ·exact absurd h h0
 ·rw [h1] at ha
  cases ha
  exact h2
end Go.Proofs.YtnbldbbbibpobaaGreatDoor
namespace Go.Proofs.YtnbldbbbibpobaaGreatDoor
open Go.ChangeShapes Go.WideShapes Go.ChangeAt Go.RowKit
theorem zev:ownKnob Tryz.prog.godebug = none:=by kernel_rfl
theorem z2g:laidOutB Tryz.prog = true:=by kernel_rfl
theorem z8c {w:World} {a:Addr} {v:Value} (h:w.cell? a = some v):a.block < w.heap.size:=by
 rcases Nat.lt_or_ge a.block w.heap.size with h' | h'
 ·exact h'
 ·simp [World.cell?,Array.getElem?_eq_none h'] at h
end Go.Proofs.YtnbldbbbibpobaaGreatDoor
namespace Go.Proofs.YtnbldbbbibpobaaGreatDoor
open Go.RowKit Go.ChangeShapes Go.WideShapes Go.Deep
structure DraftN.In (d:DraftN):Prop where
 ref:IdOk d.ref
 low:-9223372036854775808 ≤ d.kind
 high:d.kind ≤ 9223372036854775807
 key:d.key.length ≤ 140737488351232
 val:d.val.length ≤ 140737488351232
structure OpN.In (o:OpN):Prop where
 d:o.d.In
 alow:-9223372036854775808 ≤ o.author
 ahigh:o.author ≤ 9223372036854775807
 dlow:-9223372036854775808 ≤ o.depth
 dhigh:o.depth ≤ 9223372036854775807
 preds:∀ p ∈ o.preds,IdOk p
 many:o.preds.length ≤ 4398046510976
theorem z95 {H:Type} {P:Program} {t:TypeId} (bs:List UInt8):DataW.weights (H:=H) P t (.lit (.string bs)) = [bs.length]:=by simp [DataW.weights]
theorem z3e {H:Type} {enc:TypeId × Value → H} {W:World} {n:Nat} {cs:List Value} {x:DataW H × List MemPlace}
 (h:DataW.trod enc Tryz.prog W 0 (fun _=>true) true n 27 cs = some x) (hwt:∀ n ∈ DataW.weights Tryz.prog 27 x.1,n ≤ 140737488351232) :
 ∃ d:DraftN,cs = z18 d ∧ d.In:=by
 obtain ⟨xs,m,_,hx,hcl,hxl,hf⟩:=DataW.trod_struct Tryz.underlying27 h
 have hci:Tryz.prog.cellsOf 3 = 1:=by kernel_rfl
 have hcs:Tryz.prog.cellsOf 9 = 1:=by kernel_rfl
 have hcr:Tryz.prog.cellsOf 25 = 32:=by kernel_rfl
 have hcd:Tryz.prog.cellsOf 27 = 35:=by kernel_rfl
 have hcu:Tryz.prog.cellsOf 5 = 1:=by kernel_rfl
 rw [hcd] at hcl
 match cs,hcl with
 | v0 :: v1 :: v2 :: r,hcl =>
 match xs,hxl with
 | [x0,x1,x2,x3],_ =>
 have t0:DataW.trod enc Tryz.prog W 0 (fun _=>true) true m 3 ((v0 :: v1 :: v2 :: r).take (Tryz.prog.cellsOf 3)) = some x0:=hf 0 _ rfl
 have t1:DataW.trod enc Tryz.prog W 0 (fun _=>true) true m 9 (((v0 :: v1 :: v2 :: r).drop 1).take (Tryz.prog.cellsOf 9)) = some x1:=hf 1 _ rfl
 have t2:DataW.trod enc Tryz.prog W 0 (fun _=>true) true m 9 (((v0 :: v1 :: v2 :: r).drop 2).take (Tryz.prog.cellsOf 9)) = some x2:=hf 2 _ rfl
 have t3:DataW.trod enc Tryz.prog W 0 (fun _=>true) true m 25 (((v0 :: v1 :: v2 :: r).drop 3).take (Tryz.prog.cellsOf 25)) = some x3:=hf 3 _ rfl
 rw [hci] at t0
 rw [hcs] at t1 t2
 rw [hcr] at t3
 simp only [zE,zF,zC,zD] at t0 t1 t2
 rw [show (v0 :: v1 :: v2 :: r).drop 3 = r from rfl,List.take_of_length_le (by simp only [List.length_cons] at hcl;omega)] at t3
 obtain ⟨k,e0,_,w0⟩:=DataW.trod_int Tryz.underlying3 t0
 obtain ⟨s1,e1,d1,_⟩:=DataW.trod_string Tryz.underlying9 t1
 obtain ⟨s2,e2,d2,_⟩:=DataW.trod_string Tryz.underlying9 t2
 obtain ⟨l,e3,h3,h4⟩:=z6s Tryz.underlying25 Tryz.underlying5 hcu hcr t3
 have hx1:x.1 = .agg [x0.1,x1.1,x2.1,x3.1]:=congrArg Prod.fst hx
 rw [hx1] at hwt
 simp only [DataW.weights,Tryz.underlying27] at hwt
 have q1:s1.data.toList.length ≤ 140737488351232:=hwt _ (by
  simp only [List.map_cons,List.map_nil,DataW.weightsEach,List.mem_append,d1,z95,List.mem_singleton]
  exact .inr (.inl trivial))
 have q2:s2.data.toList.length ≤ 140737488351232:=hwt _ (by
  simp only [List.map_cons,List.map_nil,DataW.weightsEach,List.mem_append,d2,z95,List.mem_singleton]
  exact .inr (.inr (.inl trivial)))
 simp only [List.cons.injEq,and_true] at e0 e1 e2
 simp only [Lit.wf,Bool.and_eq_true,decide_eq_true_eq] at w0
 refine ⟨⟨k,s1.data.toList,s2.data.toList,l⟩,?_,⟨h3,h4⟩,w0.1,w0.2,q1,q2⟩
 rw [e0,e1,e2,e3]
 rfl
theorem zbp {H:Type} {enc:TypeId × Value → H} {W:World} {n:Nat} {cs:List Value} {x:DataW H × List MemPlace}
 (h:DataW.trod enc Tryz.prog W 0 (fun _=>true) true n 38 cs = some x) (hwt:∀ n ∈ DataW.weights Tryz.prog 38 x.1,n ≤ 140737488351232) :
 ∃ (o:OpN) (pa:Option Addr) (pc:Nat),cs = opL o pa pc ∧ o.In ∧ IAt pa o.preds W:=by
 obtain ⟨xs,m,_,hx,hcl,hxl,hf⟩:=DataW.trod_struct Tryz.underlying38 h
 have hci:Tryz.prog.cellsOf 3 = 1:=by kernel_rfl
 have hcd:Tryz.prog.cellsOf 27 = 35:=by kernel_rfl
 have hco:Tryz.prog.cellsOf 38 = 38:=by kernel_rfl
 have hcp:Tryz.prog.cellsOf 34 = 1:=by kernel_rfl
 rw [hco] at hcl
 match xs,hxl with
 | [x0,x1,x2,x3],_ =>
 have t0:DataW.trod enc Tryz.prog W 0 (fun _=>true) true m 27 ((cs.drop 0).take (Tryz.prog.cellsOf 27)) = some x0:=hf 0 _ rfl
 have t1:DataW.trod enc Tryz.prog W 0 (fun _=>true) true m 3 ((cs.drop 35).take (Tryz.prog.cellsOf 3)) = some x1:=hf 1 _ rfl
 have t2:DataW.trod enc Tryz.prog W 0 (fun _=>true) true m 3 ((cs.drop 36).take (Tryz.prog.cellsOf 3)) = some x2:=hf 2 _ rfl
 have t3:DataW.trod enc Tryz.prog W 0 (fun _=>true) true m 34 ((cs.drop 37).take (Tryz.prog.cellsOf 34)) = some x3:=hf 3 _ rfl
 rw [hcd,List.drop_zero] at t0
 rw [hci] at t1 t2
 rw [hcp] at t3
 have hx1:x.1 = .agg [x0.1,x1.1,x2.1,x3.1]:=congrArg Prod.fst hx
 rw [hx1] at hwt
 simp only [DataW.weights,Tryz.underlying38] at hwt
 obtain ⟨d,e0,hd⟩:=z3e t0 (fun q hq=>hwt q (by
  simp only [List.map_cons,List.map_nil,DataW.weightsEach,List.mem_append]
  exact .inl hq))
 obtain ⟨a,e1,_,w1⟩:=DataW.trod_int Tryz.underlying3 t1
 obtain ⟨b,e2,_,w2⟩:=DataW.trod_int Tryz.underlying3 t2
 obtain ⟨v3,e3⟩:∃ v,(cs.drop 37).take 1 = [v]:=by
  have hl:((cs.drop 37).take 1).length = 1:=by rw [List.length_take,List.length_drop];omega
  match (cs.drop 37).take 1,hl with
  | [v],_=>exact ⟨v,rfl⟩
 rw [e3] at t3
 obtain ⟨pa,L,pc,e4,h1,h2,h3,_⟩:=zd5 Tryz.underlying34 Tryz.underlying25 Tryz.underlying5 (by kernel_rfl) (by kernel_rfl) (by kernel_rfl) t3 (fun q hq=>hwt q (by
  simp only [List.map_cons,List.map_nil,DataW.weightsEach,List.mem_append]
  exact .inr (.inr (.inr (.inl hq)))))
 simp only [Lit.wf,Bool.and_eq_true,decide_eq_true_eq] at w1 w2
 refine ⟨⟨d,a,b,L⟩,pa,pc,?_,⟨hd,w1.1,w1.2,w2.1,w2.2,h2,h3⟩,h1⟩
 have hsplit:cs = cs.take 35 ++ ((cs.drop 35).take 1 ++ ((cs.drop 36).take 1 ++ (cs.drop 37).take 1)):=by
  have h36:cs.drop 36 = (cs.drop 35).drop 1:=by rw [List.drop_drop]
  have h37:cs.drop 37 = (cs.drop 36).drop 1:=by rw [List.drop_drop]
  have hlast:(cs.drop 37).take 1 = cs.drop 37:=List.take_of_length_le (by rw [List.length_drop];omega)
  rw [hlast]
  conv=>lhs;rw [← List.take_append_drop 35 cs,← List.take_append_drop 1 (cs.drop 35),← h36,← List.take_append_drop 1 (cs.drop 36),← h37]
 rw [hsplit,e0,e1,e2,e3,e4]
 rfl
theorem z5f {H:Type} {P:Program} {e:TypeId}:∀ (l:List (DataW H)) (d:DataW H),d ∈ l → ∀ n ∈ DataW.weights P e d,n ∈ DataW.weightsAll P e l
 | [],_,h,_,_=>by cases h
 | x :: l, d, h, n, hn => by
   simp only [DataW.weightsAll,List.mem_append]
   rcases List.mem_cons.1 h with rfl | h
   ·exact .inl hn
   ·exact .inr (z5f l d h n hn)
structure MakeN where
 kind:Int
 author:Int
 d:DraftN
 pos:Int
 other:Int
 deep:Int
 op:OpN
def z4p (m:MakeN) (pa:Option Addr) (pc:Nat):List Value:=[.int .i64 m.kind,.int .i64 m.author] ++ z18 m.d ++ [.int .i64 m.pos,.int .i64 m.other,.int .i64 m.deep] ++ opL m.op pa pc
def I64 (i:Int):Prop:=-9223372036854775808 ≤ i ∧ i ≤ 9223372036854775807
structure MakeN.In (m:MakeN):Prop where
 kind:I64 m.kind
 author:I64 m.author
 d:m.d.In
 pos:I64 m.pos
 other:I64 m.other
 deep:I64 m.deep
 op:m.op.In
theorem zd2 {m:MakeN} (h:m.In) (pa:Option Addr) (pc:Nat):(z4p m pa pc).length = 78:=by
 simp [z4p,z0s h.d.ref.1,z2i h.op.d.ref.1]
def MksAt (ao:Option Addr) (L:List MakeN) (W:World):Prop :=
 L = [] ∨ ∃ b o,ao = some ⟨b,o,none⟩ ∧ b < W.heap.size ∧ ∀ (i:Nat) (y:MakeN),L[i]? = some y → ∃ pa pc,W.rangeAt b (o + i * 78) (z4p y pa pc) ∧ IAt pa y.op.preds W
theorem zem (cs:List Value) (h:cs.length = 78):cs = (cs.drop 0).take 1 ++ ((cs.drop 1).take 1 ++ ((cs.drop 2).take 35 ++ ((cs.drop 37).take 1 ++ ((cs.drop 38).take 1 ++ ((cs.drop 39).take 1 ++ (cs.drop 40).take 38))))):=by
 have e (a b:Nat):(cs.drop a).take b ++ cs.drop (a + b) = cs.drop a:=by
  rw [← List.drop_drop,List.take_append_drop]
 have hlast:(cs.drop 40).take 38 = cs.drop 40:=List.take_of_length_le (by rw [List.length_drop];omega)
 rw [hlast,e 39 1,e 38 1,e 37 1,e 2 35,e 1 1,e 0 1]
 rfl
theorem z9p {H:Type} {enc:TypeId × Value → H} {W:World} {n:Nat} {cs:List Value} {x:DataW H × List MemPlace}
 (h:DataW.trod enc Tryz.prog W 0 (fun _=>true) true n 74 cs = some x) (hwt:∀ n ∈ DataW.weights Tryz.prog 74 x.1,n ≤ 140737488351232) :
 ∃ (m:MakeN) (pa:Option Addr) (pc:Nat),cs = z4p m pa pc ∧ m.In ∧ IAt pa m.op.preds W:=by
 obtain ⟨xs,m,_,hx,hcl,hxl,hf⟩:=DataW.trod_struct Tryz.underlying74 h
 have hci:Tryz.prog.cellsOf 3 = 1:=by kernel_rfl
 have hcd:Tryz.prog.cellsOf 27 = 35:=by kernel_rfl
 have hco:Tryz.prog.cellsOf 38 = 38:=by kernel_rfl
 have hcm:Tryz.prog.cellsOf 74 = 78:=by kernel_rfl
 rw [hcm] at hcl
 match xs,hxl with
 | [x0,x1,x2,x3,x4,x5,x6],_ =>
 have t0:DataW.trod enc Tryz.prog W 0 (fun _=>true) true m 3 ((cs.drop 0).take (Tryz.prog.cellsOf 3)) = some x0:=hf 0 _ rfl
 have t1:DataW.trod enc Tryz.prog W 0 (fun _=>true) true m 3 ((cs.drop 1).take (Tryz.prog.cellsOf 3)) = some x1:=hf 1 _ rfl
 have t2:DataW.trod enc Tryz.prog W 0 (fun _=>true) true m 27 ((cs.drop 2).take (Tryz.prog.cellsOf 27)) = some x2:=hf 2 _ rfl
 have t3:DataW.trod enc Tryz.prog W 0 (fun _=>true) true m 3 ((cs.drop 37).take (Tryz.prog.cellsOf 3)) = some x3:=hf 3 _ rfl
 have t4:DataW.trod enc Tryz.prog W 0 (fun _=>true) true m 3 ((cs.drop 38).take (Tryz.prog.cellsOf 3)) = some x4:=hf 4 _ rfl
 have t5:DataW.trod enc Tryz.prog W 0 (fun _=>true) true m 3 ((cs.drop 39).take (Tryz.prog.cellsOf 3)) = some x5:=hf 5 _ rfl
 have t6:DataW.trod enc Tryz.prog W 0 (fun _=>true) true m 38 ((cs.drop 40).take (Tryz.prog.cellsOf 38)) = some x6:=hf 6 _ rfl
 rw [hci] at t0 t1 t3 t4 t5
 rw [hcd] at t2
 rw [hco] at t6
 have hx1:x.1 = .agg [x0.1,x1.1,x2.1,x3.1,x4.1,x5.1,x6.1]:=congrArg Prod.fst hx
 rw [hx1] at hwt
 simp only [DataW.weights,Tryz.underlying74] at hwt
 obtain ⟨k,e0,_,w0⟩:=DataW.trod_int Tryz.underlying3 t0
 obtain ⟨a,e1,_,w1⟩:=DataW.trod_int Tryz.underlying3 t1
 obtain ⟨d,e2,hd⟩:=z3e t2 (fun q hq=>hwt q (by
  simp only [List.map_cons,List.map_nil,DataW.weightsEach,List.mem_append]
  exact .inr (.inr (.inl hq))))
 obtain ⟨p,e3,_,w3⟩:=DataW.trod_int Tryz.underlying3 t3
 obtain ⟨r,e4,_,w4⟩:=DataW.trod_int Tryz.underlying3 t4
 obtain ⟨s,e5,_,w5⟩:=DataW.trod_int Tryz.underlying3 t5
 obtain ⟨y,pa,pc,e6,hy,hia⟩:=zbp t6 (fun q hq=>hwt q (by
  simp only [List.map_cons,List.map_nil,DataW.weightsEach,List.mem_append]
  exact .inr (.inr (.inr (.inr (.inr (.inr (.inl hq))))))))
 simp only [Lit.wf,Bool.and_eq_true,decide_eq_true_eq] at w0 w1 w3 w4 w5
 refine ⟨⟨k,a,d,p,r,s,y⟩,pa,pc,?_,⟨⟨w0.1,w0.2⟩,⟨w1.1,w1.2⟩,hd,⟨w3.1,w3.2⟩,⟨w4.1,w4.2⟩,⟨w5.1,w5.2⟩,hy⟩,hia⟩
 rw [zem cs hcl,e0,e1,e2,e3,e4,e5,e6]
 simp [z4p]
theorem z8a {H:Type} {enc:TypeId × Value → H} {W:World} {v:Value} {d:DataW H} {p:List MemPlace} {base:Nat} (hv:Value.okWide Tryz.prog W .any base 22 v)
 (h:DataW.Trod enc Tryz.prog W 0 (fun _=>true) true 22 v d p) (hwt:∀ n ∈ DataW.weights Tryz.prog 22 d,n ≤ 140737488351232) :
 ∃ (ao:Option Addr) (L:List MakeN) (cap:Nat),v = .slice ao L.length cap ∧ MksAt ao L W ∧ (∀ x ∈ L,x.In) ∧ L.length ≤ 140737488351232:=by
 obtain ⟨a0,len0,cap0,rfl⟩:=okWide_slice Tryz.underlying22 hv
 obtain ⟨fuel,hf⟩:=h
 have hc4:Tryz.prog.cellsOf 74 = 78:=by kernel_rfl
 rcases Deep.open_slice Tryz.underlying22 hf with ⟨hcs,_⟩ | ⟨x,len,cap,m,n,D,Pl,hcs,_,hl,hm,hmm,hx,hi⟩
 ·simp [Value.cells] at hcs
  obtain ⟨rfl,rfl,rfl⟩:=hcs
  exact ⟨none,[],0,rfl,.inl rfl,(fun x hx=>by cases hx),by decide⟩
 ·simp [Value.cells] at hcs
  obtain ⟨rfl,rfl,rfl⟩:=hcs
  simp only [if_true] at hmm
  subst hmm
  rw [hc4] at hi
  have hd:d = .slice ((List.range len0).map D) ((List.range (m - len0)).map fun j=>D (len0 + j)):=congrArg Prod.fst hx
  subst hd
  simp only [DataW.weights,Tryz.underlying22] at hwt
  have hwn:=hwt _ (List.mem_cons_self ..)
  have hb48:Tryz.prog.bytesOf 74 = 224:=by kernel_rfl
  rw [hb48] at hwn
  simp only [List.length_map,List.length_range] at hwn
  have hE:∀ i,i < len0 → ∃ (y:MakeN) (pa:Option Addr) (pc:Nat),(y.In ∧ IAt pa y.op.preds W) ∧ ∀ j u,(z4p y pa pc)[j]? = some u → W.cell? ((x.add (i * 78)).add j) = some u:=by
   intro i him
   obtain ⟨cs',hc,htr⟩:=hi i (by omega)
   obtain ⟨_,hcl,hat⟩:=World.cells?_some hc
   obtain ⟨y,pa,pc,rfl,hok,hia⟩:=z9p htr (fun q hq=>hwt q (List.mem_cons_of_mem _ (List.mem_append_left _ (z5f _ (D i) (List.mem_map.2 ⟨i,List.mem_range.2 him,rfl⟩) q hq))))
   refine ⟨y,pa,pc,⟨hok,hia⟩,fun j u hj=>?_⟩
   have hj4:j < 78:=by
    have:=(List.getElem?_eq_some_iff.1 hj).1
    rw [zd2 hok] at this
    exact this
   rw [hat j hj4]
   exact hj
  let F:Nat → MakeN:=fun i=>if h:i < len0 then (hE i h).choose else ⟨0,0,z8d,0,0,0,z05⟩
  have hF:∀ i,i < len0 → ∃ (pa:Option Addr) (pc:Nat),((F i).In ∧ IAt pa (F i).op.preds W) ∧ ∀ j u,(z4p (F i) pa pc)[j]? = some u → W.cell? ((x.add (i * 78)).add j) = some u:=by
   intro i him
   simp only [F,dif_pos him]
   exact (hE i him).choose_spec
  have hlen:((List.range len0).map F).length = len0:=by simp
  refine ⟨some x,(List.range len0).map F,m,by rw [hlen],?_,?_,by rw [hlen];omega⟩
  ·by_cases h0:len0 = 0
   ·subst h0;exact .inl rfl
   ·obtain ⟨pa0,pc0,h00,h01⟩:=hF 0 (by omega)
    have h1:=h01 0 _ rfl
    obtain ⟨b,o,spot⟩:=x
    have hspot:spot = none:=by simpa [Addr.add] using World.cell?_spot h1
    subst hspot
    refine .inr ⟨b,o,rfl,?_,fun i y hy=>?_⟩
    ·have:=z8c h1
     simpa [Addr.add] using this
    ·have hi3:i < len0:=by have:=(List.getElem?_eq_some_iff.1 hy).1;simpa using this
     simp only [List.getElem?_map,List.getElem?_range hi3,Option.map_some,Option.some.injEq] at hy
     subst hy
     obtain ⟨pa,pc,g1,g2⟩:=hF i hi3
     refine ⟨pa,pc,fun j u hj=>?_,g1.2⟩
     have:=g2 j u hj
     rw [Addr.add_mid,Addr.add_mid] at this
     exact this
  ·intro z hz
   obtain ⟨i,hi2,rfl⟩:=List.mem_map.1 hz
   obtain ⟨_,_,g1,_⟩:=hF i (List.mem_range.1 hi2)
   exact g1.1
end Go.Proofs.YtnbldbbbibpobaaGreatDoor
namespace Go.Proofs.YtnbldbbbibpobaaGreatDoor
open Go.RowKit
structure Deep (s:DagN):Prop where
 deep:∀ o ∈ s.ops,o.depth = z1h s.ops o
 closed:∀ o ∈ s.ops,∀ p ∈ o.preds,p ∈ s.names
open Go.BigFrame
def Vals (q:Nat → Bool) (V:Nat → Value) (L:List (Nat × Value)):Prop:=∀ n v,q n = true → L.lookup n = some v → V n = v
section
variable {q:Nat → Bool} {V:Nat → Value} {L:List (Nat × Value)} {i n:Nat} {v u:Value}
theorem Vals.none:Vals (fun _=>false) V L:=fun _ _ h=>by cases h
theorem Vals.set (h:Vals q V L) (hl:L.lookup i = some v):Vals (fun j=>q j || j == i) (upd V i v) L:=fun n x hn hx=>by
 by_cases e:n = i
 ·subst e
  rw [z28]
  exact Option.some.inj (hl.symm.trans hx)
 ·rw [z1r V v e]
  exact h n x (z6m e hn) hx
theorem Vals.off (h:Vals q V L) (hl:L.lookup i = Option.none):Vals (fun j=>q j || j == i) (upd V i u) L:=fun n x hn hx=>by
 by_cases e:n = i
 ·subst e
  rw [hl] at hx
  cases hx
 ·rw [z1r V u e]
  exact h n x (z6m e hn) hx
theorem Vals.get (h:Vals q V L) (n:Nat) (hq:q n = true) (hl:L.lookup n = some v):V n = v:=h n v hq hl
end
example (q:Nat → Bool) (V:Nat → Value) (a b c:Value) (h:Vals q V [(0,a),(1,b),(2,.bool true),(5,c)]) (hq:∀ i,i < 6 → q i = true) (K:Value → (Nat → Bool) → (Nat → Value) → Prop) (hK:∀ v,Vals (fun j=>q j || j == 5) (upd V 5 v) [(0,a),(1,b),(2,.bool true),(5,c)] ∧ True → K v q V):K c q V ∧ V 1 = b:=by
 refine ⟨hK _ ⟨h.set rfl,trivial⟩,?_⟩
 have v1:=h.get 1 (hq 1 (by decide)) rfl
 have v2:=h.get 2 (hq 2 (by decide)) rfl
 have v5:=h.get 5 (hq 5 (by decide)) rfl
 exact v1
example (q:Nat → Bool) (V:Nat → Value) (a b c:Value) (h:Vals q V [(0,a),(1,b),(2,.bool true),(5,c)]) (u:Value):Vals (fun j=>q j || j == 3) (upd V 3 u) [(0,a),(1,b),(2,.bool true),(5,c)]:=h.off rfl
end Go.Proofs.YtnbldbbbibpobaaGreatDoor
