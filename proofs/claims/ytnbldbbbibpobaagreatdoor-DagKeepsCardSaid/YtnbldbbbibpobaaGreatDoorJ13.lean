/-
  Joined: In a region whose order is open: a struct's block made and stored into; a map looked up.; The developers' knows. Written by dag/gen/gen_know.py.; The developers' depth and fits.; A row behind a name grows, in a map: what holds while the statement's operations come up in whatever order.; The developers' wait. Written by dag/gen/gen_wait.py.
-/
import Derived.Test.YtnbldbbbibpobaaGreatDoorJ07
import Derived.Test.YtnbldbbbibpobaaGreatDoorJ12
set_option maxRecDepth 100000
set_option maxHeartbeats 8000000
namespace Go.Proofs.YtnbldbbbibpobaaGreatDoor
open Go.RowKit Go.BigFrame
def PutC (s:Nat → Bool) (V:Nat → Value) (B i j:Nat) (t:TypeId) (c0 c1:Array Value) (w:World):Prop:=s i = true → ∃ g,V i = .pointer (some ⟨g,0,none⟩) ∧ B ≤ g ∧ Cells g t (if s j = true then c1 else c0) w
section
variable {s:Nat → Bool} {V:Nat → Value} {B i j m g:Nat} {t:TypeId} {c0 c1:Array Value} {w w':World} {u:Value}
theorem PutC.none:PutC (fun _=>false) V B i j t c0 c1 w:=fun h=>by cases h
theorem PutC.ne (h:PutC s V B i j t c0 c1 w) (hne:i ≠ m) (hj:j ≠ m) (hb:Below w.heap.size w w'):PutC (fun n=>s n || n == m) (upd V m u) B i j t c0 c1 w':=fun hs=>by
 obtain ⟨g,e,hg,hk⟩:=h (z6m hne hs)
 refine ⟨g,by rw [z1r V u hne];exact e,hg,?_⟩
 show Cells g t (if (s j || j == m) = true then c1 else c0) w'
 rw [show (s j || j == m) = s j by rw [beq_false_of_ne hj,Bool.or_false]]
 exact hk.below hb
theorem PutC.made (hB:B ≤ w.heap.size) (hj:s j = false) (hne:j ≠ i):PutC (fun n=>s n || n == i) (upd V i (.pointer (some ⟨w.heap.size,0,Option.none⟩))) B i j t c0 c1 (w.alloc (.cells c0 t)):=fun _ =>
 ⟨w.heap.size,z28 _ _ _,hB,by
  show Cells w.heap.size t (if (s j || j == i) = true then c1 else c0) _
  rw [show (s j || j == i) = false by rw [hj,beq_false_of_ne hne];rfl]
  exact heap_alloc_new w _⟩
theorem PutC.stored (hV:V i = .pointer (some ⟨g,0,Option.none⟩)) (hB:B ≤ g) (hne:i ≠ j) (h:Cells g t c1 w):PutC (fun n=>s n || n == j) (upd V j u) B i j t c0 c1 w:=fun _ =>
 ⟨g,by rw [z1r V u hne];exact hV,hB,by
  show Cells g t (if (s j || j == j) = true then c1 else c0) w
  rw [show (s j || j == j) = true by simp]
  exact h⟩
end
section
variable {P:Program} {o:Oper} {a:Act} {w:World} {K:Act → World → Prop} {Q:Exit → Act → World → Prop}
theorem z1z (ty:TypeId) (x y:Operand) (ho:o.op = .store ty x y) (g:Nat) (cs cs':Array Value) (t:TypeId) (hx:a.eval x = .pointer (some ⟨g,0,none⟩)) (hy:a.eval y = .agg cs')
 (hg:Cells g t cs w) (hi:(P.info? ty).map (·.size) = some cs'.size) (hl:cs.size = cs'.size) (h1:cs'.all (·.oneCell') = true) (h:∀ w',Cells g t cs' w' → But g w w' → K (a.put o.dst undef) w'):OpWp P o a w K Q :=
 ⟨wp_store_row ty x y ho g _ hx hy t _ hg hi hl h1 (h _ (setRow_heap _ _ _ _ _ _ hg) ((But.refl g w).setRow _))⟩
theorem z3d (m x:Operand) (T K' E:TypeId) (c:Bool) (ho:o.op = .lookup T m x c) (hk:IdKey P K') (hT:P.underlying T = some (.map K' E)) (z:Value) (hz:(zeroValue E).run P w = .ok z w) (b:Nat) (L:List (List Nat × Value)) (hL:MapN b L w) (n:List Nat) (hn:IdOk n)
 (hm:a.eval m = .map (some b)) (hx:a.eval x = idV n) (r:Value) (hr:(if c then .tuple #[atE L z n,.bool (decide (n ∈ L.map (·.1)))] else atE L z n) = r) (h:K (a.put o.dst r) w):OpWp P o a w K Q:=by
 refine ⟨?_⟩
 unfold Oper.wp execOp
 simp only [ho,hm,hx,hL.lookup hk hT hz c hn,Sem.run_bind,Sem.run_pure,Result.andThen_ok]
 exact hr ▸ h
theorem z3w {C:World → Prop} {K:Act → Prop} (m x:Operand) (T K' E:TypeId) (c:Bool) (ho:o.op = .lookup T m x c) (hk:IdKey P K') (hT:P.underlying T = some (.map K' E)) (z:Value) (hz:∀ w,(zeroValue E).run P w = .ok z w) (b:Nat) (L:List (List Nat × Value)) (hL:∀ w,C w → MapN b L w) (n:List Nat) (hn:IdOk n)
 (hm:a.eval m = .map (some b)) (hx:a.eval x = idV n) (r:Value) (hr:(if c then .tuple #[atE L z n,.bool (decide (n ∈ L.map (·.1)))] else atE L z n) = r) (h:K (a.put o.dst r)):o.quiet P a C K:=by
 refine ⟨_,fun w hw=>?_,h⟩
 unfold Oper.quietAt execOp
 simp only [ho,hm,hx,(hL w hw).lookup hk hT (hz w) c hn,Sem.run_bind,Sem.run_pure,Result.andThen_ok,hr]
 exact ⟨rfl,rfl⟩
end
theorem z4m (gs k:Nat) (hk:k < 4) (w:World):(Instr.fieldAt 80 (.pointer (some ⟨gs,0,none⟩)) k).run Tryz.prog w = .ok (.pointer (some ⟨gs,k,none⟩)) w:=by
 match k,hk with
 | 0,_=>go_simp
 | 1,_=>go_simp
 | 2,_=>go_simp
 | 3,_=>go_simp
theorem z6r (w:World):(zeroValue 38).run Tryz.prog w = .ok (.agg (opV z05 none 0)) w:=by
 go_simp
 rfl
theorem zft (w:World):(zeroValue 34).run Tryz.prog w = .ok (.slice none 0 0) w:=by
 go_simp
theorem z4f (w:World):(Instr.alloc 38 true (.tuple #[])).run Tryz.prog w = .ok (.pointer (some ⟨w.heap.size,0,none⟩)) (w.alloc (.cells (opV z05 none 0) 38)):=by
 go_simp
 rfl
theorem z8z (v:Value) (b:Bool):(#[v,Value.bool b]:Array Value)[0]? = some v:=rfl
theorem z8y (v:Value) (b:Bool):(#[v,Value.bool b]:Array Value)[1]? = some (.bool b):=rfl
theorem z3z {X:Nat → Prop} {L:List OpN} {E:List (List Nat × Value)} {w:World} (h:EntsO X L E w) (hd:(E.map (·.1)).Nodup) (hr:∀ x ∈ L,x.d.ref.length = 32) (n:List Nat) :
 ∃ x pa pc, atE E (.agg (opV z05 none 0)) n = .agg (opV x pa pc) ∧ decide (n ∈ E.map (·.1)) = decide (n ∈ L.map z0a) ∧ x.d.ref.length = 32 ∧ IAt pa x.preds w ∧
   ((n ∈ L.map z0a ∧ x ∈ L ∧ z0a x = n ∧ OffX X pa x.preds ∧ E.lookup n = some (Value.agg (opV x pa pc)) ∧ ∃ i:Nat,L[i]? = some x ∧ E[i]? = some (n,Value.agg (opV x pa pc))) ∨ (n ∉ L.map z0a ∧ x = z05 ∧ pa = none ∧ pc = 0)):=by
 rw [h.keys]
 by_cases hn:n ∈ L.map z0a
 ·obtain ⟨x,hx,rfl⟩:=List.mem_map.1 hn
  obtain ⟨i,hi,he⟩:=List.getElem_of_mem hx
  have hix:L[i]? = some x:=by rw [List.getElem?_eq_getElem hi,he]
  obtain ⟨pa,pc,h1,h2,h3,h4⟩:=h.here hd hix
  exact ⟨x,pa,pc,by rw [atE,h2];rfl,rfl,hr x hx,h3,.inl ⟨hn,hx,rfl,h4,h2,i,hix,h1⟩⟩
 ·exact ⟨z05,none,0,by rw [atE,h.not hn];rfl,rfl,rfl,.inl rfl,.inr ⟨hn,rfl,rfl,rfl⟩⟩
theorem z9x (x:OpN) (pa:Option Addr) (pc:Nat):(opV x pa pc).all (·.oneCell') = true:=z0z x pa pc
theorem zhg (X:Nat → Prop) (B:Bs) (T:Ents) (s:DagN) (hs:List (List Nat)) (M:Bh) (n:List Nat) (w:World) (h:SetAt X B T s hs M w) (hn:IdOk n) (hro:∀ x ∈ s.ops,x.d.ref.length = 32) (hrw:∀ x ∈ s.wait,x.d.ref.length = 32) :
 Calls Tryz.prog 44 #[.pointer (some ⟨B.gs,0,none⟩),.agg (z06 .u8 n).toArray] w fun e w'=>e = .returned (.bool (decide (n ∈ s.names) || decide (n ∈ s.waits))) ∧ Below w.heap.size w w':=by
 obtain ⟨x,pa,pc,e1,e2,e3,_⟩:=z3z h.ops h.pm.nodup hro n
 obtain ⟨y,qa,qc,f1,f2,f3,_⟩:=z3z h.wait h.wm.nodup hrw n
 have b1:Below w.heap.size w (w.alloc (.cells (z06 .u8 n).toArray 25)):=(Below.refl _ _).alloc (Nat.le_refl _) _
 have x1:Blk w.heap.size 25 .u8 n (w.alloc (.cells (z06 .u8 n).toArray 25)):=heap_alloc_new w _
 have HB:=Lib.hid b1
 have HC0:=Lib.hid x1
 have HS0:=Lib.hid (h.below b1)
 have HN:=Lib.hid hn
 have HSN:=Lib.hid (show (Tryz.prog.info? 25).map (·.size) = some n.length by rw [hn.1];exact Tryz.sizeI)
 obtain ⟨pb,hp⟩:∃ p,decide (n ∈ s.names) = p:=⟨_,rfl⟩
 obtain ⟨qb,hq⟩:∃ q,decide (n ∈ s.waits) = q:=⟨_,rfl⟩
 rw [hp,hq]
 rw [show decide (n ∈ s.ops.map z0a) = pb from hp] at e2
 rw [show decide (n ∈ s.wait.map z0a) = qb from hq] at f2
 obtain ⟨Z1,hZ1⟩:∃ Z,opV x pa pc = Z:=⟨_,rfl⟩
 obtain ⟨Z2,hZ2⟩:∃ Z,opV y qa qc = Z:=⟨_,rfl⟩
 have HE1:=Shut.mk (show Value.tuple #[atE T.p (.agg (opV z05 none 0)) n,.bool (decide (n ∈ T.p.map (·.1)))] = .tuple #[.agg Z1,.bool pb] by rw [e1,e2,hZ1])
 have HE2:=Shut.mk (show Value.tuple #[atE T.w (.agg (opV z05 none 0)) n,.bool (decide (n ∈ T.w.map (·.1)))] = .tuple #[.agg Z2,.bool qb] by rw [f1,f2,hZ2])
 have HI1:=Lib.hid (show (Tryz.prog.info? 38).map (·.size) = some Z1.size by rw [← hZ1,z07 e3];exact Tryz.sizeO)
 have HI2:=Lib.hid (show (Tryz.prog.info? 38).map (·.size) = some Z2.size by rw [← hZ2,z07 f3];exact Tryz.sizeO)
 have HL1:=Lib.hid (show (opV z05 none 0).size = Z1.size by rw [← hZ1,z07 e3];rfl)
 have HL2:=Lib.hid (show (opV z05 none 0).size = Z2.size by rw [← hZ2,z07 f3];rfl)
 have HA1:=Lib.hid (show Z1.all (·.oneCell') = true by rw [← hZ1];exact z9x _ _ _)
 have HA2:=Lib.hid (show Z2.all (·.oneCell') = true by rw [← hZ2];exact z9x _ _ _)
 clear h b1 x1 hn e1 e2 e3 f1 f2 f3 hro hrw hZ1 hZ2 hp hq
 go_enter Tryz.func44,Tryz.ntmps44
 go_upto_region 1 with (fail)
 obtain ⟨w1,hw1⟩:∃ x,x = w.alloc (.cells (z06 .u8 n).toArray 25):=⟨_,rfl⟩
 rw [← hw1] at HB HC0 HS0 ⊢
 clear hw1
 refine z0f 11 (fun q V w'=>Val q V 0 (.pointer (some ⟨B.gs,0,none⟩)) ∧ Val q V 1 (.pointer (some ⟨B.gs,0,none⟩)) ∧ Val q V 2 (.pointer (some ⟨B.gs,0,none⟩)) ∧ Val q V 3 (.map (some B.p)) ∧ Val q V 4 (.agg (z06 .u8 n).toArray) ∧ Val q V 5 (.tuple #[.agg Z1,.bool pb]) ∧ Val q V 6 (.tuple #[.agg Z1,.bool pb]) ∧ Val q V 7 (.agg Z1) ∧ Val q V 8 (.bool pb) ∧ PutC q V w1.heap.size 9 10 38 (opV z05 none 0) (Z1) w' ∧ Below w1.heap.size w1 w' ∧ Late q 9 10) (fun _=>undef) (by kernel_rfl) (by kernel_rfl) (by kernel_rfl) (by simp only [zC,zD,z0i,Act.put,zS,zA,zB]) ⟨Val.none,Val.none,Val.none,Val.none,Val.none,Val.none,Val.none,Val.none,Val.none,PutC.none,(Below.refl _ _).drew,Late.none⟩ ?_ ?_
 ·simp only [zC,zD,z0i,Nat.zero_add,Nat.reduceAdd,Act.put,zS,zA,zB]
  refine zQc ?_ (zQc ?_ (zQc ?_ (zQc ?_ (zQc ?_ (zQc ?_ (zQc ?_ (zQc ?_ (zQc ?_ (zQc ?_ (zQc ?_ (zQn)))))))))))
  all_goals (refine zQf rfl ?_;rintro q V wq hr hu ⟨h0,h1,h2,h3,h4,h5,h6,h7,h8,h9,hb,hl9⟩ K hK)
  ·exact z0h (.tmp 0) rfl _ rfl (hK _ _ ⟨.same,h1.nd,h2.nd,h3.nd,h4.nd,h5.nd,h6.nd,h7.nd,h8.nd,h9.ne (by decide) (by decide) (Below.refl _ _),hb,hl9.nd⟩)
  ·exact z0m (.tmp 10) rfl ⟨B.gs,0,none⟩ (h0 (hr { on:=0,ground:=.data } (by simp) rfl)) (hK _ _ ⟨h0.nd,.same,h2.nd,h3.nd,h4.nd,h5.nd,h6.nd,h7.nd,h8.nd,h9.ne (by decide) (by decide) (Below.refl _ _),hb,hl9.nd⟩)
  ·exact z0l 80 (.tmp 11) 0 rfl _ _ (h1 (hr { on:=1,ground:=.data } (by simp) rfl)) (z4m B.gs 0 (by decide)) (hK _ _ ⟨h0.nd,h1.nd,.same,h3.nd,h4.nd,h5.nd,h6.nd,h7.nd,h8.nd,h9.ne (by decide) (by decide) (Below.refl _ _),hb,hl9.nd⟩)
  ·exact z0o 76 (.tmp 12) rfl _ _ (h2 (hr { on:=2,ground:=.data } (by simp) rfl)) (HS0.out.below hb).cell.1 Tryz.isAgg76 (hK _ _ ⟨h0.nd,h1.nd,h2.nd,.same,h4.nd,h5.nd,h6.nd,h7.nd,h8.nd,h9.ne (by decide) (by decide) (Below.refl _ _),hb,hl9.nd⟩)
  ·exact z16 25 (.tmp 3) rfl w.heap.size .u8 n 25 _ rfl (HC0.out.below hb) Tryz.underlying25 rfl HSN.out (hK _ _ ⟨h0.nd,h1.nd,h2.nd,h3.nd,.same,h5.nd,h6.nd,h7.nd,h8.nd,h9.ne (by decide) (by decide) (Below.refl _ _),hb,hl9.nd⟩)
  ·exact z3d (.tmp 13) (.tmp 14) 76 25 38 true rfl Tryz.idKey Tryz.underlying76 (.agg (opV z05 none 0)) (z6r wq) B.p T.p (HS0.out.below hb).pm n HN.out (h3 (hr { on:=3,ground:=.data } (by simp) rfl)) (h4 (hr { on:=4,ground:=.data } (by simp) rfl)) _ (by rw [HE1.out];rfl) (hK _ _ ⟨h0.nd,h1.nd,h2.nd,h3.nd,h4.nd,.same,h6.nd,h7.nd,h8.nd,h9.ne (by decide) (by decide) (Below.refl _ _),hb,hl9.nd⟩)
  ·exact z0h (.tmp 15) rfl _ (h5 (hr { on:=5,ground:=.data } (by simp) rfl)) (hK _ _ ⟨h0.nd,h1.nd,h2.nd,h3.nd,h4.nd,h5.nd,.same,h7.nd,h8.nd,h9.ne (by decide) (by decide) (Below.refl _ _),hb,hl9.nd⟩)
  ·exact z20 (.tmp 9) 0 rfl _ _ (h6 (hr { on:=6,ground:=.data } (by simp) rfl)) (z8z _ _) (hK _ _ ⟨h0.nd,h1.nd,h2.nd,h3.nd,h4.nd,h5.nd,h6.nd,.same,h8.nd,h9.ne (by decide) (by decide) (Below.refl _ _),hb,hl9.nd⟩)
  ·exact z20 (.tmp 9) 1 rfl _ _ (h6 (hr { on:=6,ground:=.data } (by simp) rfl)) (z8y _ _) (hK _ _ ⟨h0.nd,h1.nd,h2.nd,h3.nd,h4.nd,h5.nd,h6.nd,h7.nd,.same,h9.ne (by decide) (by decide) (Below.refl _ _),hb,hl9.nd⟩)
  ·exact z2s 38 rfl (opV z05 none 0) z4f (hK _ _ ⟨h0.nd,h1.nd,h2.nd,h3.nd,h4.nd,h5.nd,h6.nd,h7.nd,h8.nd,PutC.made hb.size (hl9.not hu) (by decide),hb.alloc hb.size _,hl9.nd⟩)
  ·obtain ⟨g,hV,hg0,hc0⟩:=h9 (hr { on:=9,ground:=.data } (by simp) rfl)
   rw [if_neg (by rw [hu];decide)] at hc0
   refine z1z 38 (.tmp 5) (.tmp 16) rfl g _ (Z1) 38 hV (h7 (hr { on:=7,ground:=.data } (by simp) rfl)) hc0 HI1.out HL1.out HA1.out ?_
   intro w' hc' hbt
   have hbn:=But.toBelow hb hbt hg0 hb.size
   exact (hK _ _ ⟨h0.nd,h1.nd,h2.nd,h3.nd,h4.nd,h5.nd,h6.nd,h7.nd,h8.nd,PutC.stored hV hg0 (by decide) hc',hbn,Late.same (hr { on:=9,ground:=.data } (by simp) rfl)⟩)
 rintro q V wq hall ⟨h0,h1,h2,h3,h4,h5,h6,h7,h8,h9,hb,hl9⟩
 have v0:=h0 (hall 0 (by decide))
 have v1:=h1 (hall 1 (by decide))
 have v2:=h2 (hall 2 (by decide))
 have v3:=h3 (hall 3 (by decide))
 have v4:=h4 (hall 4 (by decide))
 have v5:=h5 (hall 5 (by decide))
 have v6:=h6 (hall 6 (by decide))
 have v7:=h7 (hall 7 (by decide))
 have v8:=h8 (hall 8 (by decide))
 obtain ⟨g9,v9,hg9,hc9⟩:=h9 (hall 9 (by decide))
 rw [if_pos (hall 10 (by decide))] at hc9
 obtain ⟨u10,v10⟩:∃ v,V 10 = v:=⟨_,rfl⟩
 simp only [zC,zD,zE,zF,z0i,Nat.zero_add,Nat.reduceAdd,v0,v1,v2,v3,v4,v5,v6,v7,v8,v9,Act.put,zS,zA,zB]
 clear h0 h1 h2 h3 h4 h5 h6 h7 h8 v0 v1 v2 v3 v4 v5 v6 v7 v8 v9 v10 hall hl9
 have HC2:=Lib.hid (HC0.out.below hb)
 have HS2:=Lib.hid (HS0.out.below hb)
 have HB2:=Lib.hid (HB.out.trans (hb.mono HB.out.size))
 clear hb hc9 hg9 HC0 HS0 HB
 obtain ⟨w2,hw2⟩:∃ x,x = wq:=⟨_,rfl⟩
 rw [← hw2] at HC2 HS2 HB2 ⊢
 clear hw2
 cases pb with
 | true =>
   go_wp2_with fail
   go_ret
   exact ⟨rfl,HB2.out⟩
 | false =>
   go_upto_region 4 with (fail)
   refine z0f 11 (fun q V w'=>Val q V 0 (.pointer (some ⟨B.gs,0,none⟩)) ∧ Val q V 1 (.pointer (some ⟨B.gs,0,none⟩)) ∧ Val q V 2 (.pointer (some ⟨B.gs,1,none⟩)) ∧ Val q V 3 (.map (some B.w)) ∧ Val q V 4 (.agg (z06 .u8 n).toArray) ∧ Val q V 5 (.tuple #[.agg Z2,.bool qb]) ∧ Val q V 6 (.tuple #[.agg Z2,.bool qb]) ∧ Val q V 7 (.agg Z2) ∧ Val q V 8 (.bool qb) ∧ PutC q V w2.heap.size 9 10 38 (opV z05 none 0) (Z2) w' ∧ Below w2.heap.size w2 w' ∧ Late q 9 10) (fun _=>undef) (by kernel_rfl) (by kernel_rfl) (by kernel_rfl) (by simp only [zC,zD,z0i,Act.put,zS,zA,zB]) ⟨Val.none,Val.none,Val.none,Val.none,Val.none,Val.none,Val.none,Val.none,Val.none,PutC.none,(Below.refl _ _).drew,Late.none⟩ ?_ ?_
   ·simp only [zC,zD,z0i,Nat.zero_add,Nat.reduceAdd,Act.put,zS,zA,zB]
    refine zQc ?_ (zQc ?_ (zQc ?_ (zQc ?_ (zQc ?_ (zQc ?_ (zQc ?_ (zQc ?_ (zQc ?_ (zQc ?_ (zQc ?_ (zQn)))))))))))
    all_goals (refine zQf rfl ?_;rintro q V wq hr hu ⟨h0,h1,h2,h3,h4,h5,h6,h7,h8,h9,hb,hl9⟩ K hK)
    ·exact z0h (.tmp 0) rfl _ rfl (hK _ _ ⟨.same,h1.nd,h2.nd,h3.nd,h4.nd,h5.nd,h6.nd,h7.nd,h8.nd,h9.ne (by decide) (by decide) (Below.refl _ _),hb,hl9.nd⟩)
    ·exact z0m (.tmp 20) rfl ⟨B.gs,0,none⟩ (h0 (hr { on:=0,ground:=.data } (by simp) rfl)) (hK _ _ ⟨h0.nd,.same,h2.nd,h3.nd,h4.nd,h5.nd,h6.nd,h7.nd,h8.nd,h9.ne (by decide) (by decide) (Below.refl _ _),hb,hl9.nd⟩)
    ·exact z0l 80 (.tmp 21) 1 rfl _ _ (h1 (hr { on:=1,ground:=.data } (by simp) rfl)) (z4m B.gs 1 (by decide)) (hK _ _ ⟨h0.nd,h1.nd,.same,h3.nd,h4.nd,h5.nd,h6.nd,h7.nd,h8.nd,h9.ne (by decide) (by decide) (Below.refl _ _),hb,hl9.nd⟩)
    ·exact z0o 76 (.tmp 22) rfl _ _ (h2 (hr { on:=2,ground:=.data } (by simp) rfl)) (HS2.out.below hb).cell.2.1 Tryz.isAgg76 (hK _ _ ⟨h0.nd,h1.nd,h2.nd,.same,h4.nd,h5.nd,h6.nd,h7.nd,h8.nd,h9.ne (by decide) (by decide) (Below.refl _ _),hb,hl9.nd⟩)
    ·exact z16 25 (.tmp 3) rfl w.heap.size .u8 n 25 _ rfl (HC2.out.below hb) Tryz.underlying25 rfl HSN.out (hK _ _ ⟨h0.nd,h1.nd,h2.nd,h3.nd,.same,h5.nd,h6.nd,h7.nd,h8.nd,h9.ne (by decide) (by decide) (Below.refl _ _),hb,hl9.nd⟩)
    ·exact z3d (.tmp 23) (.tmp 24) 76 25 38 true rfl Tryz.idKey Tryz.underlying76 (.agg (opV z05 none 0)) (z6r wq) B.w T.w (HS2.out.below hb).wm n HN.out (h3 (hr { on:=3,ground:=.data } (by simp) rfl)) (h4 (hr { on:=4,ground:=.data } (by simp) rfl)) _ (by rw [HE2.out];rfl) (hK _ _ ⟨h0.nd,h1.nd,h2.nd,h3.nd,h4.nd,.same,h6.nd,h7.nd,h8.nd,h9.ne (by decide) (by decide) (Below.refl _ _),hb,hl9.nd⟩)
    ·exact z0h (.tmp 25) rfl _ (h5 (hr { on:=5,ground:=.data } (by simp) rfl)) (hK _ _ ⟨h0.nd,h1.nd,h2.nd,h3.nd,h4.nd,h5.nd,.same,h7.nd,h8.nd,h9.ne (by decide) (by decide) (Below.refl _ _),hb,hl9.nd⟩)
    ·exact z20 (.tmp 19) 0 rfl _ _ (h6 (hr { on:=6,ground:=.data } (by simp) rfl)) (z8z _ _) (hK _ _ ⟨h0.nd,h1.nd,h2.nd,h3.nd,h4.nd,h5.nd,h6.nd,.same,h8.nd,h9.ne (by decide) (by decide) (Below.refl _ _),hb,hl9.nd⟩)
    ·exact z20 (.tmp 19) 1 rfl _ _ (h6 (hr { on:=6,ground:=.data } (by simp) rfl)) (z8y _ _) (hK _ _ ⟨h0.nd,h1.nd,h2.nd,h3.nd,h4.nd,h5.nd,h6.nd,h7.nd,.same,h9.ne (by decide) (by decide) (Below.refl _ _),hb,hl9.nd⟩)
    ·exact z2s 38 rfl (opV z05 none 0) z4f (hK _ _ ⟨h0.nd,h1.nd,h2.nd,h3.nd,h4.nd,h5.nd,h6.nd,h7.nd,h8.nd,PutC.made hb.size (hl9.not hu) (by decide),hb.alloc hb.size _,hl9.nd⟩)
    ·obtain ⟨g,hV,hg0,hc0⟩:=h9 (hr { on:=9,ground:=.data } (by simp) rfl)
     rw [if_neg (by rw [hu];decide)] at hc0
     refine z1z 38 (.tmp 7) (.tmp 26) rfl g _ (Z2) 38 hV (h7 (hr { on:=7,ground:=.data } (by simp) rfl)) hc0 HI2.out HL2.out HA2.out ?_
     intro w' hc' hbt
     have hbn:=But.toBelow hb hbt hg0 hb.size
     exact (hK _ _ ⟨h0.nd,h1.nd,h2.nd,h3.nd,h4.nd,h5.nd,h6.nd,h7.nd,h8.nd,PutC.stored hV hg0 (by decide) hc',hbn,Late.same (hr { on:=9,ground:=.data } (by simp) rfl)⟩)
   rintro q V wq hall ⟨h0,h1,h2,h3,h4,h5,h6,h7,h8,h9,hb,hl9⟩
   have v0:=h0 (hall 0 (by decide))
   have v1:=h1 (hall 1 (by decide))
   have v2:=h2 (hall 2 (by decide))
   have v3:=h3 (hall 3 (by decide))
   have v4:=h4 (hall 4 (by decide))
   have v5:=h5 (hall 5 (by decide))
   have v6:=h6 (hall 6 (by decide))
   have v7:=h7 (hall 7 (by decide))
   have v8:=h8 (hall 8 (by decide))
   obtain ⟨g9,v9,hg9,hc9⟩:=h9 (hall 9 (by decide))
   rw [if_pos (hall 10 (by decide))] at hc9
   obtain ⟨u10,v10⟩:∃ v,V 10 = v:=⟨_,rfl⟩
   simp only [zC,zD,zE,zF,z0i,Nat.zero_add,Nat.reduceAdd,v0,v1,v2,v3,v4,v5,v6,v7,v8,v9,Act.put,zS,zA,zB]
   clear h0 h1 h2 h3 h4 h5 h6 h7 h8 v0 v1 v2 v3 v4 v5 v6 v7 v8 v9 v10 hall hl9
   have HB4:=Lib.hid (HB2.out.trans (hb.mono HB2.out.size))
   clear hb hc9 hg9
   go_wp2_with fail
   go_ret
   exact ⟨by rw [Bool.false_or];rfl,HB4.out⟩
theorem ze5 {L:List OpN} (hd:(L.map z0a).Nodup) {i:Nat} {x:OpN} (h:L[i]? = some x):z1d L (z0a x) = x.depth:=by
 have hi:=(List.getElem?_eq_some_iff.1 h).1
 have hm:z0a x ∈ L.map z0a:=List.mem_map.2 ⟨x,List.mem_of_getElem? h,rfl⟩
 have hx:=List.idxOf_lt_length_of_mem hm
 have h1:(L.map z0a)[(L.map z0a).idxOf (z0a x)]? = (L.map z0a)[i]?:=by
  rw [List.getElem?_eq_getElem hx,List.getElem_idxOf hx,List.getElem?_map,h]
  rfl
 have h2:=(List.getElem?_inj hx hd).1 h1
 rw [z1d,h2,h]
 rfl
theorem zea {L:List OpN} {n:List Nat} (h:n ∉ L.map z0a):z1d L n = 0:=by
 rw [z1d,List.getElem?_eq_none]
 ·rfl
 ·rw [List.idxOf_eq_length h,List.length_map]
  exact Nat.le_refl _
theorem zej {o:Oper} {a:Act} {C:World → Prop} {K:Act → Prop} (x:Operand) (ho:o.op = .field 38 x 2) (y:OpN) (pa:Option Addr) (pc:Nat) (hy:y.d.ref.length = 32) (hx:a.eval x = .agg (opV y pa pc)) (hk:K (a.put o.dst (.int .i64 y.depth))):o.quiet Tryz.prog a C K:=by
 have hc:(opV y pa pc)[36]? = some (.int .i64 y.depth):=by rw [opV,List.getElem?_toArray];exact zdk hy
 refine ⟨_,fun w _=>?_,hk⟩
 unfold Oper.quietAt execOp
 have hr:(Instr.field 38 (.agg (opV y pa pc)) 2).run Tryz.prog w = .ok (.int .i64 y.depth) w:=by
  obtain ⟨Z,hZ⟩:∃ Z,opV y pa pc = Z:=⟨_,rfl⟩
  rw [hZ] at hc ⊢
  go_simp
  exact z7c (Tryz.isAgg3 w) hc
 simp only [ho,hx,hr,Sem.run_bind,Sem.run_pure,Result.andThen_ok]
 exact ⟨rfl,rfl⟩
theorem zde (X:Nat → Prop) (B:Bs) (T:Ents) (s:DagN) (hs:List (List Nat)) (M:Bh) (P:List (List Nat)) (pa:Option Addr) (m pc:Nat) (w:World) (h:SetAt X B T s hs M w) (hP:Ids P) (hp:IAt pa P w) (hm:P.length = m) (hq:m ≤ 1000000) (hro:∀ x ∈ s.ops,x.d.ref.length = 32) (hsh:s.Shallow) (hb:s.ops.length ≤ 1000000) :
 Calls Tryz.prog 58 #[.pointer (some ⟨B.gs,0,none⟩),.slice pa m pc] w fun e w'=>e = .returned (.int .i64 (z4a s.ops P + 1)) ∧ Below w.heap.size w w':=by
 have HLK:=Lib.hid (fun n=>show ∃ (x:OpN) (qa:Option Addr) (qc:Nat),atE T.p (.agg (opV z05 none 0)) n = .agg (opV x qa qc) ∧ x.d.ref.length = 32 ∧ z1d s.ops n = x.depth from by
  obtain ⟨x,qa,qc,e1,_,e3,_,e5⟩:=z3z h.ops h.pm.nodup hro n
  refine ⟨x,qa,qc,e1,e3,?_⟩
  rcases e5 with ⟨_,_,e,_,_,i,hi,_⟩ | ⟨e,rfl,_⟩
  ·rw [← e]
   exact ze5 (by rw [← h.ops.keys];exact h.pm.nodup) hi
  ·exact zea e)
 have HMD:=Lib.hid (fun P:List (List Nat)=>show 0 ≤ z4a s.ops P ∧ z4a s.ops P ≤ 1000000 from ⟨(z5m hsh (by omega) P).1,Int.le_trans (z5m hsh (by omega) P).2 (by omega)⟩)
 have HS:=Lib.hid h
 have HPA:=Lib.hid hp
 have HPI:=Lib.hid hP
 have HM:=Shut.mk hm
 clear h hp hP hm hro hsh hb
 go_enter Tryz.func58,Tryz.ntmps58
 go_upto_region 2 with (fail)
 go_wp2_with fail
 have H0:=Shut.mk (show z4a s.ops (P.take 0) = 0 from rfl)
 go_loopw [10,5] (fun i g wr=>∃ k:Nat,k ≤ m ∧ i = .int .i64 k ∧ g = .int .i64 (z4a s.ops (P.take k)) ∧ Below w.heap.size w wr) (fun i _ _=>m - (intOf i).toNat)
 case atStart=>exact ⟨0,Nat.zero_le _,rfl,by rw [H0.out],Below.refl _ _⟩
 case round =>
  obtain ⟨k,hk,rfl,rfl,hbw⟩:=hrel
  have HB:=Lib.hid hbw
  have HPW:=Lib.hid (HPA.out.below hbw)
  have HSW:=Lib.hid (HS.out.below hbw)
  clear hbw
  have hmd:=HMD.out (P.take k)
  obtain ⟨D,hD⟩:∃ D,z4a s.ops (P.take k) = D:=⟨_,rfl⟩
  rw [hD] at hmd ⊢
  have HD:=Shut.mk hD
  clear hD
  by_cases hlt:k < m
  ·obtain ⟨b,ob,rfl,hbl⟩:=HPW.out.some (by rw [HM.out];omega)
   have g1:=HPW.out.get (i:=k) (by rw [HM.out];omega)
   have i1:=Ids.getD HPI.out (i:=k) (by rw [HM.out];omega)
   obtain ⟨x,hx⟩:∃ x,P.getD k [] = x:=⟨_,rfl⟩
   rw [hx] at g1 i1
   have HXE:=Shut.mk hx
   have HXI:=Lib.hid i1
   have HG1:=Lib.hid g1
   have HS1:=Lib.hid (show (Tryz.prog.info? 25).map (·.size) = some x.length by rw [i1.1];exact Tryz.sizeI)
   have HL2:=Lib.hid (show (List.replicate 32 0).length = x.length by rw [i1.1];rfl)
   obtain ⟨y,qa,qc,e1,e2,e3⟩:=HLK.out x
   have HE1:=Shut.mk e1
   have HE2:=Lib.hid e2
   have HNX:=Shut.mk (show z4a s.ops (P.take (k + 1)) = if D < y.depth then y.depth else D by rw [zda (by rw [HM.out];exact hlt),hx,HD.out,e3])
   clear hx g1 i1 hbl e1 e2 e3
   go_wp2_with (first
    | (refine z0b rfl 25 _ rfl b (ob + k * 32) x _ rfl HG1.out Tryz.underlying25 rfl HS1.out ?_)
    | (refine z04 rfl 25 _ _ rfl rfl wr.heap.size .u8 (List.replicate 32 0) x 25 rfl rfl (heap_alloc_new wr _) HS1.out HL2.out ?_))
   intro w5 hc' hb'
   have HB5a:=Lib.hid (show Below wr.heap.size wr w5 from But.toBelow ((Below.refl _ _).alloc (Nat.le_refl _) _) hb'.out (Nat.le_refl _) (by rw [World.size_alloc];exact Nat.le_succ _))
   have HB5:=Lib.hid (HB.out.trans (HB5a.out.mono HB.out.size))
   have HS5:=Lib.hid (fun w' (hb:Below w5.heap.size w5 w')=>(HSW.out.below HB5a.out).below hb)
   have HC5:=Lib.hid (fun w' (hb:Below w5.heap.size w5 w')=>show Blk wr.heap.size 25 .u8 x w' from Blk.below (show Blk wr.heap.size 25 .u8 x w5 from hc'.out) hb)
   clear hc' hb'
   go_upto_region 5 with (fail)
   have HCE:=Lib.hid (fun w' (hb:Below w5.heap.size w5 w')=>(HS5.out w' hb).cell.1)
   refine z08 (fun w'=>Below w5.heap.size w5 w') 9 (by kernel_rfl) (by kernel_rfl) (Below.refl _ _).drew ?_
   simp only [zC,zD,zE,zF]
   repeat (first
    | (go_big_quiet_want;refine z02 76 _ rfl ⟨B.gs,0,none⟩ _ rfl HCE.out Tryz.isAgg76 ?_;go_big_quiet_on;simp only [Act.put,zS,zA,zB])
    | (go_big_quiet_want;refine z0q 25 _ rfl wr.heap.size .u8 x 25 _ rfl HC5.out Tryz.underlying25 rfl HS1.out ?_;go_big_quiet_on;simp only [Act.put,zS,zA,zB])
    | (go_big_quiet_want;refine z3w _ _ 76 25 38 false rfl Tryz.idKey Tryz.underlying76 (.agg (opV z05 none 0)) z6r B.p T.p (fun w' hb=>(HS5.out w' hb).pm) x HXI.out rfl rfl _ HE1.out ?_;go_big_quiet_on;simp only [Act.put,zS,zA,zB])
    | (go_big_quiet_want;refine zej _ rfl y qa qc HE2.out rfl ?_;go_big_quiet_on;simp only [Act.put,zS,zA,zB])
    | go_big_quiet_step ((intro hs';rfl)))
   refine wpQuiet_nil ?_
   intro w6 hs6
   have HB6:=Lib.hid (HB5.out.trans (hs6.mono HB5.out.size))
   clear hs6
   obtain ⟨D2,hD2⟩:∃ D2,(if D < y.depth then y.depth else D) = D2:=⟨_,rfl⟩
   have HN2:=Shut.mk (HNX.out.trans hD2)
   have hD3:max D y.depth = D2:=by rw [← hD2];split <;> omega
   first | rw [hD2] | rw [hD3]
   clear hD2 hD3 HNX
   go_wp2_with fail
   exact ⟨⟨k + 1,by omega,by go_num,by rw [HN2.out],HB6.out⟩,by simp [intOf];omega⟩
  ·obtain rfl:k = m:=by omega
   have HR:=Shut.mk (show z4a s.ops P = D by rw [← HD.out,List.take_of_length_le (by rw [HM.out];exact Nat.le_refl _)])
   go_wp2_with fail
   go_ret
   exact ⟨by rw [HR.out];rfl,HB.out⟩
theorem zfg (X:Nat → Prop) (B:Bs) (T:Ents) (s:DagN) (hs:List (List Nat)) (M:Bh) (o:OpN) (pa:Option Addr) (pc:Nat) (w:World) (h:SetAt X B T s hs M w) (ho:o.d.ref.length = 32) (hP:Ids o.preds) (hp:IAt pa o.preds w) (hq:o.preds.length ≤ 1000000) (hro:∀ x ∈ s.ops,x.d.ref.length = 32) (hsh:s.Shallow) (hb:s.ops.length ≤ 1000000) :
 Calls Tryz.prog 47 #[.pointer (some ⟨B.gs,0,none⟩),.agg (opV o pa pc)] w fun e w'=>e = .returned (.bool (decide (o.depth = z1h s.ops o))) ∧ Below w.heap.size w w':=by
 have b1:Below w.heap.size w (w.alloc (.cells (opV o pa pc) 38)):=(Below.refl _ _).alloc (Nat.le_refl _) _
 have x1:Cells w.heap.size 38 (opV o pa pc) (w.alloc (.cells (opV o pa pc) 38)):=heap_alloc_new w _
 have HB:=Lib.hid b1
 have HX:=Lib.hid x1
 obtain ⟨m,hm⟩:∃ m,o.preds.length = m:=⟨_,rfl⟩
 have HD:=Lib.hid (fun w1 (b:Below w.heap.size w w1)=>zde X B T s hs M o.preds pa m pc w1 (h.below b) hP (hp.below b) hm (hm ▸ hq) hro hsh hb)
 have HE:=Shut.mk (show z1h s.ops o = z4a s.ops o.preds + 1 from rfl)
 obtain ⟨DD,hDD⟩:∃ DD,z1h s.ops o = DD:=⟨_,rfl⟩
 rw [hDD] at HE ⊢
 rw [← HE.out] at HD
 have HO:=Lib.hid ho
 have HM:=Shut.mk hm
 clear h b1 x1 hp ho hP hm hro hsh hb hq HE hDD
 go_enter Tryz.func47,Tryz.ntmps47
 go_upto_region 1 with (fail)
 obtain ⟨w1,hw1⟩:∃ x,x = w.alloc (.cells (opV o pa pc) 38):=⟨_,rfl⟩
 rw [← hw1] at HB HX ⊢
 clear hw1
 have HC36:=Lib.hid (fun w' (hb:Below w1.heap.size w1 w')=>(z0k HO.out (HX.out.below hb)).2.2.1)
 have HC37:=Lib.hid (fun w' (hb:Below w1.heap.size w1 w')=>(z0k HO.out (HX.out.below hb)).2.2.2)
 rw [HM.out] at HC37
 have HD1:=Lib.hid (fun w' (hb:Below w1.heap.size w1 w')=>HD.out w' (HB.out.trans (hb.mono HB.out.size)))
 refine z08 (fun w'=>Below w1.heap.size w1 w') 7 (by kernel_rfl) (by kernel_rfl) (Below.refl _ _).drew ?_
 simp only [zC,zD,zE,zF]
 repeat (first
  | (go_big_quiet_want;refine z02 3 _ rfl ⟨w.heap.size,36,none⟩ _ rfl HC36.out Tryz.isAgg3 ?_;go_big_quiet_on;simp only [Act.put,zS,zA,zB])
  | (go_big_quiet_want;refine z02 34 _ rfl ⟨w.heap.size,37,none⟩ _ rfl HC37.out Tryz.isAgg34 ?_;go_big_quiet_on;simp only [Act.put,zS,zA,zB])
  | go_big_quiet_step ((intro hs';first
   | (go_at_call 58;exact (HD1.out _ hs').mono fun e w' h=>⟨h.1,hs'.trans (h.2.mono hs'.size)⟩)
   | rfl)))
 refine wpQuiet_nil ?_
 intro w6 hs6
 have HB6:=Lib.hid (HB.out.trans (hs6.mono HB.out.size))
 clear hs6
 go_wp2_with fail
 go_ret
 exact ⟨by congr 2,HB6.out⟩
theorem ze9 {P:Program} {o:Oper} {a:Act} {w:World} {K:Act → World → Prop} {Q:Exit → Act → World → Prop} (m x:Operand) (T:TypeId) (ho:o.op = .mapEntry T m x) (b:Nat) (n:List Nat) (r:Value) (C:World → Prop) (hr:∃ w',(Instr.mapEntry T (.map (some b)) (idV n)).run P w = .ok r w' ∧ C w')
 (hm:a.eval m = .map (some b)) (hx:a.eval x = idV n) (h:∀ w',C w' → K (a.put o.dst r) w'):OpWp P o a w K Q:=by
 refine ⟨?_⟩
 obtain ⟨w',h1,h2⟩:=hr
 unfold Oper.wp execOp
 simp only [ho,hm,hx,h1,Sem.run_bind,Sem.run_pure,Result.andThen_ok]
 exact h w' h2
theorem Blk.only {O:Nat → Prop} {g:Nat} {t:TypeId} {k:IntKind} {l:List Nat} {w w':World} (h:Blk g t k l w) (ho:Only O w w') (hb:¬ O g):Blk g t k l w':=(ho.block g h.lt hb).trans h
structure WtI (w1:World) (bb:Nat) (L:List (List Nat × Value)) (p n:List Nat) (r:Value) (l:List (List Nat)) (born:Int) (s:Nat → Bool) (V:Nat → Value) (w:World):Prop where
 on:Only (fun b=>r.ownBlock = some b ∨ b = bb) w1 w
 lit:s 6 = true → ∃ g,V 6 = .slice (some ⟨g,0,none⟩) 1 1 ∧ w1.heap.size ≤ g ∧ Blk g 25 .u8 n w
 map0:s 7 = false → w.heap[bb]? = w1.heap[bb]?
 map1:s 7 = true → V 7 = .tuple #[r,.int .i64 born] ∧ MapE bb (zfl L (.slice none 0 0) p) p born w
 row0:s 9 = false → OwnI 0 25 r l w
 row1:s 9 = true → OwnI 0 25 (V 9) (l ++ [n]) w ∧ Moved (V 9) r w1
section
variable {w1 w w':World} {bb:Nat} {L:List (List Nat × Value)} {p n:List Nat} {r:Value} {l:List (List Nat)} {born:Int} {s:Nat → Bool} {V:Nat → Value}
theorem WtI.none (h2:OwnI 0 25 r l w1):WtI w1 bb L p n r l born (fun _=>false) V w1.drew :=
 ⟨Only.of (Below.refl _ _).drew,(fun h=>by cases h),fun _=>rfl,(fun h=>by cases h),fun _=>h2.below (Below.refl _ _).drew,(fun h=>by cases h)⟩
theorem z0y {s:Nat → Bool} {i k:Nat} (h:i ≠ k) (b:Bool):((s i || i == k) = b) = (s i = b):=by rw [beq_false_of_ne h,Bool.or_false]
theorem WtI.ne {k:Nat} {u:Value} (h:WtI w1 bb L p n r l born s V w) (h6:6 ≠ k) (h7:7 ≠ k) (h9:9 ≠ k):WtI w1 bb L p n r l born (fun i=>s i || i == k) (upd V k u) w:=by
 refine ⟨h.on,fun hs=>?_,fun hs=>?_,fun hs=>?_,fun hs=>?_,fun hs=>?_⟩
 ·rw [z1r V u h6];exact h.lit (by rwa [z0y h6] at hs)
 ·exact h.map0 (by rwa [z0y h7] at hs)
 ·rw [z1r V u h7];exact h.map1 (by rwa [z0y h7] at hs)
 ·exact h.row0 (by rwa [z0y h9] at hs)
 ·rw [z1r V u h9];exact h.row1 (by rwa [z0y h9] at hs)
theorem WtI.made (h:WtI w1 bb L p n r l born s V w) (hbb:bb < w1.heap.size) (hb:Below w.heap.size w w') (hg:Blk w.heap.size 25 .u8 n w'):WtI w1 bb L p n r l born (fun i=>s i || i == 6) (upd V 6 (.slice (some ⟨w.heap.size,0,Option.none⟩) 1 1)) w':=by
 refine ⟨h.on.below hb,fun _=>⟨w.heap.size,z28 _ _ _,h.on.size,hg⟩,fun hs=>?_,fun hs=>?_,fun hs=>?_,fun hs=>?_⟩
 ·exact (hb.block bb (Nat.lt_of_lt_of_le hbb h.on.size)).trans (h.map0 (by rwa [z0y (by decide)] at hs))
 ·obtain ⟨e1,e2⟩:=h.map1 (by rwa [z0y (by decide)] at hs)
  exact ⟨by rw [z1r V _ (by decide)];exact e1,e2.only (Only.of (O:=fun _=>False) hb) id⟩
 ·exact (h.row0 (by rwa [z0y (by decide)] at hs)).below hb
 ·obtain ⟨e1,e2⟩:=h.row1 (by rwa [z0y (by decide)] at hs)
  rw [z1r V _ (by decide)]
  exact ⟨e1.below hb,e2⟩
theorem WtI.entry (h:WtI w1 bb L p n r l born s V w) (hbb:bb < w1.heap.size) (hL:MapN bb L w) (k:Only (fun x=>x = bb) w w') (hm:MapE bb (zfl L (.slice Option.none 0 0) p) p born w'):WtI w1 bb L p n r l born (fun i=>s i || i == 7) (upd V 7 (.tuple #[r,.int .i64 born])) w':=by
 have hnr:=hL
 refine ⟨⟨k.os.trans h.on.os,k.tape.trans h.on.tape,k.output.trans h.on.output,Nat.le_trans h.on.size k.size,fun i hi hn=>(k.block i (Nat.lt_of_lt_of_le hi h.on.size) (fun e=>hn (.inr e))).trans (h.on.block i hi hn)⟩,fun hs=>?_,fun hs=>?_,fun _=>⟨z28 _ _ _,hm⟩,fun hs=>?_,fun hs=>?_⟩
 ·obtain ⟨g,e1,e2,e3⟩:=h.lit (by rwa [z0y (by decide)] at hs)
  exact ⟨g,by rw [z1r V _ (by decide)];exact e1,e2,e3.only k (by omega)⟩
 ·simp at hs
 ·have hr:=h.row0 (by rwa [z0y (by decide)] at hs)
  exact hr.only k (fun g hg e=>hnr.notRow hr (e ▸ hg))
 ·obtain ⟨e1,e2⟩:=h.row1 (by rwa [z0y (by decide)] at hs)
  rw [z1r V _ (by decide)]
  exact ⟨e1.only k (fun g hg e=>hnr.notRow e1 (e ▸ hg)),e2⟩
theorem WtI.push {v:Value} (h:WtI w1 bb L p n r l born s V w) (hbb:bb < w1.heap.size) (hrl:∀ b,r.ownBlock = some b → b < w1.heap.size) (k:w.grownBy w' r.ownBlock) (hv:OwnI 0 25 v (l ++ [n]) w') (hl:v.ownBlock = r.ownBlock ∨ v.ownBlock = some w.heap.size) (hbr:r.ownBlock ≠ some bb):WtI w1 bb L p n r l born (fun i=>s i || i == 9) (upd V 9 v) w':=by
 have ko:Only (fun b=>r.ownBlock = some b) w w':=(Only.refl _ w).grown k (fun b hb=>.inl hb)
 refine ⟨⟨ko.os.trans h.on.os,ko.tape.trans h.on.tape,ko.output.trans h.on.output,Nat.le_trans h.on.size ko.size,fun i hi hn=>(ko.block i (Nat.lt_of_lt_of_le hi h.on.size) (fun e=>hn (.inl e))).trans (h.on.block i hi hn)⟩,fun hs=>?_,fun hs=>?_,fun hs=>?_,fun hs=>?_,fun _=>?_⟩
 ·obtain ⟨g,e1,e2,e3⟩:=h.lit (by rwa [z0y (by decide)] at hs)
  exact ⟨g,by rw [z1r V _ (by decide)];exact e1,e2,e3.only ko (fun e=>by have:=hrl g e;omega)⟩
 ·exact (ko.block bb (Nat.lt_of_lt_of_le hbb h.on.size) hbr).trans (h.map0 (by rwa [z0y (by decide)] at hs))
 ·obtain ⟨e1,e2⟩:=h.map1 (by rwa [z0y (by decide)] at hs)
  exact ⟨by rw [z1r V _ (by decide)];exact e1,e2.only ko hbr⟩
 ·simp at hs
 ·rw [z28]
  exact ⟨hv,Moved.of hl h.on.size⟩
theorem zg5 {o:Oper} {a:Act} {w:World} {K:Act → World → Prop} {Q:Exit → Act → World → Prop} (hg:o.guard = Option.none) (z:Operand) (t:TypeId) (ht:Tryz.prog.underlying t = some (.slice 25)) (ho:o.op = .buildSlice t 1 #[(0,z)]) (y:List Nat) (hy:y.length = 32) (hz:a.eval z = .agg (z06 .u8 y).toArray)
 (h:∀ w',Below w.heap.size w w' → Blk w.heap.size 25 .u8 y w' → K (a.put o.dst (.slice (some ⟨w.heap.size,0,Option.none⟩) 1 1)) w'):OpWp Tryz.prog o a w K Q :=
 z1i (ops:=#[]) hg (z17 hg t 25 z ho y hz hy ht Tryz.infoI32 (fun w' h1 h2=>⟨rfl,h w' h2.out h1.out⟩))
end
def WaitPost (X:Nat → Prop) (B:Bs) (T:Ents) (s:DagN) (W':List OpN) (hs:List (List Nat)) (M:Bh) (n:List Nat) (o:OpN) (val:Value) (w:World) (e:Ending) (w':World):Prop :=
 (z1f s.names o = true ∧ e = .returned (.bool false) ∧ Below w.heap.size w w') ∨
 ∃ p v,p ∈ o.preds ∧ p ∉ s.names ∧ e = .returned (.bool true) ∧ SetAt X B ⟨T.p,z2v T.w n val,z2v T.b p v⟩ ⟨s.ops,W'⟩ hs (z2v M p (atB M p ++ [n])) w' ∧ Turn (SetO B T) (SetO B ⟨T.p,z2v T.w n val,z2v T.b p v⟩) w w'
theorem zfd (X:Nat → Prop) (B:Bs) (T:Ents) (s:DagN) (hs:List (List Nat)) (M:Bh) (n:List Nat) (o:OpN) (pa:Option Addr) (pc:Nat) (W':List OpN) (w:World) (h:SetAt X B T s hs M w) (hX:∀ b,w.heap.size ≤ b → X b) (hn:IdOk n) (ho:o.d.ref.length = 32) (hP:Ids o.preds) (hp:IAt pa o.preds w) (hq:o.preds.length ≤ 1000000)
 (hE:EntsO X W' (z2v T.w n (.agg (opV o pa pc))) w) (hro:∀ x ∈ s.ops,x.d.ref.length = 32) (hl:∀ q,(atB M q).length ≤ 100000) :
 Calls Tryz.prog 46 #[.pointer (some ⟨B.gs,0,none⟩),.agg (z06 .u8 n).toArray,.agg (opV o pa pc)] w fun e w'=>WaitPost X B T s W' hs M n o (.agg (opV o pa pc)) w e w':=by
 have HLK:=Lib.hid (fun n=>z3z h.ops h.pm.nodup hro n)
 have HX0:=Lib.hid hX
 have HE:=Lib.hid hE
 have HL:=Lib.hid hl
 have HN:=Lib.hid hn
 have HO:=Lib.hid ho
 have HPI:=Lib.hid hP
 have hgs:=h.cells.lt
 have a1:Below w.heap.size w (w.alloc (.cells (z06 .u8 n).toArray 25)):=(Below.refl _ _).alloc (Nat.le_refl _) _
 have x1:Blk w.heap.size 25 .u8 n (w.alloc (.cells (z06 .u8 n).toArray 25)):=heap_alloc_new w _
 have s1:(w.alloc (.cells (z06 .u8 n).toArray 25)).heap.size = w.heap.size + 1:=World.size_alloc _ _
 have HSN:=Lib.hid (show (Tryz.prog.info? 25).map (·.size) = some n.length by rw [hn.1];exact Tryz.sizeI)
 have HSO:=Lib.hid (show (Tryz.prog.info? 38).map (·.size) = some (opV o pa pc).size by rw [z07 ho];exact Tryz.sizeO)
 have HW0:=Lib.hid h
 obtain ⟨m,hm⟩:∃ m,o.preds.length = m:=⟨_,rfl⟩
 have HM:=Shut.mk hm
 rw [hm] at hq
 go_enter Tryz.func46,Tryz.ntmps46
 go_upto_region 1 with (fail)
 obtain ⟨w1,hw1⟩:∃ x,x = w.alloc (.cells (z06 .u8 n).toArray 25):=⟨_,rfl⟩
 rw [← hw1] at a1 x1 s1 ⊢
 have a2:Below w1.heap.size w1 (w1.alloc (.cells (opV o pa pc) 38)):=(Below.refl _ _).alloc (Nat.le_refl _) _
 have x2:Cells w1.heap.size 38 (opV o pa pc) (w1.alloc (.cells (opV o pa pc) 38)):=heap_alloc_new w1 _
 obtain ⟨w2,hw2⟩:∃ x,x = w1.alloc (.cells (opV o pa pc) 38):=⟨_,rfl⟩
 rw [← hw2] at a2 x2 ⊢
 have hB:=a1.trans (a2.mono a1.size)
 have x12:=x1.below a2
 obtain ⟨g4,hg4⟩:∃ g,w.heap.size = g:=⟨_,rfl⟩
 rw [s1,hg4] at x2
 obtain ⟨g5,hg5⟩:∃ g,g4 + 1 = g:=⟨_,rfl⟩
 rw [hg4] at x12 ⊢
 rw [hg5] at x2 ⊢
 have HB:=Lib.hid hB
 have H4:=Lib.hid x12
 have H5:=Lib.hid x2
 have HS:=Lib.hid (h.below hB)
 have HPA:=Lib.hid (hp.below hB)
 have HG4:=Lib.hid hg4
 have HG5:=Lib.hid (show w.heap.size < g5 by omega)
 obtain ⟨_,_,_,c37⟩:=z0k HO.out H5.out
 rw [hm] at c37
 clear a1 a2 x1 x2 s1 hw1 hw2 hB x12 hg4 hg5 h hX hE hl hn ho hP hp hro hm hgs
 go_wp2_with fail
 clear c37
 go_loopw [14] (fun i wr=>∃ k:Nat,k ≤ m ∧ i = .int .i64 k ∧ (∀ j,j < k → o.preds.getD j [] ∈ s.names) ∧ Below w2.heap.size w2 wr) (fun i _=>m - (intOf i).toNat)
 case atStart=>exact ⟨0,Nat.zero_le _,rfl,fun j hj=>by omega,Below.refl _ _⟩
 case round =>
  obtain ⟨k,hk,rfl,hj,hbw⟩:=hrel
  have HJ:=Lib.hid hj
  have HBR:=Lib.hid hbw
  have HPW:=Lib.hid (HPA.out.below hbw)
  clear hj hbw
  by_cases hlt:k < m
  ·obtain ⟨b,ob,rfl,hbl⟩:=HPW.out.some (by rw [HM.out];omega)
   have gx:=HPW.out.get (i:=k) (by rw [HM.out];omega)
   have i1:=Ids.getD HPI.out (i:=k) (by rw [HM.out];omega)
   have hmem:o.preds.getD k [] ∈ o.preds:=by
    rw [List.getD_eq_getElem?_getD,List.getElem?_eq_getElem (by rw [HM.out];exact hlt)]
    exact List.getElem_mem _
   obtain ⟨x,hx⟩:∃ x,o.preds.getD k [] = x:=⟨_,rfl⟩
   rw [hx] at gx i1 hmem
   have HXE:=Shut.mk hx
   have HXI:=Lib.hid (show IdOk x from i1)
   have HXM:=Lib.hid hmem
   have HG1:=Lib.hid gx
   have HS1:=Lib.hid (show (Tryz.prog.info? 25).map (·.size) = some x.length by rw [i1.1];exact Tryz.sizeI)
   have HL2:=Lib.hid (show (List.replicate 32 0).length = x.length by rw [i1.1];rfl)
   obtain ⟨y,qa,qc,e1,e2,e3,_⟩:=HLK.out x
   obtain ⟨zb,hzb⟩:∃ zb,decide (x ∈ s.names) = zb:=⟨_,rfl⟩
   rw [show decide (x ∈ s.ops.map z0a) = zb from hzb] at e2
   obtain ⟨Z,hZ⟩:∃ Z,opV y qa qc = Z:=⟨_,rfl⟩
   have HZB:=Shut.mk hzb
   have HZ:=Shut.mk (show Value.tuple #[atE T.p (.agg (opV z05 none 0)) x,.bool (decide (x ∈ T.p.map (·.1)))] = .tuple #[.agg Z,.bool zb] by rw [e1,e2,hZ])
   have HI1:=Lib.hid (show (Tryz.prog.info? 38).map (·.size) = some Z.size by rw [← hZ,z07 e3];exact Tryz.sizeO)
   have HL1:=Lib.hid (show (opV z05 none 0).size = Z.size by rw [← hZ,z07 e3];rfl)
   have HA1:=Lib.hid (show Z.all (·.oneCell') = true by rw [← hZ];exact z9x _ _ _)
   clear hx gx i1 hbl e1 e2 e3 hzb hZ hmem
   go_wp2_with (first
    | (refine z0b rfl 25 _ rfl b (ob + k * 32) x _ rfl HG1.out Tryz.underlying25 rfl HS1.out ?_)
    | (refine z04 rfl 25 _ _ rfl rfl wr.heap.size .u8 (List.replicate 32 0) x 25 rfl rfl (heap_alloc_new wr _) HS1.out HL2.out ?_))
   intro w5 hc' hb'
   have HB5a:=Lib.hid (show Below wr.heap.size wr w5 from But.toBelow ((Below.refl _ _).alloc (Nat.le_refl _) _) hb'.out (Nat.le_refl _) (by rw [World.size_alloc];exact Nat.le_succ _))
   have HB5:=Lib.hid (HBR.out.trans (HB5a.out.mono HBR.out.size))
   have HS5:=Lib.hid (HS.out.below HB5.out)
   obtain ⟨g8,hg8⟩:∃ g,wr.heap.size = g:=⟨_,rfl⟩
   have HC5:=Lib.hid (show Blk g8 25 .u8 x w5 from hg8 ▸ hc'.out)
   have HG8:=Lib.hid (show w2.heap.size ≤ g8 from hg8 ▸ HBR.out.size)
   rw [hg8]
   clear hc' hb' hg8 HG1
   go_upto_region 4 with (fail)
   refine z0f 11 (fun q V w'=>Val q V 0 (.pointer (some ⟨B.gs,0,none⟩)) ∧ Val q V 1 (.pointer (some ⟨B.gs,0,none⟩)) ∧ Val q V 2 (.pointer (some ⟨B.gs,0,none⟩)) ∧ Val q V 3 (.map (some B.p)) ∧ Val q V 4 (.agg (z06 .u8 x).toArray) ∧ Val q V 5 (.tuple #[.agg Z,.bool zb]) ∧ Val q V 6 (.tuple #[.agg Z,.bool zb]) ∧ Val q V 7 (.agg Z) ∧ Val q V 8 (.bool zb) ∧ PutC q V w5.heap.size 9 10 38 (opV z05 none 0) (Z) w' ∧ Below w5.heap.size w5 w' ∧ Late q 9 10) (fun | 0=>u19 | 1=>u20 | 2=>u21 | 3=>u22 | 4=>u23 | 5=>u24 | 6=>u18 | 7=>u25 | 8=>u26 | 9=>u9 | 10=>undef | _=>undef) (by kernel_rfl) (by kernel_rfl) (by kernel_rfl) (by simp only [zC,zD,z0i,Act.put,zS,zA,zB]) ⟨Val.none,Val.none,Val.none,Val.none,Val.none,Val.none,Val.none,Val.none,Val.none,PutC.none,(Below.refl _ _).drew,Late.none⟩ ?_ ?_
   ·simp only [zC,zD,z0i,Nat.zero_add,Nat.reduceAdd,Act.put,zS,zA,zB]
    refine zQc ?_ (zQc ?_ (zQc ?_ (zQc ?_ (zQc ?_ (zQc ?_ (zQc ?_ (zQc ?_ (zQc ?_ (zQc ?_ (zQc ?_ (zQn)))))))))))
    all_goals (refine zQf rfl ?_;rintro q V wq hr hu ⟨h0,h1,h2,h3,h4,h5,h6,h7,h8,h9,hb,hl9⟩ K hK)
    ·exact z0h (.tmp 0) rfl _ rfl (hK _ _ ⟨.same,h1.nd,h2.nd,h3.nd,h4.nd,h5.nd,h6.nd,h7.nd,h8.nd,h9.ne (by decide) (by decide) (Below.refl _ _),hb,hl9.nd⟩)
    ·exact z0m (.tmp 19) rfl ⟨B.gs,0,none⟩ (h0 (hr { on:=0,ground:=.data } (by simp) rfl)) (hK _ _ ⟨h0.nd,.same,h2.nd,h3.nd,h4.nd,h5.nd,h6.nd,h7.nd,h8.nd,h9.ne (by decide) (by decide) (Below.refl _ _),hb,hl9.nd⟩)
    ·exact z0l 80 (.tmp 20) 0 rfl _ _ (h1 (hr { on:=1,ground:=.data } (by simp) rfl)) (z4m B.gs 0 (by decide)) (hK _ _ ⟨h0.nd,h1.nd,.same,h3.nd,h4.nd,h5.nd,h6.nd,h7.nd,h8.nd,h9.ne (by decide) (by decide) (Below.refl _ _),hb,hl9.nd⟩)
    ·exact z0o 76 (.tmp 21) rfl _ _ (h2 (hr { on:=2,ground:=.data } (by simp) rfl)) (HS5.out.below hb).cell.1 Tryz.isAgg76 (hK _ _ ⟨h0.nd,h1.nd,h2.nd,.same,h4.nd,h5.nd,h6.nd,h7.nd,h8.nd,h9.ne (by decide) (by decide) (Below.refl _ _),hb,hl9.nd⟩)
    ·exact z16 25 (.tmp 8) rfl g8 .u8 x 25 _ rfl (HC5.out.below hb) Tryz.underlying25 rfl HS1.out (hK _ _ ⟨h0.nd,h1.nd,h2.nd,h3.nd,.same,h5.nd,h6.nd,h7.nd,h8.nd,h9.ne (by decide) (by decide) (Below.refl _ _),hb,hl9.nd⟩)
    ·exact z3d (.tmp 22) (.tmp 23) 76 25 38 true rfl Tryz.idKey Tryz.underlying76 (.agg (opV z05 none 0)) (z6r wq) B.p T.p (HS5.out.below hb).pm x HXI.out (h3 (hr { on:=3,ground:=.data } (by simp) rfl)) (h4 (hr { on:=4,ground:=.data } (by simp) rfl)) _ (by rw [HZ.out];rfl) (hK _ _ ⟨h0.nd,h1.nd,h2.nd,h3.nd,h4.nd,.same,h6.nd,h7.nd,h8.nd,h9.ne (by decide) (by decide) (Below.refl _ _),hb,hl9.nd⟩)
    ·exact z0h (.tmp 24) rfl _ (h5 (hr { on:=5,ground:=.data } (by simp) rfl)) (hK _ _ ⟨h0.nd,h1.nd,h2.nd,h3.nd,h4.nd,h5.nd,.same,h7.nd,h8.nd,h9.ne (by decide) (by decide) (Below.refl _ _),hb,hl9.nd⟩)
    ·exact z20 (.tmp 18) 0 rfl _ _ (h6 (hr { on:=6,ground:=.data } (by simp) rfl)) (z8z _ _) (hK _ _ ⟨h0.nd,h1.nd,h2.nd,h3.nd,h4.nd,h5.nd,h6.nd,.same,h8.nd,h9.ne (by decide) (by decide) (Below.refl _ _),hb,hl9.nd⟩)
    ·exact z20 (.tmp 18) 1 rfl _ _ (h6 (hr { on:=6,ground:=.data } (by simp) rfl)) (z8y _ _) (hK _ _ ⟨h0.nd,h1.nd,h2.nd,h3.nd,h4.nd,h5.nd,h6.nd,h7.nd,.same,h9.ne (by decide) (by decide) (Below.refl _ _),hb,hl9.nd⟩)
    ·exact z2s 38 rfl (opV z05 none 0) z4f (hK _ _ ⟨h0.nd,h1.nd,h2.nd,h3.nd,h4.nd,h5.nd,h6.nd,h7.nd,h8.nd,PutC.made hb.size (hl9.not hu) (by decide),hb.alloc hb.size _,hl9.nd⟩)
    ·obtain ⟨g,hV,hg0,hc0⟩:=h9 (hr { on:=9,ground:=.data } (by simp) rfl)
     rw [if_neg (by rw [hu];decide)] at hc0
     refine z1z 38 (.tmp 9) (.tmp 25) rfl g _ (Z) 38 hV (h7 (hr { on:=7,ground:=.data } (by simp) rfl)) hc0 HI1.out HL1.out HA1.out ?_
     intro w' hc' hbt
     have hbn:=But.toBelow hb hbt hg0 hb.size
     exact (hK _ _ ⟨h0.nd,h1.nd,h2.nd,h3.nd,h4.nd,h5.nd,h6.nd,h7.nd,h8.nd,PutC.stored hV hg0 (by decide) hc',hbn,Late.same (hr { on:=9,ground:=.data } (by simp) rfl)⟩)
   rintro q V wq hall ⟨h0,h1,h2,h3,h4,h5,h6,h7,h8,h9,hb,hl9⟩
   have v0:=h0 (hall 0 (by decide))
   have v1:=h1 (hall 1 (by decide))
   have v2:=h2 (hall 2 (by decide))
   have v3:=h3 (hall 3 (by decide))
   have v4:=h4 (hall 4 (by decide))
   have v5:=h5 (hall 5 (by decide))
   have v6:=h6 (hall 6 (by decide))
   have v7:=h7 (hall 7 (by decide))
   have v8:=h8 (hall 8 (by decide))
   obtain ⟨g9,v9,hg9,hc9⟩:=h9 (hall 9 (by decide))
   rw [if_pos (hall 10 (by decide))] at hc9
   obtain ⟨u10,v10⟩:∃ v,V 10 = v:=⟨_,rfl⟩
   simp only [zC,zD,zE,zF,z0i,Nat.zero_add,Nat.reduceAdd,v0,v1,v2,v3,v4,v5,v6,v7,v8,v9,Act.put,zS,zA,zB]
   clear h0 h1 h2 h3 h4 h5 h6 h7 h8 v0 v1 v2 v3 v4 v5 v6 v7 v8 v9 v10 hall hl9
   have HC6:=Lib.hid (HC5.out.below hb)
   have HB6:=Lib.hid (HB5.out.trans (hb.mono HB5.out.size))
   clear hb hc9 hg9 HC5 HS5 HB5 HB5a HPW HBR
   obtain ⟨w6,hw6⟩:∃ x,x = wq:=⟨_,rfl⟩
   rw [← hw6] at HC6 HB6 ⊢
   clear hw6
   cases zb with
   | true =>
     have HIN:=Lib.hid (of_decide_eq_true HZB.out)
     clear HZB
     go_wp2_with fail
     refine ⟨⟨k + 1,by omega,by go_num,fun i hi=>?_,HB6.out⟩,by simp [intOf];omega⟩
     by_cases hqj:i = k
     ·subst hqj
      rw [HXE.out]
      exact HIN.out
     ·exact HJ.out i (by omega)
   | false =>
     have HNI:=Lib.hid (of_decide_eq_false HZB.out)
     clear HZB
     have HS6:=Lib.hid (HS.out.below HB6.out)
     have HBW6:=Lib.hid (HB.out.trans (HB6.out.mono HB.out.size))
     go_upto_region 6 with (fail)
     have HCE:=Lib.hid (fun w' (hb:Below w6.heap.size w6 w')=>(HS6.out.below hb).cell.2.1)
     have HI4:=Lib.hid (fun w' (hb:Below w6.heap.size w6 w')=>(H4.out.below HB6.out).below hb)
     have HI5:=Lib.hid (fun w' (hb:Below w6.heap.size w6 w')=>(H5.out.below HB6.out).below hb)
     refine z08 (fun w'=>Below w6.heap.size w6 w') 6 (by kernel_rfl) (by kernel_rfl) (Below.refl _ _).drew ?_
     simp only [zC,zD,zE,zF]
     repeat (first
      | (go_big_quiet_want;refine z02 76 _ rfl ⟨B.gs,1,none⟩ _ rfl HCE.out Tryz.isAgg76 ?_;go_big_quiet_on;simp only [Act.put,zS,zA,zB])
      | (go_big_quiet_want;refine z0q 25 _ rfl g4 .u8 n 25 _ rfl HI4.out Tryz.underlying25 rfl HSN.out ?_;go_big_quiet_on;simp only [Act.put,zS,zA,zB])
      | (go_big_quiet_want;refine z0n 38 _ rfl g5 _ 38 _ rfl HI5.out Tryz.underlying38 rfl HSO.out ?_;go_big_quiet_on;simp only [Act.put,zS,zA,zB])
      | go_big_quiet_step ((intro hs';rfl)))
     refine wpQuiet_nil ?_
     intro w61 hs61
     have HS61:=Lib.hid (HS6.out.below hs61)
     have HBW61:=Lib.hid (HBW6.out.trans (hs61.mono HBW6.out.size))
     have HE61:=Lib.hid (HE.out.below HBW61.out)
     have HWM:=Lib.hid HS61.out.wm
     have HB4:=Lib.hid ((H4.out.below HB6.out).below hs61)
     have HB8:=Lib.hid (HC6.out.below hs61)
     clear hs61 HCE HI4 HI5 HC6 HS6 HBW6
     go_wp2_with (refine z3f rfl _ _ _ 76 25 38 rfl Tryz.idKey Tryz.underlying76 B.w T.w HWM.out n HN.out _ rfl rfl rfl ?_)
     intro w7 hm7 ho7
     obtain ⟨hs7,ht7⟩:=HS61.out.putW ho7.out hm7.out HE61.out
     have HS7:=Lib.hid hs7
     have HT7:=Lib.hid ((Turn.of HBW61.out).trans ht7)
     have hg4w:w.heap.size = g4:=HG4.out
     have hbw:B.w < w.heap.size:=HW0.out.wm.lt
     have HBK4:=Lib.hid (HB4.out.only ho7.out (fun e=>by omega))
     have HBK8:=Lib.hid (HB8.out.only ho7.out (fun e=>by have:=HG8.out;have:=HB.out.size;omega))
     clear hm7 ho7 hs7 ht7 HB4 HB8 HS61 HBW61 HE61 HWM hg4w hbw
     obtain ⟨hr1,hr2,hr3⟩:=HS7.out.beh.row HS7.out.bm.nodup x
     obtain ⟨born,hme⟩:=HS7.out.bm.entryAt Tryz.idKey Tryz.underlying78 zft HXI.out
     have hln:=HL.out x
     obtain ⟨R,hR⟩:∃ R,atE T.b (.slice none 0 0) x = R:=⟨_,rfl⟩
     obtain ⟨L,hL⟩:∃ L,atB M x = L:=⟨_,rfl⟩
     rw [hL] at hr1 hr3 hln
     have hRE:atE (Ents.mk T.p (z2v T.w n (.agg (opV o (some ⟨b,ob,none⟩) pc))) T.b).b (.slice none 0 0) x = R:=hR
     rw [hRE] at hr1 hr2 hme
     have HR:=Shut.mk hR
     have HLL:=Shut.mk hL
     have HRO:=Lib.hid hr1
     have HRX:=Lib.hid (fun b' hb'=>(hr2 b' hb').1)
     have HRW:=Lib.hid (fun b' (hb':R.ownBlock = some b')=>show b' < w.heap.size from by
      obtain ⟨q,v,hm,hv⟩:=(hr2 b' hb').2
      exact (SetO.x HW0.out (.inr (.inr (.inr (.inr (.inr ⟨q,v,hm,hv⟩)))))).2)
     have HRB:=Lib.hid (show R.ownBlock ≠ some B.b from fun e=>by
      obtain ⟨q,v,hm,hv⟩:=(hr2 _ e).2
      exact (HW0.out.rowne hm).2.2.2.2 hv)
     have HRG:=Lib.hid (show R.ownBlock ≠ some B.gs from fun e=>by
      obtain ⟨q,v,hm,hv⟩:=(hr2 _ e).2
      exact (HW0.out.rowne hm).1 hv)
     have HRL:=Lib.hid (fun b' (hb':R.ownBlock = some b')=>show b' < w7.heap.size from Nat.lt_of_lt_of_le (HRW.out b' hb') HT7.out.only.size)
     have HLI:=Lib.hid hr3
     have HLN:=Lib.hid (show L.length + [n].length ≤ 1000000 by simp;omega)
     have HME:=Lib.hid hme
     have HBL:=Lib.hid HS7.out.bm.lt
     have HMW:=Lib.hid (fun (w2:World) (e:w2.heap[B.b]? = w7.heap[B.b]?)=>show MapN B.b T.b w2 from by
      obtain ⟨es,clock,h1,h2⟩:=HS7.out.bm.ex
      exact ⟨⟨es,clock,e.trans h1,h2⟩,HS7.out.bm.ok,HS7.out.bm.nodup⟩)
     have HCF:=Lib.hid (fun (w2:World) (k:Only (fun b=>R.ownBlock = some b ∨ b = B.b) w7 w2)=>show w2.cell? ⟨B.gs,3,none⟩ = some (.map (some B.b)) from by
      rw [(HS7.out.cells.only k (fun e=>e.elim HRG.out HS7.out.gsne.2.2.2)).at 3]
      rfl)
     have hg4w:w.heap.size = g4:=HG4.out
     have hbb:B.b < w.heap.size:=HW0.out.bm.lt
     have HB4:=Lib.hid (fun (w2:World) (k:Only (fun b=>R.ownBlock = some b ∨ b = B.b) w7 w2)=>HBK4.out.only k (fun e=>e.elim (fun e=>by have:=HRW.out _ e;omega) (fun e=>by omega)))
     have HB8:=Lib.hid (fun (w2:World) (k:Only (fun b=>R.ownBlock = some b ∨ b = B.b) w7 w2)=>HBK8.out.only k (fun e=>by have:=HG8.out;have:=HB.out.size;exact e.elim (fun e=>by have:=HRW.out _ e;omega) (fun e=>by omega)))
     clear hr1 hr2 hr3 hme hln hR hL hRE hg4w hbb
     go_upto_region 7 with (fail)
     refine z0f 11 (fun q V w'=>Val q V 0 (.pointer (some ⟨B.gs,0,none⟩)) ∧ Val q V 1 (.pointer (some ⟨B.gs,0,none⟩)) ∧ Val q V 2 (.pointer (some ⟨B.gs,3,none⟩)) ∧ Val q V 3 (.map (some B.b)) ∧ Val q V 4 (.agg (z06 .u8 x).toArray) ∧ Val q V 5 (.agg (z06 .u8 n).toArray) ∧ Val q V 8 (R) ∧ Val q V 10 (.int .i64 born) ∧ True ∧ WtI w7 B.b T.b x n R L born q V w') (fun | 0=>u35 | 1=>u36 | 2=>u37 | 3=>u38 | 4=>u39 | 5=>u41 | 6=>u42 | 7=>u43 | 8=>u40 | 9=>u44 | 10=>u45 | _=>undef) (by kernel_rfl) (by kernel_rfl) (by kernel_rfl) (by simp only [zC,zD,z0i,Act.put,zS,zA,zB]) ⟨Val.none,Val.none,Val.none,Val.none,Val.none,Val.none,Val.none,Val.none,trivial,WtI.none HRO.out⟩ ?_ ?_
     ·simp only [zC,zD,z0i,Nat.zero_add,Nat.reduceAdd,Act.put,zS,zA,zB]
      refine zQc ?_ (zQc ?_ (zQc ?_ (zQc ?_ (zQc ?_ (zQc ?_ (zQc ?_ (zQc ?_ (zQc ?_ (zQc ?_ (zQc ?_ (zQn)))))))))))
      all_goals (refine zQf rfl ?_;rintro q V wq hr hu ⟨h0,h1,h2,h3,h4,h5,h8,h10,hb,hw⟩ K hK)
      ·exact z0h (.tmp 0) rfl _ rfl (hK _ _ ⟨.same,h1.nd,h2.nd,h3.nd,h4.nd,h5.nd,h8.nd,h10.nd,hb,hw.ne (by decide) (by decide) (by decide)⟩)
      ·exact z0m (.tmp 35) rfl ⟨B.gs,0,none⟩ (h0 (hr { on:=0,ground:=.data } (by simp) rfl)) (hK _ _ ⟨h0.nd,.same,h2.nd,h3.nd,h4.nd,h5.nd,h8.nd,h10.nd,hb,hw.ne (by decide) (by decide) (by decide)⟩)
      ·exact z0l 80 (.tmp 36) 3 rfl _ _ (h1 (hr { on:=1,ground:=.data } (by simp) rfl)) (z4m B.gs 3 (by decide)) (hK _ _ ⟨h0.nd,h1.nd,.same,h3.nd,h4.nd,h5.nd,h8.nd,h10.nd,hb,hw.ne (by decide) (by decide) (by decide)⟩)
      ·exact z0o 78 (.tmp 37) rfl _ _ (h2 (hr { on:=2,ground:=.data } (by simp) rfl)) (HCF.out wq hw.on) Tryz.isAgg78 (hK _ _ ⟨h0.nd,h1.nd,h2.nd,.same,h4.nd,h5.nd,h8.nd,h10.nd,hb,hw.ne (by decide) (by decide) (by decide)⟩)
      ·exact z16 25 (.tmp 8) rfl g8 .u8 x 25 _ rfl (HB8.out wq hw.on) Tryz.underlying25 rfl HS1.out (hK _ _ ⟨h0.nd,h1.nd,h2.nd,h3.nd,.same,h5.nd,h8.nd,h10.nd,hb,hw.ne (by decide) (by decide) (by decide)⟩)
      ·exact z16 25 (.tmp 4) rfl g4 .u8 n 25 _ rfl (HB4.out wq hw.on) Tryz.underlying25 rfl HSN.out (hK _ _ ⟨h0.nd,h1.nd,h2.nd,h3.nd,h4.nd,.same,h8.nd,h10.nd,hb,hw.ne (by decide) (by decide) (by decide)⟩)
      ·refine zg5 rfl (.tmp 41) 34 Tryz.underlying34 rfl n HN.out.1 (h5 (hr { on:=5,ground:=.data } (by simp) rfl)) ?_
       intro w' hb' hbk
       have hbn:=trivial
       have hw6:=hw.made HBL.out hb' hbk
       exact (hK _ _ ⟨h0.nd,h1.nd,h2.nd,h3.nd,h4.nd,h5.nd,h8.nd,h10.nd,hbn,hw6⟩)
      ·refine ze9 (.tmp 38) (.tmp 39) 78 rfl B.b x (.tuple #[R,.int .i64 born]) _ (HME.out wq (hw.map0 hu)) (h3 (hr { on:=3,ground:=.data } (by simp) rfl)) (h4 (hr { on:=4,ground:=.data } (by simp) rfl)) ?_
       rintro w' ⟨hme,hk7⟩
       have hbn:=trivial
       have hw7:=hw.entry HBL.out (HMW.out wq (hw.map0 hu)) hk7 hme
       exact (hK _ _ ⟨h0.nd,h1.nd,h2.nd,h3.nd,h4.nd,h5.nd,h8.nd,h10.nd,hbn,hw7⟩)
      ·exact z20 (.tmp 43) 0 rfl _ _ (hw.map1 (hr { on:=7,ground:=.data } (by simp) rfl)).1 rfl (hK _ _ ⟨h0.nd,h1.nd,h2.nd,h3.nd,h4.nd,h5.nd,.same,h10.nd,hb,hw.ne (by decide) (by decide) (by decide)⟩)
      ·obtain ⟨g,e6,hg6,hk6⟩:=hw.lit (hr { on:=6,ground:=.data } (by simp) rfl)
       refine z33 rfl (.tmp 40) (.tmp 42) rfl 0 R L [n] (Ids.one HN.out.1 HN.out.2) (some ⟨g,0,none⟩) 1 1 rfl (h8 (hr { on:=8,ground:=.data } (by simp) rfl)) (hw.row0 hu) e6 (z4x hk6) (fun h=>by cases h) HLN.out (Nat.zero_le _) ?_
       intro v' w' ho' hg' hd'
       have hbn:=trivial
       have hw9:=hw.push HBL.out HRL.out hg' ho' hd' HRB.out
       exact (hK _ _ ⟨h0.nd,h1.nd,h2.nd,h3.nd,h4.nd,h5.nd,h8.nd,h10.nd,hbn,hw9⟩)
      ·exact z20 (.tmp 43) 1 rfl _ _ (hw.map1 (hr { on:=7,ground:=.data } (by simp) rfl)).1 rfl (hK _ _ ⟨h0.nd,h1.nd,h2.nd,h3.nd,h4.nd,h5.nd,h8.nd,.same,hb,hw.ne (by decide) (by decide) (by decide)⟩)
     rintro q V wq hall ⟨h0,h1,h2,h3,h4,h5,h8,h10,hb,hw⟩
     have v0:=h0 (hall 0 (by decide))
     have v1:=h1 (hall 1 (by decide))
     have v2:=h2 (hall 2 (by decide))
     have v3:=h3 (hall 3 (by decide))
     have v4:=h4 (hall 4 (by decide))
     have v5:=h5 (hall 5 (by decide))
     obtain ⟨u6,v6⟩:∃ v,V 6 = v:=⟨_,rfl⟩
     obtain ⟨u7,v7⟩:∃ v,V 7 = v:=⟨_,rfl⟩
     have v8:=h8 (hall 8 (by decide))
     obtain ⟨u9,v9⟩:∃ v,V 9 = v:=⟨_,rfl⟩
     have v10:=h10 (hall 10 (by decide))
     have hend:=hw
     have ht7:=(hend.map1 (hall 7 (by decide))).2
     have ht9:=hend.row1 (hall 9 (by decide))
     have hton:=hend.on
     clear hw hend
     rw [v9] at ht9
     simp only [zC,zD,zE,zF,z0i,Nat.zero_add,Nat.reduceAdd,v0,v1,v2,v3,v4,v5,v6,v7,v8,v9,v10,Act.put,zS,zA,zB]
     clear h0 h1 h2 h3 h4 h5 h8 h10 v0 v1 v2 v3 v4 v5 v6 v7 v8 v9 v10 hall
     have HT9:=Lib.hid ht9
     have HTE:=Lib.hid ht7
     have HON:=Lib.hid hton
     clear ht9 ht7 hton
     go_wp2_with (refine z6f rfl _ _ _ 78 rfl B.b (zfl T.b (.slice none 0 0) x) x born HTE.out HXI.out u9 rfl rfl rfl ?_)
     intro w9 hm9 ho9
     have hm9':=hm9.out
     rw [put_ent _ _ HS7.out.bm.nodup] at hm9'
     have hov:=HT9.out.1.only ho9.out (fun g hg e=>HTE.out.map.notRow HT9.out.1 (e ▸ hg))
     have hk9:Only (fun b=>R.ownBlock = some b ∨ b = B.b) w7 w9:=HON.out.trans ho9.out (fun b e=>.inl (.inr e))
     have hput:=HS7.out.putB x (l:=L ++ [n]) (v:=u9) (HLI.out.append (Ids.one HN.out.1 HN.out.2)) (by rw [show atE (Ents.mk T.p (z2v T.w n (.agg (opV o (some ⟨b,ob,none⟩) pc))) T.b).b (.slice none 0 0) x = R from HR.out];exact hk9) hov (by rw [show atE (Ents.mk T.p (z2v T.w n (.agg (opV o (some ⟨b,ob,none⟩) pc))) T.b).b (.slice none 0 0) x = R from HR.out];exact HT9.out.2) (fun b hb=>(HT9.out.2 b hb).elim (HRX.out b) (fun e=>HX0.out b (Nat.le_trans HT7.out.only.size e))) hm9'
     have HF:=Lib.hid (show WaitPost X B T s W' hs M n o (.agg (opV o (some ⟨b,ob,none⟩) pc)) w (.returned (.bool true)) w9 from .inr ⟨x,u9,HXM.out,HNI.out,rfl,by rw [HLL.out];exact hput.1,HT7.out.trans hput.2⟩)
     clear hm9 hm9' ho9 hov hk9 hput
     go_wp2_with fail
     go_ret
     exact HF.out
  ·obtain rfl:k = m:=by omega
   have HR:=Lib.hid (show z1f s.names o = true from wholeN_iff.2 (fun p hp=>by
    obtain ⟨j,hj,rfl⟩:=List.getElem_of_mem hp
    have:=HJ.out j (by rw [← HM.out];exact hj)
    rwa [List.getD_eq_getElem?_getD,List.getElem?_eq_getElem hj] at this))
   have HBE:=Lib.hid (HB.out.trans (HBR.out.mono HB.out.size))
   go_wp2_with fail
   go_ret
   exact .inl ⟨HR.out,rfl,HBE.out⟩
end Go.Proofs.YtnbldbbbibpobaaGreatDoor
