/-
  Joined: The document's Of: the sums behind a block; the digest's bytes.; The document's Of: block after block.; The document's Of, whole: its answer is the digest as plain mathematics says it.; Sum and Cut, the developers' and the document's.; The worlds of a statement that calls what makes memory: the round constants' table lies there.; Name, the developers' and the document's.; The document's GoodDraft.
-/
import Derived.Deep.Cut
import Derived.Great.BuildSlice
import Derived.Laws.AppendOwnNone
import Derived.Laws.CopyOwn
import Derived.Laws.Rows
import Derived.StillTailTactics
import Derived.Test.YtnbldbbbibpobaaGreatDoorJ01
import Derived.Test.YtnbldbbbibpobaaGreatDoorJ04
import Derived.Test.YtnbldbbbibpobaaGreatDoorJ07
import Derived.Test.YtnbldbbbibpobaaGreatDoorJ08
import Derived.Test.YtnbldbbbibpobaaGreatDoorJ09
import Derived.Test.YtnbldbbbibpobaaGreatDoorJ10
set_option maxRecDepth 100000
set_option maxHeartbeats 4000000
namespace Go.Proofs.YtnbldbbbibpobaaGreatDoor
open Go.RowKit
theorem of_loop8 {h0 v0:S8} {BH BV hb gv cv:Nat} {w:World}
 {ca0 ca1 ca2 ca4 ca5 ca6 ca7 ca8 ca9 ca10 ca11 ca12 ca13 ca14 ca16 ca17 ca18 ub19 ca20 ca21 ca22 ca23 ca24 ca25 ca26 ca27 ca28 ca29 ca30 ca31
 ca32 ca33 ca34 ca35 ca36 ca37 ca38 ca39 ca40 ca41 ca42 ca43 ca44 ca45 ca46 ca47 ca48 ca49 ca50 ca51 ca52 ca53 ca54 ca55 ca56 ca57 ca58 ca59 ca60 ca61
 ca62 ca63 ca64 ca65 ca66 ca67 ca68 ca69 ca70 ca71 ca72 ca73 ca74 ca75 ca76 ca77 ca78 ca79 ca80 ca81 ca82 ca83 ca84 ca85 ca86 ca87 ca88 ca89 ca90 ca91
 ca92 ca93 ca94 ca95 ca96 ca97 ca98 ca99 ca100 ca101 ca102 ca103 ca104 ca105 ca106 ca107 ca108 ca109 ca110 ca111 ca112 ca113 ca114 ca115 ca116 ca117 ca118 ca119 ca120 ca121
 ca122 ca123 ca124 ca125 ca126 ca127 ca128 ca129 ca130 ca131 ca132 ca133 ca134 ca135 ca136 ca137 ca138 ca139 ca140 ca141 ca142 ca143 ca144 ca145 ca146 ca147 ca148 ca149 ca150 ca151
 ca152 ca153 ca154 ca155 ca156 ca157 ca158 ca159 ca160 ca161 ca162 ca163 ca164 ca165 ca166 ca167 ca168 ca169 ca170 ca171 ca172 ca173 ca174 ca175 ca176 ca177 ca178 ca179 ca180 ca181
 ca182 ca183 ca184 ca185 ca186 ca187 ca188 ca189 ca190 ca191 ca192 ca193 ca194 ca195 ca196 ca197 ca198 ca199 ca200 ca201 ca202 ca203 ca204 ca205 ca206 ca207 ca208 ca209 ca210 ca211
 ca212 ca213 ca214 ca215 ca216 ca217 ca218 ca219 ca220 ca221 ca222 ca223 ca224 ca225 ca226 ca227 ca228 ca229 ca230 ca231 ca232 ca233 ca234 ca235 ca236 ca237 ca238 ca239 ca240 ca241
 ca242 ca243 ca244 ca245 ca246 ca247 ca248 ca249 ca250 ub253 ub254 ub255 ub256 ub257 ub258 ub259 ub260 ub261 ub262 ub263 ub264 ub265 ub266 ub267 ca268 ca269 ca270 ca271 ca272 ca273
 ca274 ca275 ca276 ca277 ca278 ca279 ca280 ca281 ca282 ca283 ca284 ca285 ca286:Value}
 (hne:hb ≠ gv) (HOH:Hid h0.Ok) (HOV:Hid v0.Ok) (HH:Hid (OwnN BH 143 .u32 (.slice (some ⟨hb,0,none⟩) 8 8) h0.list w)) (HV:Hid (OwnN BV 143 .u32 (.slice (some ⟨gv,0,none⟩) 8 cv) v0.list w))
 (R:Act → World → Prop)
 (hexit:Hid (∀  (w1:World),OwnN BH 143 .u32 (.slice (some ⟨hb,0,none⟩) 8 8) (addS h0 v0).list w1 ∧ But hb w w1 → ∀ {vb19 vb252 vb253 vb254 vb255 vb256 vb257 vb258 vb259 vb260 vb261 vb262 vb263 vb264 vb265 vb266 vb267:Value},
  R ⟨List.toArray (ca0 :: ca1 :: ca2 :: .slice (some ⟨hb,0,none⟩) 8 8 :: ca4 :: ca5 :: ca6 :: ca7 :: ca8 :: ca9 :: ca10 :: ca11 :: ca12 :: ca13 :: ca14 :: .slice (some ⟨gv,0,none⟩) 8 cv :: ca16 :: ca17 :: ca18 :: vb19 :: ca20 :: ca21 :: ca22 ::
  ca23 :: ca24 :: ca25 :: ca26 :: ca27 :: ca28 :: ca29 :: ca30 :: ca31 :: ca32 :: ca33 :: ca34 :: ca35 :: ca36 :: ca37 :: ca38 :: ca39 :: ca40 :: ca41 :: ca42 :: ca43 :: ca44 :: ca45 :: ca46 :: ca47 :: ca48 :: ca49 :: ca50 ::
  ca51 :: ca52 :: ca53 :: ca54 :: ca55 :: ca56 :: ca57 :: ca58 :: ca59 :: ca60 :: ca61 :: ca62 :: ca63 :: ca64 :: ca65 :: ca66 :: ca67 :: ca68 :: ca69 :: ca70 :: ca71 :: ca72 :: ca73 :: ca74 :: ca75 :: ca76 :: ca77 :: ca78 ::
  ca79 :: ca80 :: ca81 :: ca82 :: ca83 :: ca84 :: ca85 :: ca86 :: ca87 :: ca88 :: ca89 :: ca90 :: ca91 :: ca92 :: ca93 :: ca94 :: ca95 :: ca96 :: ca97 :: ca98 :: ca99 :: ca100 :: ca101 :: ca102 :: ca103 :: ca104 :: ca105 ::
  ca106 :: ca107 :: ca108 :: ca109 :: ca110 :: ca111 :: ca112 :: ca113 :: ca114 :: ca115 :: ca116 :: ca117 :: ca118 :: ca119 :: ca120 :: ca121 :: ca122 :: ca123 :: ca124 :: ca125 :: ca126 :: ca127 :: ca128 :: ca129 :: ca130 ::
  ca131 :: ca132 :: ca133 :: ca134 :: ca135 :: ca136 :: ca137 :: ca138 :: ca139 :: ca140 :: ca141 :: ca142 :: ca143 :: ca144 :: ca145 :: ca146 :: ca147 :: ca148 :: ca149 :: ca150 :: ca151 :: ca152 :: ca153 :: ca154 :: ca155 ::
  ca156 :: ca157 :: ca158 :: ca159 :: ca160 :: ca161 :: ca162 :: ca163 :: ca164 :: ca165 :: ca166 :: ca167 :: ca168 :: ca169 :: ca170 :: ca171 :: ca172 :: ca173 :: ca174 :: ca175 :: ca176 :: ca177 :: ca178 :: ca179 :: ca180 ::
  ca181 :: ca182 :: ca183 :: ca184 :: ca185 :: ca186 :: ca187 :: ca188 :: ca189 :: ca190 :: ca191 :: ca192 :: ca193 :: ca194 :: ca195 :: ca196 :: ca197 :: ca198 :: ca199 :: ca200 :: ca201 :: ca202 :: ca203 :: ca204 :: ca205 ::
  ca206 :: ca207 :: ca208 :: ca209 :: ca210 :: ca211 :: ca212 :: ca213 :: ca214 :: ca215 :: ca216 :: ca217 :: ca218 :: ca219 :: ca220 :: ca221 :: ca222 :: ca223 :: ca224 :: ca225 :: ca226 :: ca227 :: ca228 :: ca229 :: ca230 ::
  ca231 :: ca232 :: ca233 :: ca234 :: ca235 :: ca236 :: ca237 :: ca238 :: ca239 :: ca240 :: ca241 :: ca242 :: ca243 :: ca244 :: ca245 :: ca246 :: ca247 :: ca248 :: ca249 :: ca250 :: .int .i64 8 :: vb252 :: vb253 :: vb254 ::
  vb255 :: vb256 :: vb257 :: vb258 :: vb259 :: vb260 :: vb261 :: vb262 :: vb263 :: vb264 :: vb265 :: vb266 :: vb267 :: ca268 :: ca269 :: ca270 :: ca271 :: ca272 :: ca273 :: ca274 :: ca275 :: ca276 :: ca277 :: ca278 :: ca279 ::
  ca280 :: ca281 :: ca282 :: ca283 :: ca284 :: ca285 :: ca286 :: []),[]⟩ w1)) :
 Code.wp Tryz.prog (Code.loop (z5c Tryz.f87 7)) (Ends 14 R) ⟨List.toArray (ca0 :: ca1 :: ca2 :: .slice (some ⟨hb,0,none⟩) 8 8 :: ca4 :: ca5 :: ca6 :: ca7 :: ca8 :: ca9 :: ca10 :: ca11 :: ca12 :: ca13 :: ca14 :: .slice (some ⟨gv,0,none⟩) 8 cv :: ca16 :: ca17 :: ca18 :: ub19 :: ca20 :: ca21 :: ca22 ::
  ca23 :: ca24 :: ca25 :: ca26 :: ca27 :: ca28 :: ca29 :: ca30 :: ca31 :: ca32 :: ca33 :: ca34 :: ca35 :: ca36 :: ca37 :: ca38 :: ca39 :: ca40 :: ca41 :: ca42 :: ca43 :: ca44 :: ca45 :: ca46 :: ca47 :: ca48 :: ca49 :: ca50 ::
  ca51 :: ca52 :: ca53 :: ca54 :: ca55 :: ca56 :: ca57 :: ca58 :: ca59 :: ca60 :: ca61 :: ca62 :: ca63 :: ca64 :: ca65 :: ca66 :: ca67 :: ca68 :: ca69 :: ca70 :: ca71 :: ca72 :: ca73 :: ca74 :: ca75 :: ca76 :: ca77 :: ca78 ::
  ca79 :: ca80 :: ca81 :: ca82 :: ca83 :: ca84 :: ca85 :: ca86 :: ca87 :: ca88 :: ca89 :: ca90 :: ca91 :: ca92 :: ca93 :: ca94 :: ca95 :: ca96 :: ca97 :: ca98 :: ca99 :: ca100 :: ca101 :: ca102 :: ca103 :: ca104 :: ca105 ::
  ca106 :: ca107 :: ca108 :: ca109 :: ca110 :: ca111 :: ca112 :: ca113 :: ca114 :: ca115 :: ca116 :: ca117 :: ca118 :: ca119 :: ca120 :: ca121 :: ca122 :: ca123 :: ca124 :: ca125 :: ca126 :: ca127 :: ca128 :: ca129 :: ca130 ::
  ca131 :: ca132 :: ca133 :: ca134 :: ca135 :: ca136 :: ca137 :: ca138 :: ca139 :: ca140 :: ca141 :: ca142 :: ca143 :: ca144 :: ca145 :: ca146 :: ca147 :: ca148 :: ca149 :: ca150 :: ca151 :: ca152 :: ca153 :: ca154 :: ca155 ::
  ca156 :: ca157 :: ca158 :: ca159 :: ca160 :: ca161 :: ca162 :: ca163 :: ca164 :: ca165 :: ca166 :: ca167 :: ca168 :: ca169 :: ca170 :: ca171 :: ca172 :: ca173 :: ca174 :: ca175 :: ca176 :: ca177 :: ca178 :: ca179 :: ca180 ::
  ca181 :: ca182 :: ca183 :: ca184 :: ca185 :: ca186 :: ca187 :: ca188 :: ca189 :: ca190 :: ca191 :: ca192 :: ca193 :: ca194 :: ca195 :: ca196 :: ca197 :: ca198 :: ca199 :: ca200 :: ca201 :: ca202 :: ca203 :: ca204 :: ca205 ::
  ca206 :: ca207 :: ca208 :: ca209 :: ca210 :: ca211 :: ca212 :: ca213 :: ca214 :: ca215 :: ca216 :: ca217 :: ca218 :: ca219 :: ca220 :: ca221 :: ca222 :: ca223 :: ca224 :: ca225 :: ca226 :: ca227 :: ca228 :: ca229 :: ca230 ::
  ca231 :: ca232 :: ca233 :: ca234 :: ca235 :: ca236 :: ca237 :: ca238 :: ca239 :: ca240 :: ca241 :: ca242 :: ca243 :: ca244 :: ca245 :: ca246 :: ca247 :: ca248 :: ca249 :: ca250 :: .int .i64 8 :: .int .i64 0 :: ub253 :: ub254 ::
  ub255 :: ub256 :: ub257 :: ub258 :: ub259 :: ub260 :: ub261 :: ub262 :: ub263 :: ub264 :: ub265 :: ub266 :: ub267 :: ca268 :: ca269 :: ca270 :: ca271 :: ca272 :: ca273 :: ca274 :: ca275 :: ca276 :: ca277 :: ca278 :: ca279 ::
  ca280 :: ca281 :: ca282 :: ca283 :: ca284 :: ca285 :: ca286 :: []),[]⟩ w:=by
 conv=>arg 2;arg 1;whnf
 go_loopw [252] (fun i wq=>∃ k:Nat,k ≤ 8 ∧ i = .int .i64 k ∧ OwnN BH 143 .u32 (.slice (some ⟨hb,0,none⟩) 8 8) (zgw h0.list v0.list k) wq ∧ But hb w wq) (fun i _=>8 - (intOf i).toNat)
 case atStart=>exact ⟨0,by omega,rfl,HH.out,But.refl _ _⟩
 case round =>
  clear HH
  obtain ⟨k,hk,rfl,ho,hb2⟩:=hrel
  have HH:=Lib.hid ho
  have HB:=Lib.hid hb2
  clear ho hb2
  by_cases hlk:k < 8
  ·have hlen:=zf5 h0.list v0.list k
   rw [S8.list_len] at hlen
   have hV:=HV.out.but HB.out (by rintro g hg rfl;exact hne (Option.some.inj hg).symm)
   have c1:=HH.out.cellN hlen.symm k hlk
   have hf:=HH.out.frozenAt hlen.symm k
   have c2:=hV.cellN (S8.list_len v0).symm k hlk
   rw [zhx _ _ _ _ (Nat.le_refl k)] at c1
   have hx:=z1v HOH.out.lt (by decide) k
   have hy:=z1v HOV.out.lt (by decide) k
   have HS:=Lib.hid (HH.out.stored hlen.symm k ((h0.list.getD k 0 + v0.list.getD k 0) % 4294967296))
   have HA:=Lib.hid (show zgw h0.list v0.list (k + 1) = (zgw h0.list v0.list k).set k ((h0.list.getD k 0 + v0.list.getD k 0) % 4294967296) from rfl)
   generalize h0.list.getD k 0 = x at c1 hx HS HA
   generalize v0.list.getD k 0 = y at c2 hy HS HA
   clear hlen hV
   go_wp2_with fail
   go_region
   go_wp2_with fail
   have hv:(((x + y) % 4294967296:Nat):Int) = ((x:Int) + (y:Int)) % 4294967296:=by omega
   exact ⟨⟨k + 1,by omega,by go_num,by
    rw [HA.out]
    have h:=HS.out
    rw [hv] at h
    exact h,(HB.out.setCell _ _).drew⟩,by simp [intOf];omega⟩
  ·obtain rfl:k = 8:=by omega
   rw [show ((8:Nat):Int) = 8 from rfl]
   go_wp2_with fail
   exact z1y (hexit.out _ ⟨by have:=HH.out;rwa [zak] at this,HB.out⟩)
theorem of_loop9 {h0:S8} {BH hb db:Nat} {w:World}
 {ca0 ca1 ca2 ca4 ca5 ca6 ca7 ca8 ca9 ca10 ca11 ca12 ca13 ca14 ca15 ca16 ca17 ca18 ca19 ub21 ca22 ca23 ca24 ca25 ca26 ca27 ca28 ca29 ca30 ca31
 ca32 ca33 ca34 ca35 ca36 ca37 ca38 ca39 ca40 ca41 ca42 ca43 ca44 ca45 ca46 ca47 ca48 ca49 ca50 ca51 ca52 ca53 ca54 ca55 ca56 ca57 ca58 ca59 ca60 ca61
 ca62 ca63 ca64 ca65 ca66 ca67 ca68 ca69 ca70 ca71 ca72 ca73 ca74 ca75 ca76 ca77 ca78 ca79 ca80 ca81 ca82 ca83 ca84 ca85 ca86 ca87 ca88 ca89 ca90 ca91
 ca92 ca93 ca94 ca95 ca96 ca97 ca98 ca99 ca100 ca101 ca102 ca103 ca104 ca105 ca106 ca107 ca108 ca109 ca110 ca111 ca112 ca113 ca114 ca115 ca116 ca117 ca118 ca119 ca120 ca121
 ca122 ca123 ca124 ca125 ca126 ca127 ca128 ca129 ca130 ca131 ca132 ca133 ca134 ca135 ca136 ca137 ca138 ca139 ca140 ca141 ca142 ca143 ca144 ca145 ca146 ca147 ca148 ca149 ca150 ca151
 ca152 ca153 ca154 ca155 ca156 ca157 ca158 ca159 ca160 ca161 ca162 ca163 ca164 ca165 ca166 ca167 ca168 ca169 ca170 ca171 ca172 ca173 ca174 ca175 ca176 ca177 ca178 ca179 ca180 ca181
 ca182 ca183 ca184 ca185 ca186 ca187 ca188 ca189 ca190 ca191 ca192 ca193 ca194 ca195 ca196 ca197 ca198 ca199 ca200 ca201 ca202 ca203 ca204 ca205 ca206 ca207 ca208 ca209 ca210 ca211
 ca212 ca213 ca214 ca215 ca216 ca217 ca218 ca219 ca220 ca221 ca222 ca223 ca224 ca225 ca226 ca227 ca228 ca229 ca230 ca231 ca232 ca233 ca234 ca235 ca236 ca237 ca238 ca239 ca240 ca241
 ca242 ca243 ca244 ca245 ca246 ca247 ca248 ca249 ca250 ca251 ca252 ca253 ca254 ca255 ca256 ca257 ca258 ca259 ca260 ca261 ca262 ca263 ca264 ca265 ca266 ca267 ub269 ub270 ub271 ub272
 ub273 ub274 ub275 ub276 ub277 ub278 ub279 ub280 ub281 ub282 ub283 ub284 ub285 ca286:Value}
 (hne:hb ≠ db) (HOH:Hid h0.Ok) (HH:Hid (OwnN BH 143 .u32 (.slice (some ⟨hb,0,none⟩) 8 8) h0.list w)) (HD:Hid (w.heap[db]? = some (.cells (z06 .u8 (zff h0.list 0)).toArray 25 (0,0))))
 (R:Act → World → Prop)
 (hexit:Hid (∀  (w1:World),w1.heap[db]? = some (.cells (z06 .u8 (zbx h0.list)).toArray 25 (0,0)) ∧ But db w w1 → ∀ {vb21 vb268 vb269 vb270 vb271 vb272 vb273 vb274 vb275 vb276 vb277 vb278 vb279 vb280 vb281 vb282 vb283 vb284 vb285:Value},
  R ⟨List.toArray (ca0 :: ca1 :: ca2 :: .slice (some ⟨hb,0,none⟩) 8 8 :: ca4 :: ca5 :: ca6 :: ca7 :: ca8 :: ca9 :: ca10 :: ca11 :: ca12 :: ca13 :: ca14 :: ca15 :: ca16 :: ca17 :: ca18 :: ca19 :: .pointer (some ⟨db,0,none⟩) :: vb21 :: ca22 ::
  ca23 :: ca24 :: ca25 :: ca26 :: ca27 :: ca28 :: ca29 :: ca30 :: ca31 :: ca32 :: ca33 :: ca34 :: ca35 :: ca36 :: ca37 :: ca38 :: ca39 :: ca40 :: ca41 :: ca42 :: ca43 :: ca44 :: ca45 :: ca46 :: ca47 :: ca48 :: ca49 :: ca50 ::
  ca51 :: ca52 :: ca53 :: ca54 :: ca55 :: ca56 :: ca57 :: ca58 :: ca59 :: ca60 :: ca61 :: ca62 :: ca63 :: ca64 :: ca65 :: ca66 :: ca67 :: ca68 :: ca69 :: ca70 :: ca71 :: ca72 :: ca73 :: ca74 :: ca75 :: ca76 :: ca77 :: ca78 ::
  ca79 :: ca80 :: ca81 :: ca82 :: ca83 :: ca84 :: ca85 :: ca86 :: ca87 :: ca88 :: ca89 :: ca90 :: ca91 :: ca92 :: ca93 :: ca94 :: ca95 :: ca96 :: ca97 :: ca98 :: ca99 :: ca100 :: ca101 :: ca102 :: ca103 :: ca104 :: ca105 ::
  ca106 :: ca107 :: ca108 :: ca109 :: ca110 :: ca111 :: ca112 :: ca113 :: ca114 :: ca115 :: ca116 :: ca117 :: ca118 :: ca119 :: ca120 :: ca121 :: ca122 :: ca123 :: ca124 :: ca125 :: ca126 :: ca127 :: ca128 :: ca129 :: ca130 ::
  ca131 :: ca132 :: ca133 :: ca134 :: ca135 :: ca136 :: ca137 :: ca138 :: ca139 :: ca140 :: ca141 :: ca142 :: ca143 :: ca144 :: ca145 :: ca146 :: ca147 :: ca148 :: ca149 :: ca150 :: ca151 :: ca152 :: ca153 :: ca154 :: ca155 ::
  ca156 :: ca157 :: ca158 :: ca159 :: ca160 :: ca161 :: ca162 :: ca163 :: ca164 :: ca165 :: ca166 :: ca167 :: ca168 :: ca169 :: ca170 :: ca171 :: ca172 :: ca173 :: ca174 :: ca175 :: ca176 :: ca177 :: ca178 :: ca179 :: ca180 ::
  ca181 :: ca182 :: ca183 :: ca184 :: ca185 :: ca186 :: ca187 :: ca188 :: ca189 :: ca190 :: ca191 :: ca192 :: ca193 :: ca194 :: ca195 :: ca196 :: ca197 :: ca198 :: ca199 :: ca200 :: ca201 :: ca202 :: ca203 :: ca204 :: ca205 ::
  ca206 :: ca207 :: ca208 :: ca209 :: ca210 :: ca211 :: ca212 :: ca213 :: ca214 :: ca215 :: ca216 :: ca217 :: ca218 :: ca219 :: ca220 :: ca221 :: ca222 :: ca223 :: ca224 :: ca225 :: ca226 :: ca227 :: ca228 :: ca229 :: ca230 ::
  ca231 :: ca232 :: ca233 :: ca234 :: ca235 :: ca236 :: ca237 :: ca238 :: ca239 :: ca240 :: ca241 :: ca242 :: ca243 :: ca244 :: ca245 :: ca246 :: ca247 :: ca248 :: ca249 :: ca250 :: ca251 :: ca252 :: ca253 :: ca254 :: ca255 ::
  ca256 :: ca257 :: ca258 :: ca259 :: ca260 :: ca261 :: ca262 :: ca263 :: ca264 :: ca265 :: ca266 :: ca267 :: vb268 :: vb269 :: vb270 :: vb271 :: vb272 :: vb273 :: vb274 :: vb275 :: vb276 :: vb277 :: vb278 :: vb279 :: vb280 ::
  vb281 :: vb282 :: vb283 :: vb284 :: vb285 :: ca286 :: []),[]⟩ w1)) :
 Code.wp Tryz.prog (Code.loop (z5c Tryz.f87 8)) (Ends 16 R) ⟨List.toArray (ca0 :: ca1 :: ca2 :: .slice (some ⟨hb,0,none⟩) 8 8 :: ca4 :: ca5 :: ca6 :: ca7 :: ca8 :: ca9 :: ca10 :: ca11 :: ca12 :: ca13 :: ca14 :: ca15 :: ca16 :: ca17 :: ca18 :: ca19 :: .pointer (some ⟨db,0,none⟩) :: ub21 :: ca22 ::
  ca23 :: ca24 :: ca25 :: ca26 :: ca27 :: ca28 :: ca29 :: ca30 :: ca31 :: ca32 :: ca33 :: ca34 :: ca35 :: ca36 :: ca37 :: ca38 :: ca39 :: ca40 :: ca41 :: ca42 :: ca43 :: ca44 :: ca45 :: ca46 :: ca47 :: ca48 :: ca49 :: ca50 ::
  ca51 :: ca52 :: ca53 :: ca54 :: ca55 :: ca56 :: ca57 :: ca58 :: ca59 :: ca60 :: ca61 :: ca62 :: ca63 :: ca64 :: ca65 :: ca66 :: ca67 :: ca68 :: ca69 :: ca70 :: ca71 :: ca72 :: ca73 :: ca74 :: ca75 :: ca76 :: ca77 :: ca78 ::
  ca79 :: ca80 :: ca81 :: ca82 :: ca83 :: ca84 :: ca85 :: ca86 :: ca87 :: ca88 :: ca89 :: ca90 :: ca91 :: ca92 :: ca93 :: ca94 :: ca95 :: ca96 :: ca97 :: ca98 :: ca99 :: ca100 :: ca101 :: ca102 :: ca103 :: ca104 :: ca105 ::
  ca106 :: ca107 :: ca108 :: ca109 :: ca110 :: ca111 :: ca112 :: ca113 :: ca114 :: ca115 :: ca116 :: ca117 :: ca118 :: ca119 :: ca120 :: ca121 :: ca122 :: ca123 :: ca124 :: ca125 :: ca126 :: ca127 :: ca128 :: ca129 :: ca130 ::
  ca131 :: ca132 :: ca133 :: ca134 :: ca135 :: ca136 :: ca137 :: ca138 :: ca139 :: ca140 :: ca141 :: ca142 :: ca143 :: ca144 :: ca145 :: ca146 :: ca147 :: ca148 :: ca149 :: ca150 :: ca151 :: ca152 :: ca153 :: ca154 :: ca155 ::
  ca156 :: ca157 :: ca158 :: ca159 :: ca160 :: ca161 :: ca162 :: ca163 :: ca164 :: ca165 :: ca166 :: ca167 :: ca168 :: ca169 :: ca170 :: ca171 :: ca172 :: ca173 :: ca174 :: ca175 :: ca176 :: ca177 :: ca178 :: ca179 :: ca180 ::
  ca181 :: ca182 :: ca183 :: ca184 :: ca185 :: ca186 :: ca187 :: ca188 :: ca189 :: ca190 :: ca191 :: ca192 :: ca193 :: ca194 :: ca195 :: ca196 :: ca197 :: ca198 :: ca199 :: ca200 :: ca201 :: ca202 :: ca203 :: ca204 :: ca205 ::
  ca206 :: ca207 :: ca208 :: ca209 :: ca210 :: ca211 :: ca212 :: ca213 :: ca214 :: ca215 :: ca216 :: ca217 :: ca218 :: ca219 :: ca220 :: ca221 :: ca222 :: ca223 :: ca224 :: ca225 :: ca226 :: ca227 :: ca228 :: ca229 :: ca230 ::
  ca231 :: ca232 :: ca233 :: ca234 :: ca235 :: ca236 :: ca237 :: ca238 :: ca239 :: ca240 :: ca241 :: ca242 :: ca243 :: ca244 :: ca245 :: ca246 :: ca247 :: ca248 :: ca249 :: ca250 :: ca251 :: ca252 :: ca253 :: ca254 :: ca255 ::
  ca256 :: ca257 :: ca258 :: ca259 :: ca260 :: ca261 :: ca262 :: ca263 :: ca264 :: ca265 :: ca266 :: ca267 :: .int .i64 0 :: ub269 :: ub270 :: ub271 :: ub272 :: ub273 :: ub274 :: ub275 :: ub276 :: ub277 :: ub278 :: ub279 ::
  ub280 :: ub281 :: ub282 :: ub283 :: ub284 :: ub285 :: ca286 :: []),[]⟩ w:=by
 conv=>arg 2;arg 1;whnf
 go_loopw [268] (fun i wq=>∃ k:Nat,k ≤ 32 ∧ i = .int .i64 k ∧ wq.heap[db]? = some (.cells (z06 .u8 (zff h0.list k)).toArray 25 (0,0)) ∧ But db w wq) (fun i _=>32 - (intOf i).toNat)
 case atStart=>exact ⟨0,by omega,rfl,HD.out,But.refl _ _⟩
 case round =>
  clear HD
  obtain ⟨k,hk,rfl,ho,hb2⟩:=hrel
  have HD:=Lib.hid ho
  have HB:=Lib.hid hb2
  clear ho hb2
  by_cases hlk:k < 32
  ·have hq:=z1v HOH.out.lt (by decide) (k / 4)
   have hlen:=zfu h0.list k hk
   have hH:=HH.out.but HB.out (by rintro g hg rfl;exact hne (Option.some.inj hg))
   have c1:=hH.cellN (S8.list_len h0).symm (k / 4) (by omega)
   have hf:wr.frozen? ⟨db,k,none⟩ = false:=by simp [World.frozen?,HD.out]
   have c2:wr.cell? ⟨db,k,none⟩ = some (.int .u8 (((zff h0.list k).getD k 0:Nat):Int)):=by
    rw [Lib.cell_of_heap HD.out k,List.getElem?_toArray,z06,List.getElem?_map,List.getElem?_eq_getElem (by omega),List.getD_eq_getElem?_getD,List.getElem?_eq_getElem (by omega)]
    rfl
   have HS:=Lib.hid (z2n (o:=k) (v:=.int .u8 ((outB h0.list k:Nat):Int)) HD.out)
   have HO:=Lib.hid (show outB h0.list k = h0.list.getD (k / 4) 0 / 2 ^ (24 - 8 * (k % 4)) % 256 from rfl)
   have HP:=Lib.hid (zfs h0.list k hlk)
   generalize h0.list.getD (k / 4) 0 = x at c1 hq HO
   generalize (zff h0.list k).getD k 0 = y at c2
   obtain ⟨j,hj⟩:∃ j,j = k / 4:=⟨_,rfl⟩
   obtain ⟨r,hr⟩:∃ r,r = k % 4:=⟨_,rfl⟩
   rw [← hj] at c1
   have e1:(k:Int) / 4 = (j:Int):=by omega
   have e2:(k:Int) % 4 = (r:Int):=by omega
   have b1:(j:Int) < 8:=by omega
   have b2:(r:Int) ≤ 3:=by omega
   have b3:(k:Int) < 32:=by omega
   have HR:=Lib.hid hr
   clear hlen hH hj hr
   go_wp2_with fail
   have hv:((outB h0.list k:Nat):Int) = (x:Int) / 2 ^ (24 - 8 * r) % 256:=by
    rw [HO.out,HR.out]
    simp
   refine ⟨⟨k + 1,by omega,by go_num,?_,HB.out.setCell _ _⟩,by simp [intOf];omega⟩
   have h:=HS.out
   rw [List.setIfInBounds_toArray,zfj,HP.out,hv] at h
   exact h
  ·obtain rfl:k = 32:=by omega
   rw [show ((32:Nat):Int) = 32 from rfl]
   go_wp2_with fail
   exact z1y (hexit.out _ ⟨by have:=HD.out;rwa [zd9] at this,HB.out⟩)
theorem of_loop3 {p:List Nat} {g3 cap3:Nat} {w wz:World}
 {ca0 ca1 ca2 ca6 ca7 ub9 ub10 ub11 ub12 ub13 ub14 ub15 ub16 ub17 ub18 ub19 ca20 ca21 ca22 ca23 ca24 ca25 ca26 ca27 ca28 ca29 ca30 ca31 ca32 ca33
 ca34 ca35 ca36 ca37 ca38 ca39 ca40 ca41 ca42 ca43 ca44 ca45 ca46 ca47 ca48 ca49 ca50 ca51 ca52 ub53 ub54 ub55 ub56 ub57 ub58 ub59 ub60 ub61 ub62 ub63
 ub64 ub65 ub66 ub67 ub68 ub69 ub70 ub71 ub72 ub73 ub74 ub75 ub76 ub77 ub78 ub79 ub80 ub81 ub82 ub83 ub84 ub85 ub86 ub87 ub88 ub89 ub90 ub91 ub92 ub93
 ub94 ub95 ub96 ub97 ub98 ub99 ub100 ub101 ub102 ub103 ub104 ub105 ub106 ub107 ub108 ub109 ub110 ub111 ub112 ub113 ub114 ub115 ub116 ub117 ub118 ub119 ub120 ub121 ub122 ub123
 ub124 ub125 ub126 ub127 ub128 ub129 ub130 ub131 ub132 ub133 ub134 ub135 ub136 ub137 ub138 ub139 ub140 ub141 ub142 ub143 ub144 ub145 ub146 ub147 ub148 ub149 ub150 ub151 ub152 ub153
 ub154 ub155 ub156 ub157 ub158 ub159 ub160 ub161 ub162 ub163 ub164 ub165 ub166 ub167 ub168 ub169 ub170 ub171 ub172 ub173 ub174 ub175 ub176 ub177 ub178 ub179 ub180 ub181 ub182 ub183
 ub184 ub185 ub186 ub187 ub188 ub189 ub190 ub191 ub192 ub193 ub194 ub195 ub196 ub197 ub198 ub199 ub200 ub201 ub202 ub203 ub204 ub205 ub206 ub207 ub208 ub209 ub210 ub211 ub212 ub213
 ub214 ub215 ub216 ub217 ub218 ub219 ub220 ub221 ub222 ub223 ub224 ub225 ub226 ub227 ub228 ub229 ub230 ub231 ub232 ub233 ub234 ub235 ub236 ub237 ub238 ub239 ub240 ub241 ub242 ub243
 ub244 ub245 ub246 ub247 ub248 ub249 ub250 ub251 ub252 ub253 ub254 ub255 ub256 ub257 ub258 ub259 ub260 ub261 ub262 ub263 ub264 ub265 ub266 ub267 ca268 ca269 ca270 ca271 ca272 ca273
 ca274 ca275 ca276 ca277 ca278 ca279 ca280 ca281 ca282 ca283 ca284 ca285 ca286:Value}
 (hpl3:p.length ≤ 140737488350100) (HPL:Hid (p.length % 64 = 0)) (HP:Hid (∀ x ∈ p,x < 256)) (HST:Hid (OfSt w (.slice (some ⟨g3,0,none⟩) p.length cap3) p (z1k p 0) wz))
 (R:Act → World → Prop)
 (hexit:Hid (∀  (w1:World),OfSt w (.slice (some ⟨g3,0,none⟩) p.length cap3) p (z1k p (p.length / 64)) w1 → ∀ {vb8 vb9 vb10 vb11 vb12 vb13 vb14 vb15 vb16 vb17 vb18 vb19 vb53 vb54 vb55 vb56 vb57 vb58 vb59 vb60 vb61 vb62 vb63 vb64 vb65 vb66 vb67 vb68 vb69 vb70
 vb71 vb72 vb73 vb74 vb75 vb76 vb77 vb78 vb79 vb80 vb81 vb82 vb83 vb84 vb85 vb86 vb87 vb88 vb89 vb90 vb91 vb92 vb93 vb94 vb95 vb96 vb97 vb98 vb99 vb100
 vb101 vb102 vb103 vb104 vb105 vb106 vb107 vb108 vb109 vb110 vb111 vb112 vb113 vb114 vb115 vb116 vb117 vb118 vb119 vb120 vb121 vb122 vb123 vb124 vb125 vb126 vb127 vb128 vb129 vb130
 vb131 vb132 vb133 vb134 vb135 vb136 vb137 vb138 vb139 vb140 vb141 vb142 vb143 vb144 vb145 vb146 vb147 vb148 vb149 vb150 vb151 vb152 vb153 vb154 vb155 vb156 vb157 vb158 vb159 vb160
 vb161 vb162 vb163 vb164 vb165 vb166 vb167 vb168 vb169 vb170 vb171 vb172 vb173 vb174 vb175 vb176 vb177 vb178 vb179 vb180 vb181 vb182 vb183 vb184 vb185 vb186 vb187 vb188 vb189 vb190
 vb191 vb192 vb193 vb194 vb195 vb196 vb197 vb198 vb199 vb200 vb201 vb202 vb203 vb204 vb205 vb206 vb207 vb208 vb209 vb210 vb211 vb212 vb213 vb214 vb215 vb216 vb217 vb218 vb219 vb220
 vb221 vb222 vb223 vb224 vb225 vb226 vb227 vb228 vb229 vb230 vb231 vb232 vb233 vb234 vb235 vb236 vb237 vb238 vb239 vb240 vb241 vb242 vb243 vb244 vb245 vb246 vb247 vb248 vb249 vb250
 vb251 vb252 vb253 vb254 vb255 vb256 vb257 vb258 vb259 vb260 vb261 vb262 vb263 vb264 vb265 vb266 vb267:Value},
  R ⟨List.toArray (ca0 :: ca1 :: ca2 :: .slice (some ⟨w.heap.size + 1,0,none⟩) 8 8 :: .slice (some ⟨w.heap.size + 1 + 1,0,none⟩) 64 64 :: .slice (some ⟨g3,0,none⟩) p.length cap3 :: ca6 :: ca7 :: vb8 :: vb9 :: vb10 :: vb11 :: vb12 :: vb13 ::
  vb14 :: vb15 :: vb16 :: vb17 :: vb18 :: vb19 :: ca20 :: ca21 :: ca22 :: ca23 :: ca24 :: ca25 :: ca26 :: ca27 :: ca28 :: ca29 :: ca30 :: ca31 :: ca32 :: ca33 :: ca34 :: ca35 :: ca36 :: ca37 :: ca38 :: ca39 :: ca40 :: ca41 ::
  ca42 :: ca43 :: ca44 :: ca45 :: ca46 :: ca47 :: ca48 :: ca49 :: ca50 :: ca51 :: ca52 :: vb53 :: vb54 :: vb55 :: vb56 :: vb57 :: vb58 :: vb59 :: vb60 :: vb61 :: vb62 :: vb63 :: vb64 :: vb65 :: vb66 :: vb67 :: vb68 :: vb69 ::
  vb70 :: vb71 :: vb72 :: vb73 :: vb74 :: vb75 :: vb76 :: vb77 :: vb78 :: vb79 :: vb80 :: vb81 :: vb82 :: vb83 :: vb84 :: vb85 :: vb86 :: vb87 :: vb88 :: vb89 :: vb90 :: vb91 :: vb92 :: vb93 :: vb94 :: vb95 :: vb96 :: vb97 ::
  vb98 :: vb99 :: vb100 :: vb101 :: vb102 :: vb103 :: vb104 :: vb105 :: vb106 :: vb107 :: vb108 :: vb109 :: vb110 :: vb111 :: vb112 :: vb113 :: vb114 :: vb115 :: vb116 :: vb117 :: vb118 :: vb119 :: vb120 :: vb121 :: vb122 ::
  vb123 :: vb124 :: vb125 :: vb126 :: vb127 :: vb128 :: vb129 :: vb130 :: vb131 :: vb132 :: vb133 :: vb134 :: vb135 :: vb136 :: vb137 :: vb138 :: vb139 :: vb140 :: vb141 :: vb142 :: vb143 :: vb144 :: vb145 :: vb146 :: vb147 ::
  vb148 :: vb149 :: vb150 :: vb151 :: vb152 :: vb153 :: vb154 :: vb155 :: vb156 :: vb157 :: vb158 :: vb159 :: vb160 :: vb161 :: vb162 :: vb163 :: vb164 :: vb165 :: vb166 :: vb167 :: vb168 :: vb169 :: vb170 :: vb171 :: vb172 ::
  vb173 :: vb174 :: vb175 :: vb176 :: vb177 :: vb178 :: vb179 :: vb180 :: vb181 :: vb182 :: vb183 :: vb184 :: vb185 :: vb186 :: vb187 :: vb188 :: vb189 :: vb190 :: vb191 :: vb192 :: vb193 :: vb194 :: vb195 :: vb196 :: vb197 ::
  vb198 :: vb199 :: vb200 :: vb201 :: vb202 :: vb203 :: vb204 :: vb205 :: vb206 :: vb207 :: vb208 :: vb209 :: vb210 :: vb211 :: vb212 :: vb213 :: vb214 :: vb215 :: vb216 :: vb217 :: vb218 :: vb219 :: vb220 :: vb221 :: vb222 ::
  vb223 :: vb224 :: vb225 :: vb226 :: vb227 :: vb228 :: vb229 :: vb230 :: vb231 :: vb232 :: vb233 :: vb234 :: vb235 :: vb236 :: vb237 :: vb238 :: vb239 :: vb240 :: vb241 :: vb242 :: vb243 :: vb244 :: vb245 :: vb246 :: vb247 ::
  vb248 :: vb249 :: vb250 :: vb251 :: vb252 :: vb253 :: vb254 :: vb255 :: vb256 :: vb257 :: vb258 :: vb259 :: vb260 :: vb261 :: vb262 :: vb263 :: vb264 :: vb265 :: vb266 :: vb267 :: ca268 :: ca269 :: ca270 :: ca271 :: ca272 ::
  ca273 :: ca274 :: ca275 :: ca276 :: ca277 :: ca278 :: ca279 :: ca280 :: ca281 :: ca282 :: ca283 :: ca284 :: ca285 :: ca286 :: []),[]⟩ w1)) :
 Code.wp Tryz.prog (Code.loop (z5c Tryz.f87 2)) (Ends 4 R) ⟨List.toArray (ca0 :: ca1 :: ca2 :: .slice (some ⟨w.heap.size + 1,0,none⟩) 8 8 :: .slice (some ⟨w.heap.size + 1 + 1,0,none⟩) 64 64 :: .slice (some ⟨g3,0,none⟩) p.length cap3 :: ca6 :: ca7 :: .int .i64 0 :: ub9 :: ub10 :: ub11 :: ub12 ::
  ub13 :: ub14 :: ub15 :: ub16 :: ub17 :: ub18 :: ub19 :: ca20 :: ca21 :: ca22 :: ca23 :: ca24 :: ca25 :: ca26 :: ca27 :: ca28 :: ca29 :: ca30 :: ca31 :: ca32 :: ca33 :: ca34 :: ca35 :: ca36 :: ca37 :: ca38 :: ca39 :: ca40 ::
  ca41 :: ca42 :: ca43 :: ca44 :: ca45 :: ca46 :: ca47 :: ca48 :: ca49 :: ca50 :: ca51 :: ca52 :: ub53 :: ub54 :: ub55 :: ub56 :: ub57 :: ub58 :: ub59 :: ub60 :: ub61 :: ub62 :: ub63 :: ub64 :: ub65 :: ub66 :: ub67 :: ub68 ::
  ub69 :: ub70 :: ub71 :: ub72 :: ub73 :: ub74 :: ub75 :: ub76 :: ub77 :: ub78 :: ub79 :: ub80 :: ub81 :: ub82 :: ub83 :: ub84 :: ub85 :: ub86 :: ub87 :: ub88 :: ub89 :: ub90 :: ub91 :: ub92 :: ub93 :: ub94 :: ub95 :: ub96 ::
  ub97 :: ub98 :: ub99 :: ub100 :: ub101 :: ub102 :: ub103 :: ub104 :: ub105 :: ub106 :: ub107 :: ub108 :: ub109 :: ub110 :: ub111 :: ub112 :: ub113 :: ub114 :: ub115 :: ub116 :: ub117 :: ub118 :: ub119 :: ub120 :: ub121 ::
  ub122 :: ub123 :: ub124 :: ub125 :: ub126 :: ub127 :: ub128 :: ub129 :: ub130 :: ub131 :: ub132 :: ub133 :: ub134 :: ub135 :: ub136 :: ub137 :: ub138 :: ub139 :: ub140 :: ub141 :: ub142 :: ub143 :: ub144 :: ub145 :: ub146 ::
  ub147 :: ub148 :: ub149 :: ub150 :: ub151 :: ub152 :: ub153 :: ub154 :: ub155 :: ub156 :: ub157 :: ub158 :: ub159 :: ub160 :: ub161 :: ub162 :: ub163 :: ub164 :: ub165 :: ub166 :: ub167 :: ub168 :: ub169 :: ub170 :: ub171 ::
  ub172 :: ub173 :: ub174 :: ub175 :: ub176 :: ub177 :: ub178 :: ub179 :: ub180 :: ub181 :: ub182 :: ub183 :: ub184 :: ub185 :: ub186 :: ub187 :: ub188 :: ub189 :: ub190 :: ub191 :: ub192 :: ub193 :: ub194 :: ub195 :: ub196 ::
  ub197 :: ub198 :: ub199 :: ub200 :: ub201 :: ub202 :: ub203 :: ub204 :: ub205 :: ub206 :: ub207 :: ub208 :: ub209 :: ub210 :: ub211 :: ub212 :: ub213 :: ub214 :: ub215 :: ub216 :: ub217 :: ub218 :: ub219 :: ub220 :: ub221 ::
  ub222 :: ub223 :: ub224 :: ub225 :: ub226 :: ub227 :: ub228 :: ub229 :: ub230 :: ub231 :: ub232 :: ub233 :: ub234 :: ub235 :: ub236 :: ub237 :: ub238 :: ub239 :: ub240 :: ub241 :: ub242 :: ub243 :: ub244 :: ub245 :: ub246 ::
  ub247 :: ub248 :: ub249 :: ub250 :: ub251 :: ub252 :: ub253 :: ub254 :: ub255 :: ub256 :: ub257 :: ub258 :: ub259 :: ub260 :: ub261 :: ub262 :: ub263 :: ub264 :: ub265 :: ub266 :: ub267 :: ca268 :: ca269 :: ca270 :: ca271 ::
  ca272 :: ca273 :: ca274 :: ca275 :: ca276 :: ca277 :: ca278 :: ca279 :: ca280 :: ca281 :: ca282 :: ca283 :: ca284 :: ca285 :: ca286 :: []),[]⟩ wz:=by
 conv=>arg 2;arg 1;whnf
 obtain ⟨i1,hj,hy0,hy1,hy2⟩:=info_parts Tryz.infoU32
 go_loopw [8] (fun a wq=>∃ m:Nat,m ≤ p.length / 64 ∧ a = .int .i64 ((64 * m:Nat):Int) ∧ OfSt w (.slice (some ⟨g3,0,none⟩) p.length cap3) p (z1k p m) wq) (fun a _=>p.length - (intOf a).toNat)
 case atStart=>exact ⟨0,by omega,rfl,HST.out⟩
 case round =>
  clear HST
  obtain ⟨m,hm2,rfl,hst⟩:=hrel
  obtain ⟨w4,hw4⟩:∃ x,x = wr:=⟨_,rfl⟩
  subst hw4
  have HST:=Lib.hid hst
  clear hst
  by_cases hlt:m < p.length / 64
  ·have hlt2:64 * m < p.length:=by omega
   have hm64:64 * m + 64 ≤ p.length:=by omega
   have HBY:=Lib.hid (show ∀ j,wAt p m j < 256 from fun j=>z1v HP.out (by decide) _)
   go_wp2_with (at_make;refine wpList_make_full _ rfl _ _ 139 rfl w4.heap.size 143 i1 (.int .u32 0) 1 Tryz.underlying139 hj hy0 hy1 .i64 .i64 64 64 64 rfl rfl rfl rfl (by rw [hy2];omega) (by unfold maxLen;omega) (Nat.le_refl _) ?_)
   intro w5 ho hgrow
   rw [toList_madeCells_one] at ho
   have HW:=Lib.hid (show OwnN w4.heap.size 143 .u32 (.slice (some ⟨w4.heap.size,0,none⟩) 64 64) (z5g (wAt p m) 0) w5 from ho)
   have HB5:=Lib.hid ((Below.refl w4.heap.size w4).grown hgrow (Nat.le_refl _) (by intro g hg;cases hg))
   clear ho hgrow
   go_wp2_with fail
   refine z30 (of_loop4 hpl3 hm64 (Lib.hid HST.out.b) HBY HW HB5 _ (Lib.hid ?_))
   rintro w6 ⟨ho,hb⟩
   intros
   clear HW HB5
   have HW:=Lib.hid ho
   have HB5:=Lib.hid hb
   clear ho hb
   go_wp2_with fail
   refine z30 (of_loop6 HBY HW HB5 _ (Lib.hid ?_))
   rintro w6 ⟨ho,hb⟩
   intros
   clear HW HB5
   have HW:=Lib.hid ho
   have HB5:=Lib.hid hb
   clear ho hb
   have hsz:=HB5.out.size
   have HST6:=Lib.hid (HST.out.below HB5.out)
   have hcs:=HST6.out.h.at
   have hr1:=(HST6.out.h.lt _ rfl).2
   go_wp2_with (at_builtin;refine wpList_append_own_at _ rfl _ _ 139 rfl w6.heap.size 143 i1 (.int .u32 0) 1 4 Tryz.underlying139 hj hy0 hy1 hy2 rfl (by decide) _ _ _ rfl (World.ownsRow_lit w6 #[] 0 (Nat.le_refl _) (by unfold maxLen;omega) rfl) ⟨w.heap.size + 1,0,none⟩ 8 8 (z06 .u32 (z1k p m).list) rfl rfl ?c1 ?c2 ?c3 ?c4 ?c5 ?_)
   case c1 =>
    intro j u h
    have:=World.ownsRow.cells HST6.out.h rfl j u h
    rw [Addr.add_lit,Nat.zero_add] at this
    exact this
   case c2=>exact z4w _ _
   case c3=>unfold maxLen;omega
   try case c4=>omega
   try case c5=>simp
   intro v7 w7 ho hgrow _ _
   have HV:=Lib.hid (show OwnN w6.heap.size 143 .u32 v7 (z1k p m).list w7 from ho)
   have HB7:=Lib.hid (((Below.refl w6.heap.size w6).alloc (Nat.le_refl _) _).grown hgrow (by simp) (by intro g hg;simp [Value.ownBlock] at hg;omega))
   clear ho hgrow hcs
   go_wp2_with fail
   refine z30 (of_loop7 HBY (Lib.hid (z3b p m)) (Lib.hid HST6.out.k) HW HV HB7 _ (Lib.hid ?_))
   rintro v8 w8 ⟨ho,hb⟩
   intros
   clear HV HB7 HW HB5 HBY
   have HST8:=Lib.hid (HST6.out.below hb)
   obtain ⟨gv,cv,rfl,hgv,hgv2⟩:=ho.formB (Nat.zero_lt_succ 7)
   rw [S8.list_len]
   have HV:=Lib.hid ho
   clear ho hb HST6
   have hne:w.heap.size + 1 ≠ gv:=by omega
   go_wp2_with fail
   refine z30 (of_loop8 hne (Lib.hid (z3b p m)) (Lib.hid (rl_ok (z3b p m) _ _)) (Lib.hid HST8.out.h) HV _ (Lib.hid ?_))
   rintro w9 ⟨ho,hb⟩
   intros
   have HST9:=Lib.hid (show OfSt w (.slice (some ⟨g3,0,none⟩) p.length cap3) p (z1k p (m + 1)) w9 from HST8.out.next hb ho)
   clear ho hb HST8 HV
   go_wp2_with fail
   exact ⟨⟨m + 1,by omega,by go_num,HST9.out⟩,by simp [intOf];omega⟩
  ·obtain rfl:m = p.length / 64:=by omega
   have hge:¬ 64 * (p.length / 64) < p.length:=by have:=HPL.out;omega
   go_wp2_with fail
   exact z1y (hexit.out _ HST.out)
theorem of_any (s:List UInt8) (w:World) (hm:s.length ≤ 140737488350000) :
 Calls Tryz.prog 87 #[.string ⟨s.toArray⟩] w fun e w'=>e = .returned (.agg (z06 .u8 (z6x s)).toArray) ∧ Below w.heap.size w w':=by
 obtain ⟨i0,hi,hz0,hz1,hz2⟩:=info_parts Tryz.infoU8
 go_enter Tryz.func87,Tryz.ntmps87
 go_wp2_with fail
 refine (zhi _).mono ?_
 rintro e w1 ⟨rfl,h1,h2,hb⟩
 have HR:=Lib.hid ((hb.block w.heap.size (by simp)).trans (heap_alloc_new w _))
 have HB:=Lib.hid (((Below.refl w.heap.size w).alloc (Nat.le_refl _) _).trans (hb.mono (by simp)))
 simp at h1 h2
 have H1:=Lib.hid h1
 have H2:=Lib.hid h2
 clear h1 h2 hb
 go_wp2_with fail
 obtain ⟨g,cap,w2,hrun,ho,hb⟩:=zgc s w1 (by unfold maxLen;omega)
 rw [hrun]
 simp only [Result.andThen]
 rw [Oper.upon_value]
 have HO:=Lib.hid ho
 have HB2:=Lib.hid hb
 clear hrun ho hb
 go_wp2_with (at_builtin;refine z2q rfl _ _ 121 rfl w1.heap.size 5 i0 (.int .u8 0) 1 .u8 Tryz.underlying121 hi hz0 hz1 hz2 rfl _ _ rfl (HO.out.alloc _) ⟨w2.heap.size,0,none⟩ 1 128 rfl (cell_one_new _ _ _) ?c3 ?c4 ?c5 ?_)
 case c3=>rw [z0w];unfold maxLen;omega
 case c4=>rw [z0w];omega
 case c5=>have:=HB2.out.size;simp;omega
 intro v3 w3 ho hgrow _
 have HB3:=Lib.hid (z6n HB2.out HB2.out.size HO.out hgrow)
 have HO3:=Lib.hid (show OwnT w1.heap.size 5 .u8 v3 (z38 s 0) w3 by unfold z38;rw [List.replicate_zero,List.append_nil];exact ho)
 clear HO HB2 ho hgrow
 go_wp2_with fail
 refine z30 (of_loop1 hm HO3 HB3 _ (Lib.hid ?_))
 rintro v4 w4 ⟨ho,hb⟩
 intros
 clear HO3 HB3
 have HO3:=Lib.hid ho
 have HB3:=Lib.hid hb
 clear ho hb
 have hz:z1m s.length ≤ 63:=by unfold z1m;omega
 have HN:=Lib.hid (zfx s)
 obtain ⟨z,hzn⟩:∃ z,z = z1m s.length:=⟨_,rfl⟩
 rw [← hzn] at hz HN HO3
 obtain ⟨N,hN⟩:∃ N,N = s.length * 8:=⟨_,rfl⟩
 rw [← hN] at HN
 have HNN:=Lib.hid (show N < 18446744073709551616 by omega)
 have hN2:(s.length:Int) * 8 = (N:Int):=by omega
 clear hzn hN
 go_wp2_with fail
 clear hN2
 refine z30 (of_loop2 hm hz HNN HO3 HB3 _ (Lib.hid ?_))
 rintro v5 w5 ⟨ho,hb⟩
 intros
 rw [← HN.out] at ho
 clear HO3 HB3 HN HNN hz
 have hpl:=padN_mod s
 have hlt2:=padN_lt s
 have hpl2:=z92 s
 have hz:z1m s.length ≤ 63:=by unfold z1m;omega
 have HP:=Lib.hid hlt2
 have HPL:=Lib.hid hpl
 have HF:=Lib.hid (show zbx (z1k (z3y s) ((z3y s).length / 64)).list = z6x s from rfl)
 generalize z3y s = p at ho HP HPL hpl2 HF
 have hpl3:p.length ≤ 140737488350100:=by omega
 clear hlt2 hpl hpl2 hz
 obtain ⟨g3,cap3,rfl⟩:=ho.form
 have hr:=(H2.out.lt (w.heap.size + 1 + 1) rfl).2
 have HST:=Lib.hid (show OfSt w (.slice (some ⟨g3,0,none⟩) p.length cap3) p (z1k p 0) w5 from
  ⟨H1.out.below hb,H2.out.below hb,ho.mono (by omega),(hb.block _ (by omega)).trans HR.out,HB.out.trans (hb.mono HB.out.size)⟩)
 clear H1 H2 HR HB hr ho hb
 go_wp2_with fail
 refine z30 (of_loop3 hpl3 HPL HP HST _ (Lib.hid ?_))
 rintro w6 hst
 intros
 clear HST
 have hsz:=hst.bel.size
 have hl:=(hst.h.lt _ rfl).2
 have HST:=Lib.hid hst
 clear hst
 go_wp2_with fail
 refine z30 (of_loop9 (h0:=z1k p (p.length / 64)) (BH:=w.heap.size + 1) (db:=w6.heap.size) ?hne (Lib.hid (z3b _ _)) (Lib.hid (HST.out.h.alloc _)) (Lib.hid ?hd) _ (Lib.hid ?_))
 case hne=>omega
 case hd=>exact (heap_alloc_new w6 _).trans rfl
 rintro w7 ⟨hd,hb⟩
 intros
 rw [HF.out] at hd
 have HD:=Lib.hid hd
 have hr1:=(hb.block w.heap.size (by simp;omega) (by omega)).trans ((heap_alloc_old w6 _ (by omega)).trans HST.out.r)
 have HB:=Lib.hid (But.toBelow (HST.out.bel.alloc hsz _) hb hsz (by simp;omega))
 have HR1:=Lib.hid hr1
 clear hb hd hr1 HST
 have hI:(Tryz.prog.info? 25).map (·.size) = some (z06 .u8 (z6x s)).toArray.size:=by rw [z13,z3m];exact Tryz.infoId
 have HI:=Lib.hid hI
 have HL:=Lib.hid (show (z06 .u8 (List.replicate 32 0)).toArray.size = (z06 .u8 (z6x s)).toArray.size by rw [z13,z13,z3m,List.length_replicate])
 clear hI
 go_wp2_with (first | (refine wpList_load_row rfl 25 _ rfl w6.heap.size rfl 25 _ _ _ HD.out Tryz.underlying25 rfl HI.out ?_) | (refine wpList_store_rowTo rfl 25 _ _ rfl rfl w.heap.size (z06 .u8 (z6x s)).toArray rfl rfl 25 _ HR1.out HI.out HL.out (z78 _ _) ?_))
 exact bodyPost_ret (results_cell_row rfl _ _ w.heap.size 25 _ (0,0) _ rfl (setRow_heap _ _ _ _ _ _ HR1.out) Tryz.underlying25 rfl HI.out) rfl ⟨rfl,below_setRow HB.out (Nat.le_refl _) _⟩
theorem strs_one (l:List (List UInt8)):∀ u ∈ zdt l,u.oneCell' = true:=by
 intro u hu
 simp only [zdt,List.mem_map] at hu
 obtain ⟨n,_,rfl⟩:=hu
 rfl
theorem zf4 (w:World) (p:List UInt8):OwnS w.heap.size (.slice (some ⟨w.heap.size,0,none⟩) 1 1) [p] (w.alloc (.cells #[.string ⟨p.toArray⟩] 9)):=by
 have h:=World.ownsRow_lit (base:=w.heap.size) (e:=9) (size:=1) w #[.string ⟨p.toArray⟩] 1 (Nat.le_refl _) (by unfold maxLen;omega) rfl
 exact h
theorem z40 {w:World} {ops:Array Oper} {rest:List Oper} {o:Oper} {a:Act} {Q:Exit → Act → World → Prop} (hgd:o.guard = none) (s x:Operand)
 (ho:o.op = .call { callee:=.builtin .append,args:=#[s,x],argTypes:=#[67,67] })
 (B:Nat) (v:Value) (l m:List (List UInt8)) (ao:Option Addr) (c:Nat) (hs:a.eval s = v) (hown:OwnS B v l w) (hx:a.eval x = .slice ao m.length c) (hsrc:StrsAt ao m w) (hnil:ao = none → c = 0)
 (hlen:l.length + m.length ≤ 8796093022208) (hB:B ≤ w.heap.size)
 (h:∀ v' w',Hid (OwnS B v' (l ++ m) w') → Hid (Below B w w') → wpList Tryz.prog ops Q rest (a.put o.dst v') w'):wpList Tryz.prog ops Q (o :: rest) a w:=by
 obtain ⟨i,hi,hz0,hz1,hz2⟩:=info_parts Tryz.infoString
 cases ao with
 | none =>
   obtain rfl:=hnil rfl
   have hm:m = []:=by
    rcases hsrc with h | ⟨b,o',h,_⟩
    ·exact h
    ·cases h
   subst hm
   refine wpList_append_own_none hgd s x _ ho B 9 i 1 Tryz.underlying67 hi v l.length (zdt l) hs hown hx (h _ _ ?_ (Below.refl _ _))
   rw [List.append_nil]
   exact hown
 | some ad =>
   refine wpList_append_own_at w hgd s x _ ho B 9 i (.string ⟨#[]⟩) 1 16 Tryz.underlying67 hi hz0 hz1 hz2 rfl (by decide) v l.length (zdt l) hs hown ad m.length c (zdt m) hx (by rw [z9j,Nat.mul_one]) ?_ (strs_one m)
    (by unfold maxLen;omega) (by omega) hB ?_
   ·intro j u hj
    rcases hsrc with h0 | ⟨b,o',h0,_,hc⟩
    ·subst h0;simp [zdt] at hj
    ·obtain rfl:=Option.some.inj h0
     have hj':j < m.length:=by
      have:=(List.getElem?_eq_some_iff.1 hj).1
      rwa [z9j] at this
     have e:(⟨b,o',none⟩:Addr).add j = ⟨b,o' + j,none⟩:=by simp only [Addr.add];split <;> simp_all
     rw [e,hc j hj',← hj,zdt,List.getElem?_map,List.getElem?_eq_getElem hj']
     rfl
   ·intro v' w' h2 hg _ _
    refine h v' w' ?_ ((Below.refl B w).grown hg hB (fun k hk=>(World.ownsRow.lt hown k hk).1))
    show w'.ownsRow B 9 1 v' (l ++ m).length (zdt (l ++ m))
    rw [List.length_append,show zdt (l ++ m) = zdt l ++ zdt m by simp [zdt]]
    exact h2
theorem dev_sum (p:List UInt8) (ao:Option Addr) (c:Nat) (l:List (List UInt8)) (w:World) (hs:StrsAt ao l w) (hnil:ao = none → c = 0) (hl:l.length ≤ 8796093000000) (hb:(z2l (p :: l)).length ≤ 140737488350000) (hk:KAt w) :
 Calls Tryz.prog 76 #[.string ⟨p.toArray⟩,.slice ao l.length c] w fun e w'=>e = .returned (.agg (z06 .u8 (z6x (z2l (p :: l)))).toArray) ∧ Below w.heap.size w w':=by
 have HS:=Lib.hid hs
 have HK:=Lib.hid hk
 have HN:=Lib.hid hnil
 have HLB:=Lib.hid hb
 clear hs hk hnil hb
 go_enter Tryz.func76,Tryz.ntmps76
 go_upto_region 1 with (fail)
 change Code.wp _ _ _ _ (w.alloc (.cells (z06 .u8 (List.replicate 32 0)).toArray 25))
 obtain ⟨wa,hwa⟩:∃ x,x = w.alloc (.cells (z06 .u8 (List.replicate 32 0)).toArray 25):=⟨_,rfl⟩
 rw [← hwa]
 have hb:Below w.heap.size w wa:=by rw [hwa];exact (Below.refl _ _).alloc (Nat.le_refl _) _
 have HR:=Lib.hid (show Blk w.heap.size 25 .u8 (List.replicate 32 0) wa by rw [hwa];exact heap_alloc_new w _)
 have HKa:=Lib.hid (HK.out.below hb)
 have HSa:=Lib.hid (HS.out.below hb)
 have HB:=Lib.hid hb
 clear hwa hb HK HS
 have hsza:=HB.out.size
 go_wp2_with (at_builtin;refine z40 rfl _ _ rfl wa.heap.size _ [p] l ao c rfl (zf4 wa p) rfl (HSa.out.below ((Below.refl _ _).alloc (Nat.le_refl _) _)) HN.out (by simp;omega) (by simp) ?_)
 intro v w1 hown hb1
 have hb1':Below wa.heap.size wa w1:=((Below.refl wa.heap.size wa).alloc (Nat.le_refl _) _).trans hb1.out
 obtain ⟨a1,c1,rfl⟩:=hown.out.form
 have HO:=Lib.hid (show OwnS wa.heap.size (.slice a1 (p :: l).length c1) (p :: l) w1 from hown.out)
 have HR1:=Lib.hid (HR.out.below hb1')
 have HK1:=Lib.hid (HKa.out.below hb1')
 have HB1:=Lib.hid (HB.out.trans (hb1'.mono hsza))
 clear hown hb1 hb1' HR HKa HSa
 go_wp2_with fail
 refine (zbi a1 c1 (p :: l) w1 (z64 HO.out) (by simp;omega) (by have:=HLB.out;omega)).mono ?_
 rintro e w2 ⟨rfl,hb2⟩
 have HR2:=Lib.hid (HR1.out.below hb2)
 have HK2:=Lib.hid (HK1.out.below hb2)
 have HB2:=Lib.hid (HB1.out.trans (hb2.mono HB1.out.size))
 clear hb2 HR1 HK1 HB1 HO
 go_wp2_with fail
 refine (dev_of (z2l (p :: l)) w2 HLB.out HK2.out).mono ?_
 rintro e w3 ⟨rfl,hb3⟩
 have HR3:=Lib.hid (HR2.out.below hb3)
 have HB3:=Lib.hid (HB2.out.trans (hb3.mono HB2.out.size))
 have HI:=Lib.hid (show (Tryz.prog.info? 25).map (·.size) = some (z6x (z2l (p :: l))).length by rw [z3m];exact Tryz.infoId)
 have HL:=Lib.hid (show (List.replicate 32 0).length = (z6x (z2l (p :: l))).length by rw [z3m,List.length_replicate])
 clear hb3 HR2 HK2 HB2
 go_wp2_with (refine z04 rfl 25 _ _ rfl rfl w.heap.size .u8 _ (z6x (z2l (p :: l))) 25 rfl rfl HR3.out HI.out HL.out ?_)
 intro w7 hc hb
 have HC7:=Lib.hid (show Blk w.heap.size 25 .u8 (z6x (z2l (p :: l))) w7 from hc.out)
 have HB7:=Lib.hid (show Below w.heap.size w w7 from But.toBelow HB3.out hb.out (Nat.le_refl _) HB3.out.size)
 clear hc hb
 go_wp2_with fail
 exact bodyPost_ret (z27 rfl _ _ w.heap.size .u8 _ 25 _ rfl HC7.out Tryz.underlying25 rfl HI.out) rfl ⟨rfl,HB7.out⟩
theorem ref_sum (p:List UInt8) (ao:Option Addr) (c:Nat) (l:List (List UInt8)) (w:World) (hs:StrsAt ao l w) (hnil:ao = none → c = 0) (hl:l.length ≤ 8796093000000) (hb:(z2l (p :: l)).length ≤ 140737488350000) :
 Calls Tryz.prog 62 #[.string ⟨p.toArray⟩,.slice ao l.length c] w fun e w'=>e = .returned (.agg (z06 .u8 (z6x (z2l (p :: l)))).toArray) ∧ Below w.heap.size w w':=by
 have HS:=Lib.hid hs
 have HN:=Lib.hid hnil
 have HLB:=Lib.hid hb
 clear hs hnil hb
 go_enter Tryz.func62,Tryz.ntmps62
 go_upto_region 1 with (fail)
 change Code.wp _ _ _ _ (w.alloc (.cells (z06 .u8 (List.replicate 32 0)).toArray 25))
 obtain ⟨wa,hwa⟩:∃ x,x = w.alloc (.cells (z06 .u8 (List.replicate 32 0)).toArray 25):=⟨_,rfl⟩
 rw [← hwa]
 have hb:Below w.heap.size w wa:=by rw [hwa];exact (Below.refl _ _).alloc (Nat.le_refl _) _
 have HR:=Lib.hid (show Blk w.heap.size 25 .u8 (List.replicate 32 0) wa by rw [hwa];exact heap_alloc_new w _)
 have HSa:=Lib.hid (HS.out.below hb)
 have HB:=Lib.hid hb
 clear hwa hb HS
 have hsza:=HB.out.size
 go_wp2_with (at_builtin;refine z40 rfl _ _ rfl wa.heap.size _ [p] l ao c rfl (zf4 wa p) rfl (HSa.out.below ((Below.refl _ _).alloc (Nat.le_refl _) _)) HN.out (by simp;omega) (by simp) ?_)
 intro v w1 hown hb1
 have hb1':Below wa.heap.size wa w1:=((Below.refl wa.heap.size wa).alloc (Nat.le_refl _) _).trans hb1.out
 obtain ⟨a1,c1,rfl⟩:=hown.out.form
 have HO:=Lib.hid (show OwnS wa.heap.size (.slice a1 (p :: l).length c1) (p :: l) w1 from hown.out)
 have HR1:=Lib.hid (HR.out.below hb1')
 have HB1:=Lib.hid (HB.out.trans (hb1'.mono hsza))
 clear hown hb1 hb1' HR HSa
 go_wp2_with fail
 refine (z5j a1 c1 (p :: l) w1 (z64 HO.out) (by simp;omega) (by have:=HLB.out;omega)).mono ?_
 rintro e w2 ⟨rfl,hb2⟩
 have HR2:=Lib.hid (HR1.out.below hb2)
 have HB2:=Lib.hid (HB1.out.trans (hb2.mono HB1.out.size))
 clear hb2 HR1 HB1 HO
 go_wp2_with fail
 refine (of_any (z2l (p :: l)) w2 HLB.out).mono ?_
 rintro e w3 ⟨rfl,hb3⟩
 have HR3:=Lib.hid (HR2.out.below hb3)
 have HB3:=Lib.hid (HB2.out.trans (hb3.mono HB2.out.size))
 have HI:=Lib.hid (show (Tryz.prog.info? 25).map (·.size) = some (z6x (z2l (p :: l))).length by rw [z3m];exact Tryz.infoId)
 have HL:=Lib.hid (show (List.replicate 32 0).length = (z6x (z2l (p :: l))).length by rw [z3m,List.length_replicate])
 clear hb3 HR2 HB2
 go_wp2_with (refine z04 rfl 25 _ _ rfl rfl w.heap.size .u8 _ (z6x (z2l (p :: l))) 25 rfl rfl HR3.out HI.out HL.out ?_)
 intro w7 hc hb
 have HC7:=Lib.hid (show Blk w.heap.size 25 .u8 (z6x (z2l (p :: l))) w7 from hc.out)
 have HB7:=Lib.hid (show Below w.heap.size w w7 from But.toBelow HB3.out hb.out (Nat.le_refl _) HB3.out.size)
 clear hc hb
 go_wp2_with fail
 exact bodyPost_ret (z27 rfl _ _ w.heap.size .u8 _ 25 _ rfl HC7.out Tryz.underlying25 rfl HI.out) rfl ⟨rfl,HB7.out⟩
theorem shaN_lt (s:List UInt8):∀ x ∈ z6x s,x < 256:=by
 intro x hx
 simp only [z6x,zbx,List.mem_map] at hx
 obtain ⟨i,_,rfl⟩:=hx
 exact Nat.mod_lt _ (by decide)
open Go.BigFrame
theorem zf3 (o:OpN):IdOk (z0a o):=⟨z3m _,shaN_lt _⟩
theorem zhr (w:World) (r:List UInt8):StrsAt (some ⟨w.heap.size,0,none⟩) [r] (w.alloc (.cells #[.string ⟨r.toArray⟩] 9)):=by
 refine z64 (B:=w.heap.size) (c:=1) ?_
 exact World.ownsRow_lit (base:=w.heap.size) (e:=9) (size:=1) w #[.string ⟨r.toArray⟩] 1 (Nat.le_refl _) (by unfold maxLen;omega) rfl
theorem zal {o:OpN} (h:o.Fit):(z2l [[111,112],opB o]).length ≤ 10000:=by
 have h1:=zeh h
 rw [z3c]
 simp only [List.length_cons,List.length_nil,Nat.zero_add,Nat.reduceAdd,z4z,List.length_append]
 have e2:(z1j []).length = 0:=rfl
 have a0:=z5s (n:=2) (by decide)
 have a1:=z2r (t:=[111,112]) (by simp)
 have a2:=z2r (t:=opB o) (by omega)
 simp only [List.length_cons,List.length_nil,Nat.zero_add,Nat.reduceAdd] at a1
 omega
theorem zhn (o:OpN) (pa:Option Addr) (pc:Nat) (w:World) (ho:o.Fit) (hp:IAt pa o.preds w) (hk:KAt w) :
 Calls Tryz.prog 43 #[.agg (opV o pa pc)] w fun e w'=>e = .returned (.agg (z06 .u8 (z0a o)).toArray) ∧ Below w.heap.size w w':=by
 have hb1:Below w.heap.size w (w.alloc (.cells (opV o pa pc) 38)):=(Below.refl _ _).alloc (Nat.le_refl _) _
 have hx1:Cells w.heap.size 38 (opV o pa pc) (w.alloc (.cells (opV o pa pc) 38)):=heap_alloc_new w _
 have hs1:(w.alloc (.cells (opV o pa pc) 38)).heap.size = w.heap.size + 1:=World.size_alloc _ _
 have hb2:Below (w.alloc (.cells (opV o pa pc) 38)).heap.size (w.alloc (.cells (opV o pa pc) 38)) ((w.alloc (.cells (opV o pa pc) 38)).alloc (.cells (z06 .u8 zeroI).toArray 25)):=(Below.refl _ _).alloc (Nat.le_refl _) _
 have hx2:Blk (w.alloc (.cells (opV o pa pc) 38)).heap.size 25 .u8 zeroI ((w.alloc (.cells (opV o pa pc) 38)).alloc (.cells (z06 .u8 zeroI).toArray 25)):=heap_alloc_new _ _
 rw [hs1] at hx2
 have hbb:=hb1.trans (hb2.mono hb1.size)
 have HX:=Lib.hid (hx1.below hb2)
 have HY:=Lib.hid hx2
 have HB:=Lib.hid hbb
 have HP:=Lib.hid (hp.below hbb)
 have HK:=Lib.hid (hk.below hbb)
 have HF:=Lib.hid ho
 have HSV:=Lib.hid (show (Tryz.prog.info? 38).map (·.size) = some (opV o pa pc).size by rw [z07 ho.ok.ref.1];exact Tryz.sizeO)
 clear hb1 hx1 hs1 hb2 hx2 hbb hp hk ho
 go_enter Tryz.func43,Tryz.ntmps43
 go_upto_region 1 with (fail)
 change Code.wp _ _ _ _ ((w.alloc (.cells (opV o pa pc) 38)).alloc (.cells (z06 .u8 zeroI).toArray 25))
 obtain ⟨w1,hw1⟩:∃ x,x = (w.alloc (.cells (opV o pa pc) 38)).alloc (.cells (z06 .u8 zeroI).toArray 25):=⟨_,rfl⟩
 rw [← hw1] at HX HY HB HP HK ⊢
 clear hw1
 go_wp2_with (refine z00 rfl 38 _ rfl w.heap.size (opV o pa pc) 38 _ rfl HX.out Tryz.underlying38 rfl HSV.out ?_)
 refine (zie o pa pc w1 HF.out HP.out).mono ?_
 rintro e w2 ⟨rfl,hb⟩
 have HY2:=Lib.hid (HY.out.below hb)
 have HB2:=Lib.hid (HB.out.trans (hb.mono HB.out.size))
 have HK2:=Lib.hid (HK.out.below hb)
 clear hb HX HY HB HP HK
 have HSM:=Lib.hid (dev_sum [111,112] (some ⟨w2.heap.size,0,none⟩) 1 [opB o] _ (zhr w2 (opB o)) (fun h=>by cases h) (by simp) (by have:=zal HF.out;omega) (HK2.out.below ((Below.refl _ _).alloc (Nat.le_refl _) _)))
 rw [show z6x (z2l [[111,112],opB o]) = z0a o from rfl] at HSM
 have HNL:=Lib.hid (zf3 o).1
 obtain ⟨N,hN⟩:∃ N,z0a o = N:=⟨_,rfl⟩
 have HNE:=Shut.mk hN
 rw [hN] at HSM HNL
 clear hN
 go_wp2_with fail
 refine HSM.out.mono ?_
 rintro e w3 ⟨rfl,hb3⟩
 have hb:Below w2.heap.size w2 w3:=((Below.refl _ w2).alloc (Nat.le_refl _) _).trans (hb3.mono (by simp))
 have HY3:=Lib.hid (HY2.out.below hb)
 have HB3:=Lib.hid (HB2.out.trans (hb.mono HB2.out.size))
 have HI:=Lib.hid (show (Tryz.prog.info? 25).map (·.size) = some N.length by rw [HNL.out];exact Tryz.sizeI)
 have HL2:=Lib.hid (show zeroI.length = N.length by rw [HNL.out];rfl)
 clear hb hb3 HY2 HB2 HK2 HSM
 go_wp2_with (refine z04 rfl 25 _ _ rfl rfl (w.heap.size + 1) .u8 zeroI N 25 rfl rfl HY3.out HI.out HL2.out ?_)
 intro w4 hc hb
 have HC4:=Lib.hid (show Blk (w.heap.size + 1) 25 .u8 N w4 from hc.out)
 have HB4:=Lib.hid (show Below w.heap.size w w4 from But.toBelow HB3.out hb.out (by omega) HB3.out.size)
 clear hc hb HY3 HB3
 go_wp2_with fail
 exact bodyPost_ret (z27 rfl _ _ (w.heap.size + 1) .u8 _ 25 _ rfl HC4.out Tryz.underlying25 rfl HI.out) rfl ⟨by rw [HNE.out],HB4.out⟩
theorem z4o (o:OpN) (pa:Option Addr) (pc:Nat) (w:World) (ho:o.Fit) (hp:IAt pa o.preds w) :
 Calls Tryz.prog 26 #[.agg (opV o pa pc)] w fun e w'=>e = .returned (.agg (z06 .u8 (z0a o)).toArray) ∧ Below w.heap.size w w':=by
 have hb1:Below w.heap.size w (w.alloc (.cells (opV o pa pc) 38)):=(Below.refl _ _).alloc (Nat.le_refl _) _
 have hx1:Cells w.heap.size 38 (opV o pa pc) (w.alloc (.cells (opV o pa pc) 38)):=heap_alloc_new w _
 have hs1:(w.alloc (.cells (opV o pa pc) 38)).heap.size = w.heap.size + 1:=World.size_alloc _ _
 have hb2:Below (w.alloc (.cells (opV o pa pc) 38)).heap.size (w.alloc (.cells (opV o pa pc) 38)) ((w.alloc (.cells (opV o pa pc) 38)).alloc (.cells (z06 .u8 zeroI).toArray 25)):=(Below.refl _ _).alloc (Nat.le_refl _) _
 have hx2:Blk (w.alloc (.cells (opV o pa pc) 38)).heap.size 25 .u8 zeroI ((w.alloc (.cells (opV o pa pc) 38)).alloc (.cells (z06 .u8 zeroI).toArray 25)):=heap_alloc_new _ _
 rw [hs1] at hx2
 have hbb:=hb1.trans (hb2.mono hb1.size)
 have HX:=Lib.hid (hx1.below hb2)
 have HY:=Lib.hid hx2
 have HB:=Lib.hid hbb
 have HP:=Lib.hid (hp.below hbb)
 have HF:=Lib.hid ho
 have HSV:=Lib.hid (show (Tryz.prog.info? 38).map (·.size) = some (opV o pa pc).size by rw [z07 ho.ok.ref.1];exact Tryz.sizeO)
 clear hb1 hx1 hs1 hb2 hx2 hbb hp ho
 go_enter Tryz.func26,Tryz.ntmps26
 go_upto_region 1 with (fail)
 change Code.wp _ _ _ _ ((w.alloc (.cells (opV o pa pc) 38)).alloc (.cells (z06 .u8 zeroI).toArray 25))
 obtain ⟨w1,hw1⟩:∃ x,x = (w.alloc (.cells (opV o pa pc) 38)).alloc (.cells (z06 .u8 zeroI).toArray 25):=⟨_,rfl⟩
 rw [← hw1] at HX HY HB HP ⊢
 clear hw1
 go_wp2_with (refine z00 rfl 38 _ rfl w.heap.size (opV o pa pc) 38 _ rfl HX.out Tryz.underlying38 rfl HSV.out ?_)
 refine (zi8 o pa pc w1 HF.out HP.out).mono ?_
 rintro e w2 ⟨rfl,hb⟩
 have HY2:=Lib.hid (HY.out.below hb)
 have HB2:=Lib.hid (HB.out.trans (hb.mono HB.out.size))
 clear hb HX HY HB HP
 have HSM:=Lib.hid (ref_sum [111,112] (some ⟨w2.heap.size,0,none⟩) 1 [opB o] _ (zhr w2 (opB o)) (fun h=>by cases h) (by simp) (by have:=zal HF.out;omega))
 rw [show z6x (z2l [[111,112],opB o]) = z0a o from rfl] at HSM
 have HNL:=Lib.hid (zf3 o).1
 obtain ⟨N,hN⟩:∃ N,z0a o = N:=⟨_,rfl⟩
 have HNE:=Shut.mk hN
 rw [hN] at HSM HNL
 clear hN
 go_wp2_with fail
 refine HSM.out.mono ?_
 rintro e w3 ⟨rfl,hb3⟩
 have hb:Below w2.heap.size w2 w3:=((Below.refl _ w2).alloc (Nat.le_refl _) _).trans (hb3.mono (by simp))
 have HY3:=Lib.hid (HY2.out.below hb)
 have HB3:=Lib.hid (HB2.out.trans (hb.mono HB2.out.size))
 have HI:=Lib.hid (show (Tryz.prog.info? 25).map (·.size) = some N.length by rw [HNL.out];exact Tryz.sizeI)
 have HL2:=Lib.hid (show zeroI.length = N.length by rw [HNL.out];rfl)
 clear hb hb3 HY2 HB2 HSM
 go_wp2_with (refine z04 rfl 25 _ _ rfl rfl (w.heap.size + 1) .u8 zeroI N 25 rfl rfl HY3.out HI.out HL2.out ?_)
 intro w4 hc hb
 have HC4:=Lib.hid (show Blk (w.heap.size + 1) 25 .u8 N w4 from hc.out)
 have HB4:=Lib.hid (show Below w.heap.size w w4 from But.toBelow HB3.out hb.out (by omega) HB3.out.size)
 clear hc hb HY3 HB3
 go_wp2_with fail
 exact bodyPost_ret (z27 rfl _ _ (w.heap.size + 1) .u8 _ 25 _ rfl HC4.out Tryz.underlying25 rfl HI.out) rfl ⟨by rw [HNE.out],HB4.out⟩
theorem z7b (d:DraftN) (hr:IdOk d.ref) (hk:d.key.length ≤ 140737488351232) (hv:d.val.length ≤ 140737488351232) (w:World) :
 Calls Tryz.prog 59 #[.agg (z0d d)] w fun e w'=>e = .returned (.bool (decide (GoodD d))) ∧ Below w.heap.size w w':=by
 have hx:Cells w.heap.size 27 (z0d d) (w.alloc (.cells (z0d d) 27)):=heap_alloc_new w _
 have hb:Below w.heap.size w (w.alloc (.cells (z0d d) 27)):=(Below.refl _ _).alloc (Nat.le_refl _) _
 obtain ⟨c0,c1,c2,c3⟩:=z2z hx
 have HC3:=Lib.hid c3
 have HB:=Lib.hid hb
 have heq:=fun w'=>z2b d.ref zeroI hr.1 zeroI_ok.1 hr.2 zeroI_ok.2 w'
 have HI:=Lib.hid (show (Tryz.prog.info? 25).map (·.size) = some d.ref.length by rw [hr.1];exact Tryz.sizeI)
 obtain ⟨k,hkd⟩:∃ k,d.kind = k:=⟨_,rfl⟩
 obtain ⟨kl,hkl⟩:∃ n,d.key.length = n:=⟨_,rfl⟩
 obtain ⟨vl,hvl⟩:∃ n,d.val.length = n:=⟨_,rfl⟩
 have HG:=Shut.mk (show GoodD d ↔ 1 ≤ k ∧ k ≤ 5 ∧ 1 ≤ kl ∧ kl ≤ 16 ∧ vl ≤ 64 ∧ (k ≤ 3 → d.ref = zeroI) ∧ (k = 5 → d.ref ≠ zeroI ∧ d.val = []) by rw [← hkd,← hkl,← hvl];rfl)
 rw [hkd] at c0
 clear hx hb c3
 by_cases h1:k < 1
 ·have hgd:decide (GoodD d) = false:=decide_eq_false (fun h=>by have:=HG.out.1 h;omega)
  rw [hgd]
  go_enter Tryz.func59,Tryz.ntmps59
  go_wp2_with fail
  go_ret
  exact ⟨rfl,HB.out⟩
 by_cases h2:5 < k
 ·have hgd:decide (GoodD d) = false:=decide_eq_false (fun h=>by have:=HG.out.1 h;omega)
  rw [hgd]
  go_enter Tryz.func59,Tryz.ntmps59
  go_wp2_with fail
  go_ret
  exact ⟨rfl,HB.out⟩
 by_cases h3:kl < 1
 ·have hgd:decide (GoodD d) = false:=decide_eq_false (fun h=>by have:=HG.out.1 h;omega)
  rw [hgd]
  go_enter Tryz.func59,Tryz.ntmps59
  go_wp2_with fail
  go_ret
  exact ⟨rfl,HB.out⟩
 by_cases h4:16 < kl
 ·have hgd:decide (GoodD d) = false:=decide_eq_false (fun h=>by have:=HG.out.1 h;omega)
  rw [hgd]
  go_enter Tryz.func59,Tryz.ntmps59
  go_wp2_with fail
  go_ret
  exact ⟨rfl,HB.out⟩
 by_cases h5:64 < vl
 ·have hgd:decide (GoodD d) = false:=decide_eq_false (fun h=>by have:=HG.out.1 h;omega)
  rw [hgd]
  go_enter Tryz.func59,Tryz.ntmps59
  go_wp2_with fail
  go_ret
  exact ⟨rfl,HB.out⟩
 obtain ⟨z,hz2⟩:∃ z,(d.ref == zeroI) = z:=⟨_,rfl⟩
 have HZ:=Shut.mk hz2
 rw [hz2,zdr] at heq
 clear hz2
 have hzp:(z = true ↔ d.ref = zeroI):=by rw [← HZ.out];simp
 by_cases h6:k ≤ 3
 ·have hgd:decide (GoodD d) = z:=by
   cases z with
   | true=>exact decide_eq_true (HG.out.2 ⟨by omega,by omega,by omega,by omega,by omega,fun _=>hzp.1 rfl,fun h=>by omega⟩)
   | false=>exact decide_eq_false (fun h=>by have:=hzp.2 ((HG.out.1 h).2.2.2.2.2.1 h6);cases this)
  rw [hgd]
  clear hgd hzp
  go_enter Tryz.func59,Tryz.ntmps59
  go_wp2_with (refine z0b rfl 25 _ rfl w.heap.size 3 d.ref _ rfl HC3.out Tryz.underlying25 rfl HI.out ?_)
  go_ret
  exact ⟨rfl,HB.out⟩
 by_cases h7:k = 4
 ·have hgd:decide (GoodD d) = true:=decide_eq_true (HG.out.2 ⟨by omega,by omega,by omega,by omega,by omega,fun h=>by omega,fun h=>by omega⟩)
  rw [hgd]
  clear hgd hzp
  have h8:(k == 4) = true:=by simp [h7]
  go_enter Tryz.func59,Tryz.ntmps59
  go_wp2_with (refine z0b rfl 25 _ rfl w.heap.size 3 d.ref _ rfl HC3.out Tryz.underlying25 rfl HI.out ?_)
  go_ret
  exact ⟨rfl,HB.out⟩
 have h8:(k == 4) = false:=by simp [h7]
 have hgd:decide (GoodD d) = (!z && d.val == []):=by
  rw [z9t]
  cases z with
  | true=>exact decide_eq_false (fun h=>((HG.out.1 h).2.2.2.2.2.2 (by omega)).1 (hzp.1 rfl))
  | false =>
    by_cases hv0:d.val = []
    ·rw [decide_eq_true hv0]
     exact decide_eq_true (HG.out.2 ⟨by omega,by omega,by omega,by omega,by omega,fun h=>by omega,fun _=>⟨fun e=>(by have:=hzp.2 e;cases this),hv0⟩⟩)
    ·rw [decide_eq_false hv0]
     exact decide_eq_false (fun h=>hv0 ((HG.out.1 h).2.2.2.2.2.2 (by omega)).2)
 rw [hgd]
 clear hgd hzp
 cases z with
 | true =>
   go_enter Tryz.func59,Tryz.ntmps59
   go_wp2_with (refine z0b rfl 25 _ rfl w.heap.size 3 d.ref _ rfl HC3.out Tryz.underlying25 rfl HI.out ?_)
   go_ret
   exact ⟨rfl,HB.out⟩
 | false =>
   go_enter Tryz.func59,Tryz.ntmps59
   go_wp2_with (refine z0b rfl 25 _ rfl w.heap.size 3 d.ref _ rfl HC3.out Tryz.underlying25 rfl HI.out ?_)
   go_ret
   exact ⟨rfl,HB.out⟩
end Go.Proofs.YtnbldbbbibpobaaGreatDoor
