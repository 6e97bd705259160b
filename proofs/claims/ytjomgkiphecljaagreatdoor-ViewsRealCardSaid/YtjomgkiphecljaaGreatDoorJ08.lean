/-
  Joined: The document's Of: the loops that pad.; The document's Of: the loops that read a block's words.; The document's Of: the loop that makes the other words.
-/
import Derived.Test.YtjomgkiphecljaaGreatDoorJ06
set_option maxRecDepth 100000
set_option maxHeartbeats 4000000
namespace Go.Proofs.YtjomgkiphecljaaGreatDoor
open Go.RowKit
theorem of_loop1 {s:List UInt8} {v0:Value} {wb w:World}
 {ca0 ca1 ca2 ca3 ca4 ca6 ca7 ca8 ca9 ca10 ca11 ca12 ca13 ca14 ca15 ca16 ca17 ca18 ca19 ca20 ca21 ca22 ca23 ca24 ca25 ca26 ca27 ca28 ca29 ub30
 ub31 ub32 ub33 ub34 ub35 ub36 ca37 ca38 ca39 ca40 ca41 ca42 ca43 ca44 ca45 ca46 ca47 ca48 ca49 ca50 ca51 ca52 ca53 ca54 ca55 ca56 ca57 ca58 ca59 ca60
 ca61 ca62 ca63 ca64 ca65 ca66 ca67 ca68 ca69 ca70 ca71 ca72 ca73 ca74 ca75 ca76 ca77 ca78 ca79 ca80 ca81 ca82 ca83 ca84 ca85 ca86 ca87 ca88 ca89 ca90
 ca91 ca92 ca93 ca94 ca95 ca96 ca97 ca98 ca99 ca100 ca101 ca102 ca103 ca104 ca105 ca106 ca107 ca108 ca109 ca110 ca111 ca112 ca113 ca114 ca115 ca116 ca117 ca118 ca119 ca120
 ca121 ca122 ca123 ca124 ca125 ca126 ca127 ca128 ca129 ca130 ca131 ca132 ca133 ca134 ca135 ca136 ca137 ca138 ca139 ca140 ca141 ca142 ca143 ca144 ca145 ca146 ca147 ca148 ca149 ca150
 ca151 ca152 ca153 ca154 ca155 ca156 ca157 ca158 ca159 ca160 ca161 ca162 ca163 ca164 ca165 ca166 ca167 ca168 ca169 ca170 ca171 ca172 ca173 ca174 ca175 ca176 ca177 ca178 ca179 ca180
 ca181 ca182 ca183 ca184 ca185 ca186 ca187 ca188 ca189 ca190 ca191 ca192 ca193 ca194 ca195 ca196 ca197 ca198 ca199 ca200 ca201 ca202 ca203 ca204 ca205 ca206 ca207 ca208 ca209 ca210
 ca211 ca212 ca213 ca214 ca215 ca216 ca217 ca218 ca219 ca220 ca221 ca222 ca223 ca224 ca225 ca226 ca227 ca228 ca229 ca230 ca231 ca232 ca233 ca234 ca235 ca236 ca237 ca238 ca239 ca240
 ca241 ca242 ca243 ca244 ca245 ca246 ca247 ca248 ca249 ca250 ca251 ca252 ca253 ca254 ca255 ca256 ca257 ca258 ca259 ca260 ca261 ca262 ca263 ca264 ca265 ca266 ca267 ca268 ca269 ca270
 ca271 ca272 ca273 ca274 ca275 ca276 ca277 ca278 ca279 ca280 ca281 ca282 ca283 ca284 ca285 ca286:Value}
 (hm:s.length ≤ 140737488350000) (HO3:Hid (OwnT wb.heap.size 5 .u8 v0 (z3l s 0) w)) (HB3:Hid (Below wb.heap.size wb w))
 (R:Act → World → Prop)
 (hexit:Hid (∀ (v9:Value) (w1:World),OwnT wb.heap.size 5 .u8 v9 (z3l s (z1t s.length)) w1 ∧ Below wb.heap.size wb w1 → ∀ {vb30 vb31 vb32 vb33 vb34 vb35 vb36:Value},
  R ⟨List.toArray (ca0 :: ca1 :: ca2 :: ca3 :: ca4 :: v9 :: ca6 :: ca7 :: ca8 :: ca9 :: ca10 :: ca11 :: ca12 :: ca13 :: ca14 :: ca15 :: ca16 :: ca17 :: ca18 :: ca19 :: ca20 :: ca21 :: ca22 :: ca23 :: ca24 :: ca25 :: ca26 :: ca27 :: ca28 :: ca29 ::
  vb30 :: vb31 :: vb32 :: vb33 :: vb34 :: vb35 :: vb36 :: ca37 :: ca38 :: ca39 :: ca40 :: ca41 :: ca42 :: ca43 :: ca44 :: ca45 :: ca46 :: ca47 :: ca48 :: ca49 :: ca50 :: ca51 :: ca52 :: ca53 :: ca54 :: ca55 :: ca56 :: ca57 ::
  ca58 :: ca59 :: ca60 :: ca61 :: ca62 :: ca63 :: ca64 :: ca65 :: ca66 :: ca67 :: ca68 :: ca69 :: ca70 :: ca71 :: ca72 :: ca73 :: ca74 :: ca75 :: ca76 :: ca77 :: ca78 :: ca79 :: ca80 :: ca81 :: ca82 :: ca83 :: ca84 :: ca85 ::
  ca86 :: ca87 :: ca88 :: ca89 :: ca90 :: ca91 :: ca92 :: ca93 :: ca94 :: ca95 :: ca96 :: ca97 :: ca98 :: ca99 :: ca100 :: ca101 :: ca102 :: ca103 :: ca104 :: ca105 :: ca106 :: ca107 :: ca108 :: ca109 :: ca110 :: ca111 :: ca112 ::
  ca113 :: ca114 :: ca115 :: ca116 :: ca117 :: ca118 :: ca119 :: ca120 :: ca121 :: ca122 :: ca123 :: ca124 :: ca125 :: ca126 :: ca127 :: ca128 :: ca129 :: ca130 :: ca131 :: ca132 :: ca133 :: ca134 :: ca135 :: ca136 :: ca137 ::
  ca138 :: ca139 :: ca140 :: ca141 :: ca142 :: ca143 :: ca144 :: ca145 :: ca146 :: ca147 :: ca148 :: ca149 :: ca150 :: ca151 :: ca152 :: ca153 :: ca154 :: ca155 :: ca156 :: ca157 :: ca158 :: ca159 :: ca160 :: ca161 :: ca162 ::
  ca163 :: ca164 :: ca165 :: ca166 :: ca167 :: ca168 :: ca169 :: ca170 :: ca171 :: ca172 :: ca173 :: ca174 :: ca175 :: ca176 :: ca177 :: ca178 :: ca179 :: ca180 :: ca181 :: ca182 :: ca183 :: ca184 :: ca185 :: ca186 :: ca187 ::
  ca188 :: ca189 :: ca190 :: ca191 :: ca192 :: ca193 :: ca194 :: ca195 :: ca196 :: ca197 :: ca198 :: ca199 :: ca200 :: ca201 :: ca202 :: ca203 :: ca204 :: ca205 :: ca206 :: ca207 :: ca208 :: ca209 :: ca210 :: ca211 :: ca212 ::
  ca213 :: ca214 :: ca215 :: ca216 :: ca217 :: ca218 :: ca219 :: ca220 :: ca221 :: ca222 :: ca223 :: ca224 :: ca225 :: ca226 :: ca227 :: ca228 :: ca229 :: ca230 :: ca231 :: ca232 :: ca233 :: ca234 :: ca235 :: ca236 :: ca237 ::
  ca238 :: ca239 :: ca240 :: ca241 :: ca242 :: ca243 :: ca244 :: ca245 :: ca246 :: ca247 :: ca248 :: ca249 :: ca250 :: ca251 :: ca252 :: ca253 :: ca254 :: ca255 :: ca256 :: ca257 :: ca258 :: ca259 :: ca260 :: ca261 :: ca262 ::
  ca263 :: ca264 :: ca265 :: ca266 :: ca267 :: ca268 :: ca269 :: ca270 :: ca271 :: ca272 :: ca273 :: ca274 :: ca275 :: ca276 :: ca277 :: ca278 :: ca279 :: ca280 :: ca281 :: ca282 :: ca283 :: ca284 :: ca285 :: ca286 :: []),[]⟩ w1)) :
 Code.wp Tryz.prog (Code.loop (z5v Tryz.f86 0)) (Ends 0 R) ⟨List.toArray (ca0 :: ca1 :: ca2 :: ca3 :: ca4 :: v0 :: ca6 :: ca7 :: ca8 :: ca9 :: ca10 :: ca11 :: ca12 :: ca13 :: ca14 :: ca15 :: ca16 :: ca17 :: ca18 :: ca19 :: ca20 :: ca21 :: ca22 :: ca23 :: ca24 :: ca25 :: ca26 :: ca27 :: ca28 :: ca29 ::
  ub30 :: ub31 :: ub32 :: ub33 :: ub34 :: ub35 :: ub36 :: ca37 :: ca38 :: ca39 :: ca40 :: ca41 :: ca42 :: ca43 :: ca44 :: ca45 :: ca46 :: ca47 :: ca48 :: ca49 :: ca50 :: ca51 :: ca52 :: ca53 :: ca54 :: ca55 :: ca56 :: ca57 ::
  ca58 :: ca59 :: ca60 :: ca61 :: ca62 :: ca63 :: ca64 :: ca65 :: ca66 :: ca67 :: ca68 :: ca69 :: ca70 :: ca71 :: ca72 :: ca73 :: ca74 :: ca75 :: ca76 :: ca77 :: ca78 :: ca79 :: ca80 :: ca81 :: ca82 :: ca83 :: ca84 :: ca85 ::
  ca86 :: ca87 :: ca88 :: ca89 :: ca90 :: ca91 :: ca92 :: ca93 :: ca94 :: ca95 :: ca96 :: ca97 :: ca98 :: ca99 :: ca100 :: ca101 :: ca102 :: ca103 :: ca104 :: ca105 :: ca106 :: ca107 :: ca108 :: ca109 :: ca110 :: ca111 :: ca112 ::
  ca113 :: ca114 :: ca115 :: ca116 :: ca117 :: ca118 :: ca119 :: ca120 :: ca121 :: ca122 :: ca123 :: ca124 :: ca125 :: ca126 :: ca127 :: ca128 :: ca129 :: ca130 :: ca131 :: ca132 :: ca133 :: ca134 :: ca135 :: ca136 :: ca137 ::
  ca138 :: ca139 :: ca140 :: ca141 :: ca142 :: ca143 :: ca144 :: ca145 :: ca146 :: ca147 :: ca148 :: ca149 :: ca150 :: ca151 :: ca152 :: ca153 :: ca154 :: ca155 :: ca156 :: ca157 :: ca158 :: ca159 :: ca160 :: ca161 :: ca162 ::
  ca163 :: ca164 :: ca165 :: ca166 :: ca167 :: ca168 :: ca169 :: ca170 :: ca171 :: ca172 :: ca173 :: ca174 :: ca175 :: ca176 :: ca177 :: ca178 :: ca179 :: ca180 :: ca181 :: ca182 :: ca183 :: ca184 :: ca185 :: ca186 :: ca187 ::
  ca188 :: ca189 :: ca190 :: ca191 :: ca192 :: ca193 :: ca194 :: ca195 :: ca196 :: ca197 :: ca198 :: ca199 :: ca200 :: ca201 :: ca202 :: ca203 :: ca204 :: ca205 :: ca206 :: ca207 :: ca208 :: ca209 :: ca210 :: ca211 :: ca212 ::
  ca213 :: ca214 :: ca215 :: ca216 :: ca217 :: ca218 :: ca219 :: ca220 :: ca221 :: ca222 :: ca223 :: ca224 :: ca225 :: ca226 :: ca227 :: ca228 :: ca229 :: ca230 :: ca231 :: ca232 :: ca233 :: ca234 :: ca235 :: ca236 :: ca237 ::
  ca238 :: ca239 :: ca240 :: ca241 :: ca242 :: ca243 :: ca244 :: ca245 :: ca246 :: ca247 :: ca248 :: ca249 :: ca250 :: ca251 :: ca252 :: ca253 :: ca254 :: ca255 :: ca256 :: ca257 :: ca258 :: ca259 :: ca260 :: ca261 :: ca262 ::
  ca263 :: ca264 :: ca265 :: ca266 :: ca267 :: ca268 :: ca269 :: ca270 :: ca271 :: ca272 :: ca273 :: ca274 :: ca275 :: ca276 :: ca277 :: ca278 :: ca279 :: ca280 :: ca281 :: ca282 :: ca283 :: ca284 :: ca285 :: ca286 :: []),[]⟩ w:=by
 conv=>arg 2;arg 1;whnf
 obtain ⟨i0,hi,hz0,hz1,hz2⟩:=info_parts Tryz.infoU8
 go_loopw [5] (fun v wr=>∃ q:Nat,q ≤ z1t s.length ∧ OwnT wb.heap.size 5 .u8 v (z3l s q) wr ∧ Below wb.heap.size wb wr) (fun v _=>s.length + 65 - lenV v)
 case atStart=>exact ⟨0,Nat.zero_le _,HO3.out,HB3.out⟩
 case round =>
  clear HO3 HB3
  obtain ⟨q,hq,ho,hb⟩:=hrel
  obtain ⟨g2,cap2,rfl⟩:=ho.form
  have hll:=z8g s q
  have HO3:=Lib.hid ho
  have HB3:=Lib.hid hb
  clear ho hb
  by_cases hlt:q < z1t s.length
  ·have ht:(((z3l s q).length:Int) % 64 != 56) = true:=by
    rw [bne_iff_ne,hll]
    unfold z1t at hlt
    omega
   go_wp2_with (at_builtin;refine z2v rfl _ _ 136 rfl wb.heap.size 5 i0 (.int .u8 0) 1 .u8 Tryz.underlying136 hi hz0 hz1 hz2 rfl _ _ rfl (HO3.out.alloc _) ⟨wr.heap.size,0,none⟩ 1 0 rfl (cell_one_new _ _ _) ?c3 ?c4 ?c5 ?_)
   case c3=>unfold z1t at hlt;unfold maxLen;omega
   case c4=>unfold z1t at hlt;omega
   case c5=>have:=HB3.out.size;simp;omega
   intro v4 w4 ho hgrow _
   have HB4:=Lib.hid (z7f HB3.out HB3.out.size HO3.out hgrow)
   rw [← zgu] at ho
   obtain ⟨g4,cap4,rfl⟩:=ho.form
   have hll4:=z8g s (q + 1)
   have HO4:=Lib.hid ho
   clear HO3 HB3 ho hgrow ht
   go_wp2_with fail
   exact ⟨⟨q + 1,by omega,HO4.out,HB4.out⟩,by simp only [lenV];unfold z1t at hlt;omega⟩
  ·obtain rfl:q = z1t s.length:=by omega
   have ht:(((z3l s (z1t s.length)).length:Int) % 64 != 56) = false:=by
    rw [bne_eq_false_iff_eq,hll]
    unfold z1t
    omega
   have HLL:=Lib.hid hll
   clear hll hq hlt
   go_wp2_with fail
   exact z26 (hexit.out _ _ ⟨HO3.out,HB3.out⟩)
theorem of_loop2 {s:List UInt8} {v0:Value} {N z:Nat} {wb w:World}
 {ca0 ca1 ca2 ca3 ca4 ca8 ca9 ca10 ca11 ca12 ca13 ca14 ca15 ca16 ca17 ca18 ca19 ca20 ca21 ca22 ca23 ca24 ca25 ca26 ca27 ca28 ca29 ca30 ca31 ca32
 ca33 ca34 ca35 ca36 ca37 ca38 ca39 ca40 ub41 ub42 ub43 ub44 ub45 ub46 ub47 ub48 ub49 ub50 ub51 ub52 ca53 ca54 ca55 ca56 ca57 ca58 ca59 ca60 ca61 ca62
 ca63 ca64 ca65 ca66 ca67 ca68 ca69 ca70 ca71 ca72 ca73 ca74 ca75 ca76 ca77 ca78 ca79 ca80 ca81 ca82 ca83 ca84 ca85 ca86 ca87 ca88 ca89 ca90 ca91 ca92
 ca93 ca94 ca95 ca96 ca97 ca98 ca99 ca100 ca101 ca102 ca103 ca104 ca105 ca106 ca107 ca108 ca109 ca110 ca111 ca112 ca113 ca114 ca115 ca116 ca117 ca118 ca119 ca120 ca121 ca122
 ca123 ca124 ca125 ca126 ca127 ca128 ca129 ca130 ca131 ca132 ca133 ca134 ca135 ca136 ca137 ca138 ca139 ca140 ca141 ca142 ca143 ca144 ca145 ca146 ca147 ca148 ca149 ca150 ca151 ca152
 ca153 ca154 ca155 ca156 ca157 ca158 ca159 ca160 ca161 ca162 ca163 ca164 ca165 ca166 ca167 ca168 ca169 ca170 ca171 ca172 ca173 ca174 ca175 ca176 ca177 ca178 ca179 ca180 ca181 ca182
 ca183 ca184 ca185 ca186 ca187 ca188 ca189 ca190 ca191 ca192 ca193 ca194 ca195 ca196 ca197 ca198 ca199 ca200 ca201 ca202 ca203 ca204 ca205 ca206 ca207 ca208 ca209 ca210 ca211 ca212
 ca213 ca214 ca215 ca216 ca217 ca218 ca219 ca220 ca221 ca222 ca223 ca224 ca225 ca226 ca227 ca228 ca229 ca230 ca231 ca232 ca233 ca234 ca235 ca236 ca237 ca238 ca239 ca240 ca241 ca242
 ca243 ca244 ca245 ca246 ca247 ca248 ca249 ca250 ca251 ca252 ca253 ca254 ca255 ca256 ca257 ca258 ca259 ca260 ca261 ca262 ca263 ca264 ca265 ca266 ca267 ca268 ca269 ca270 ca271 ca272
 ca273 ca274 ca275 ca276 ca277 ca278 ca279 ca280 ca281 ca282 ca283 ca284 ca285 ca286:Value}
 (hm:s.length ≤ 140737488350000) (hz:z ≤ 63) (HNN:Hid (N < 18446744073709551616)) (HO3:Hid (OwnT wb.heap.size 5 .u8 v0 (z3l s z) w)) (HB3:Hid (Below wb.heap.size wb w))
 (R:Act → World → Prop)
 (hexit:Hid (∀ (v9:Value) (w1:World),OwnT wb.heap.size 5 .u8 v9 (z3l s z ++ l8 N 8) w1 ∧ Below wb.heap.size wb w1 → ∀ {vb6 vb7 vb41 vb42 vb43 vb44 vb45 vb46 vb47 vb48 vb49 vb50 vb51 vb52:Value},
  R ⟨List.toArray (ca0 :: ca1 :: ca2 :: ca3 :: ca4 :: v9 :: vb6 :: vb7 :: ca8 :: ca9 :: ca10 :: ca11 :: ca12 :: ca13 :: ca14 :: ca15 :: ca16 :: ca17 :: ca18 :: ca19 :: ca20 :: ca21 :: ca22 :: ca23 :: ca24 :: ca25 :: ca26 :: ca27 :: ca28 :: ca29 ::
  ca30 :: ca31 :: ca32 :: ca33 :: ca34 :: ca35 :: ca36 :: ca37 :: ca38 :: ca39 :: ca40 :: vb41 :: vb42 :: vb43 :: vb44 :: vb45 :: vb46 :: vb47 :: vb48 :: vb49 :: vb50 :: vb51 :: vb52 :: ca53 :: ca54 :: ca55 :: ca56 :: ca57 ::
  ca58 :: ca59 :: ca60 :: ca61 :: ca62 :: ca63 :: ca64 :: ca65 :: ca66 :: ca67 :: ca68 :: ca69 :: ca70 :: ca71 :: ca72 :: ca73 :: ca74 :: ca75 :: ca76 :: ca77 :: ca78 :: ca79 :: ca80 :: ca81 :: ca82 :: ca83 :: ca84 :: ca85 ::
  ca86 :: ca87 :: ca88 :: ca89 :: ca90 :: ca91 :: ca92 :: ca93 :: ca94 :: ca95 :: ca96 :: ca97 :: ca98 :: ca99 :: ca100 :: ca101 :: ca102 :: ca103 :: ca104 :: ca105 :: ca106 :: ca107 :: ca108 :: ca109 :: ca110 :: ca111 :: ca112 ::
  ca113 :: ca114 :: ca115 :: ca116 :: ca117 :: ca118 :: ca119 :: ca120 :: ca121 :: ca122 :: ca123 :: ca124 :: ca125 :: ca126 :: ca127 :: ca128 :: ca129 :: ca130 :: ca131 :: ca132 :: ca133 :: ca134 :: ca135 :: ca136 :: ca137 ::
  ca138 :: ca139 :: ca140 :: ca141 :: ca142 :: ca143 :: ca144 :: ca145 :: ca146 :: ca147 :: ca148 :: ca149 :: ca150 :: ca151 :: ca152 :: ca153 :: ca154 :: ca155 :: ca156 :: ca157 :: ca158 :: ca159 :: ca160 :: ca161 :: ca162 ::
  ca163 :: ca164 :: ca165 :: ca166 :: ca167 :: ca168 :: ca169 :: ca170 :: ca171 :: ca172 :: ca173 :: ca174 :: ca175 :: ca176 :: ca177 :: ca178 :: ca179 :: ca180 :: ca181 :: ca182 :: ca183 :: ca184 :: ca185 :: ca186 :: ca187 ::
  ca188 :: ca189 :: ca190 :: ca191 :: ca192 :: ca193 :: ca194 :: ca195 :: ca196 :: ca197 :: ca198 :: ca199 :: ca200 :: ca201 :: ca202 :: ca203 :: ca204 :: ca205 :: ca206 :: ca207 :: ca208 :: ca209 :: ca210 :: ca211 :: ca212 ::
  ca213 :: ca214 :: ca215 :: ca216 :: ca217 :: ca218 :: ca219 :: ca220 :: ca221 :: ca222 :: ca223 :: ca224 :: ca225 :: ca226 :: ca227 :: ca228 :: ca229 :: ca230 :: ca231 :: ca232 :: ca233 :: ca234 :: ca235 :: ca236 :: ca237 ::
  ca238 :: ca239 :: ca240 :: ca241 :: ca242 :: ca243 :: ca244 :: ca245 :: ca246 :: ca247 :: ca248 :: ca249 :: ca250 :: ca251 :: ca252 :: ca253 :: ca254 :: ca255 :: ca256 :: ca257 :: ca258 :: ca259 :: ca260 :: ca261 :: ca262 ::
  ca263 :: ca264 :: ca265 :: ca266 :: ca267 :: ca268 :: ca269 :: ca270 :: ca271 :: ca272 :: ca273 :: ca274 :: ca275 :: ca276 :: ca277 :: ca278 :: ca279 :: ca280 :: ca281 :: ca282 :: ca283 :: ca284 :: ca285 :: ca286 :: []),[]⟩ w1)) :
 Code.wp Tryz.prog (Code.loop (z5v Tryz.f86 1)) (Ends 2 R) ⟨List.toArray (ca0 :: ca1 :: ca2 :: ca3 :: ca4 :: v0 :: .int .u64 (N:Int) :: .int .i64 0 :: ca8 :: ca9 :: ca10 :: ca11 :: ca12 :: ca13 :: ca14 :: ca15 :: ca16 :: ca17 :: ca18 :: ca19 :: ca20 :: ca21 :: ca22 :: ca23 :: ca24 :: ca25 :: ca26 ::
  ca27 :: ca28 :: ca29 :: ca30 :: ca31 :: ca32 :: ca33 :: ca34 :: ca35 :: ca36 :: ca37 :: ca38 :: ca39 :: ca40 :: ub41 :: ub42 :: ub43 :: ub44 :: ub45 :: ub46 :: ub47 :: ub48 :: ub49 :: ub50 :: ub51 :: ub52 :: ca53 :: ca54 ::
  ca55 :: ca56 :: ca57 :: ca58 :: ca59 :: ca60 :: ca61 :: ca62 :: ca63 :: ca64 :: ca65 :: ca66 :: ca67 :: ca68 :: ca69 :: ca70 :: ca71 :: ca72 :: ca73 :: ca74 :: ca75 :: ca76 :: ca77 :: ca78 :: ca79 :: ca80 :: ca81 :: ca82 ::
  ca83 :: ca84 :: ca85 :: ca86 :: ca87 :: ca88 :: ca89 :: ca90 :: ca91 :: ca92 :: ca93 :: ca94 :: ca95 :: ca96 :: ca97 :: ca98 :: ca99 :: ca100 :: ca101 :: ca102 :: ca103 :: ca104 :: ca105 :: ca106 :: ca107 :: ca108 :: ca109 ::
  ca110 :: ca111 :: ca112 :: ca113 :: ca114 :: ca115 :: ca116 :: ca117 :: ca118 :: ca119 :: ca120 :: ca121 :: ca122 :: ca123 :: ca124 :: ca125 :: ca126 :: ca127 :: ca128 :: ca129 :: ca130 :: ca131 :: ca132 :: ca133 :: ca134 ::
  ca135 :: ca136 :: ca137 :: ca138 :: ca139 :: ca140 :: ca141 :: ca142 :: ca143 :: ca144 :: ca145 :: ca146 :: ca147 :: ca148 :: ca149 :: ca150 :: ca151 :: ca152 :: ca153 :: ca154 :: ca155 :: ca156 :: ca157 :: ca158 :: ca159 ::
  ca160 :: ca161 :: ca162 :: ca163 :: ca164 :: ca165 :: ca166 :: ca167 :: ca168 :: ca169 :: ca170 :: ca171 :: ca172 :: ca173 :: ca174 :: ca175 :: ca176 :: ca177 :: ca178 :: ca179 :: ca180 :: ca181 :: ca182 :: ca183 :: ca184 ::
  ca185 :: ca186 :: ca187 :: ca188 :: ca189 :: ca190 :: ca191 :: ca192 :: ca193 :: ca194 :: ca195 :: ca196 :: ca197 :: ca198 :: ca199 :: ca200 :: ca201 :: ca202 :: ca203 :: ca204 :: ca205 :: ca206 :: ca207 :: ca208 :: ca209 ::
  ca210 :: ca211 :: ca212 :: ca213 :: ca214 :: ca215 :: ca216 :: ca217 :: ca218 :: ca219 :: ca220 :: ca221 :: ca222 :: ca223 :: ca224 :: ca225 :: ca226 :: ca227 :: ca228 :: ca229 :: ca230 :: ca231 :: ca232 :: ca233 :: ca234 ::
  ca235 :: ca236 :: ca237 :: ca238 :: ca239 :: ca240 :: ca241 :: ca242 :: ca243 :: ca244 :: ca245 :: ca246 :: ca247 :: ca248 :: ca249 :: ca250 :: ca251 :: ca252 :: ca253 :: ca254 :: ca255 :: ca256 :: ca257 :: ca258 :: ca259 ::
  ca260 :: ca261 :: ca262 :: ca263 :: ca264 :: ca265 :: ca266 :: ca267 :: ca268 :: ca269 :: ca270 :: ca271 :: ca272 :: ca273 :: ca274 :: ca275 :: ca276 :: ca277 :: ca278 :: ca279 :: ca280 :: ca281 :: ca282 :: ca283 :: ca284 ::
  ca285 :: ca286 :: []),[]⟩ w:=by
 conv=>arg 2;arg 1;whnf
 obtain ⟨i0,hi,hz0,hz1,hz2⟩:=info_parts Tryz.infoU8
 have HLL:=Lib.hid (z8g s z)
 go_loopw [5,6,7] (fun v n i wr=>∃ q:Nat,q ≤ 8 ∧ i = .int .i64 q ∧ n = .int .u64 ((N * 256 ^ q % 18446744073709551616:Nat):Int) ∧ OwnT wb.heap.size 5 .u8 v (z3l s z ++ l8 N q) wr ∧ Below wb.heap.size wb wr) (fun _ _ i _=>8 - (intOf i).toNat)
 case atStart=>exact ⟨0,by omega,rfl,by rw [Nat.pow_zero,Nat.mul_one,Nat.mod_eq_of_lt HNN.out],by rw [show l8 N 0 = [] from rfl,List.append_nil];exact HO3.out,HB3.out⟩
 case round =>
  clear HO3 HB3
  obtain ⟨q,hq,rfl,rfl,ho,hb⟩:=hrel
  obtain ⟨g3,cap3,rfl⟩:=ho.form
  have hl3:(z3l s z ++ l8 N q).length = s.length + 1 + z + q:=by rw [List.length_append,HLL.out,zfc]
  have hn:=Nat.mod_lt (N * 256 ^ q) (show 18446744073709551616 > 0 by decide)
  have hnx:l8 N (q + 1) = l8 N q ++ [N * 256 ^ q % 18446744073709551616 / 72057594037927936]:=rfl
  have hnn:N * 256 ^ (q + 1) % 18446744073709551616 = N * 256 ^ q % 18446744073709551616 * 256 % 18446744073709551616:=by
   rw [Nat.pow_succ,← Nat.mul_assoc]
   omega
  generalize N * 256 ^ q % 18446744073709551616 = n at hn hnx hnn ⊢
  have HX:=Lib.hid hnx
  have HNX:=Lib.hid hnn
  have HO3:=Lib.hid ho
  have HB3:=Lib.hid hb
  clear ho hb hnx hnn
  by_cases hlt:q < 8
  ·go_wp2_with (at_builtin;refine z2v rfl _ _ 136 rfl wb.heap.size 5 i0 (.int .u8 0) 1 .u8 Tryz.underlying136 hi hz0 hz1 hz2 rfl _ _ rfl (HO3.out.alloc _) ⟨wr.heap.size,0,none⟩ 1 (n / 72057594037927936) rfl (cell_one_new _ _ _) ?c3 ?c4 ?c5 ?_)
   case c3=>unfold maxLen;omega
   case c4=>omega
   case c5=>have:=HB3.out.size;simp;omega
   intro v4 w4 ho hgrow _
   have HB4:=Lib.hid (z7f HB3.out HB3.out.size HO3.out hgrow)
   rw [← HX.out] at ho
   have HO4:=Lib.hid ho
   clear HO3 HB3 ho hgrow
   obtain ⟨y,hy⟩:∃ y,y = n * 256 % 18446744073709551616:=⟨_,rfl⟩
   have hw:IntKind.u64.wrap ((n:Int) * 256) = (y:Int):=by simp [IntKind.wrap,IntKind.bits,IntKind.signed];omega
   have HY:=Lib.hid hy
   clear hy
   go_wp2_with fail
   exact ⟨⟨q + 1,by omega,by go_num,by rw [HNX.out,HY.out],HO4.out,HB4.out⟩,by simp [intOf];omega⟩
  ·obtain rfl:q = 8:=by omega
   rw [show ((8:Nat):Int) = 8 from rfl]
   clear hl3
   go_wp2_with fail
   exact z26 (hexit.out _ _ ⟨HO3.out,HB3.out⟩)
theorem of_loop5 {B0 k:Nat} {p:List Nat} {g3 cap3 m:Nat} {w4 w:World}
 {ca0 ca1 ca2 ca3 ca4 ca6 ca7 ca12 ca13 ca14 ca15 ca16 ca17 ca18 ca19 ca20 ca21 ca22 ca23 ca24 ca25 ca26 ca27 ca28 ca29 ca30 ca31 ca32 ca33 ca34
 ca35 ca36 ca37 ca38 ca39 ca40 ca41 ca42 ca43 ca44 ca45 ca46 ca47 ca48 ca49 ca50 ca51 ca52 ca53 ca54 ca55 ca56 ca57 ca58 ca59 ca60 ca61 ca62 ca63 ub64
 ub65 ub66 ub67 ub68 ub69 ub70 ub71 ub72 ub73 ub74 ub75 ub76 ub77 ub78 ub79 ub80 ub81 ub82 ub83 ub84 ub85 ub86 ca87 ca88 ca89 ca90 ca91 ca92 ca93 ca94
 ca95 ca96 ca97 ca98 ca99 ca100 ca101 ca102 ca103 ca104 ca105 ca106 ca107 ca108 ca109 ca110 ca111 ca112 ca113 ca114 ca115 ca116 ca117 ca118 ca119 ca120 ca121 ca122 ca123 ca124
 ca125 ca126 ca127 ca128 ca129 ca130 ca131 ca132 ca133 ca134 ca135 ca136 ca137 ca138 ca139 ca140 ca141 ca142 ca143 ca144 ca145 ca146 ca147 ca148 ca149 ca150 ca151 ca152 ca153 ca154
 ca155 ca156 ca157 ca158 ca159 ca160 ca161 ca162 ca163 ca164 ca165 ca166 ca167 ca168 ca169 ca170 ca171 ca172 ca173 ca174 ca175 ca176 ca177 ca178 ca179 ca180 ca181 ca182 ca183 ca184
 ca185 ca186 ca187 ca188 ca189 ca190 ca191 ca192 ca193 ca194 ca195 ca196 ca197 ca198 ca199 ca200 ca201 ca202 ca203 ca204 ca205 ca206 ca207 ca208 ca209 ca210 ca211 ca212 ca213 ca214
 ca215 ca216 ca217 ca218 ca219 ca220 ca221 ca222 ca223 ca224 ca225 ca226 ca227 ca228 ca229 ca230 ca231 ca232 ca233 ca234 ca235 ca236 ca237 ca238 ca239 ca240 ca241 ca242 ca243 ca244
 ca245 ca246 ca247 ca248 ca249 ca250 ca251 ca252 ca253 ca254 ca255 ca256 ca257 ca258 ca259 ca260 ca261 ca262 ca263 ca264 ca265 ca266 ca267 ca268 ca269 ca270 ca271 ca272 ca273 ca274
 ca275 ca276 ca277 ca278 ca279 ca280 ca281 ca282 ca283 ca284 ca285 ca286:Value}
 (hpl3:p.length ≤ 140737488350100) (hm:64 * m + 64 ≤ p.length) (hst:Hid (OwnT B0 5 .u8 (.slice (some ⟨g3,0,none⟩) p.length cap3) p w4)) (HBY:Hid (∀ j,wAt p m j < 256)) (hlk:k < 16)
 (HW:Hid (OwnN w4.heap.size 151 .u32 (.slice (some ⟨w4.heap.size,0,none⟩) 64 64) (z60 (wAt p m) k) w)) (HB5:Hid (Below w4.heap.size w4 w))
 (R:Act → World → Prop)
 (hexit:Hid (∀  (w1:World),OwnN w4.heap.size 151 .u32 (.slice (some ⟨w4.heap.size,0,none⟩) 64 64) (z60 (wAt p m) (k + 1)) w1 ∧ Below w4.heap.size w4 w1 → ∀ {vb11 vb64 vb65 vb66 vb67 vb68 vb69 vb70 vb71 vb72 vb73 vb74 vb75 vb76 vb77 vb78 vb79 vb80 vb81 vb82 vb83 vb84 vb85 vb86:Value},
  R ⟨List.toArray (ca0 :: ca1 :: ca2 :: ca3 :: ca4 :: .slice (some ⟨g3,0,none⟩) p.length cap3 :: ca6 :: ca7 :: .int .i64 ((64 * m:Nat):Int) :: .slice (some ⟨w4.heap.size,0,none⟩) 64 64 :: .int .i64 (k:Int) :: vb11 :: ca12 :: ca13 ::
  ca14 :: ca15 :: ca16 :: ca17 :: ca18 :: ca19 :: ca20 :: ca21 :: ca22 :: ca23 :: ca24 :: ca25 :: ca26 :: ca27 :: ca28 :: ca29 :: ca30 :: ca31 :: ca32 :: ca33 :: ca34 :: ca35 :: ca36 :: ca37 :: ca38 :: ca39 :: ca40 :: ca41 ::
  ca42 :: ca43 :: ca44 :: ca45 :: ca46 :: ca47 :: ca48 :: ca49 :: ca50 :: ca51 :: ca52 :: ca53 :: ca54 :: ca55 :: ca56 :: ca57 :: ca58 :: ca59 :: ca60 :: ca61 :: ca62 :: ca63 :: vb64 :: vb65 :: vb66 :: vb67 :: vb68 :: vb69 ::
  vb70 :: vb71 :: vb72 :: vb73 :: vb74 :: vb75 :: vb76 :: vb77 :: vb78 :: vb79 :: vb80 :: vb81 :: vb82 :: vb83 :: vb84 :: vb85 :: vb86 :: ca87 :: ca88 :: ca89 :: ca90 :: ca91 :: ca92 :: ca93 :: ca94 :: ca95 :: ca96 :: ca97 ::
  ca98 :: ca99 :: ca100 :: ca101 :: ca102 :: ca103 :: ca104 :: ca105 :: ca106 :: ca107 :: ca108 :: ca109 :: ca110 :: ca111 :: ca112 :: ca113 :: ca114 :: ca115 :: ca116 :: ca117 :: ca118 :: ca119 :: ca120 :: ca121 :: ca122 ::
  ca123 :: ca124 :: ca125 :: ca126 :: ca127 :: ca128 :: ca129 :: ca130 :: ca131 :: ca132 :: ca133 :: ca134 :: ca135 :: ca136 :: ca137 :: ca138 :: ca139 :: ca140 :: ca141 :: ca142 :: ca143 :: ca144 :: ca145 :: ca146 :: ca147 ::
  ca148 :: ca149 :: ca150 :: ca151 :: ca152 :: ca153 :: ca154 :: ca155 :: ca156 :: ca157 :: ca158 :: ca159 :: ca160 :: ca161 :: ca162 :: ca163 :: ca164 :: ca165 :: ca166 :: ca167 :: ca168 :: ca169 :: ca170 :: ca171 :: ca172 ::
  ca173 :: ca174 :: ca175 :: ca176 :: ca177 :: ca178 :: ca179 :: ca180 :: ca181 :: ca182 :: ca183 :: ca184 :: ca185 :: ca186 :: ca187 :: ca188 :: ca189 :: ca190 :: ca191 :: ca192 :: ca193 :: ca194 :: ca195 :: ca196 :: ca197 ::
  ca198 :: ca199 :: ca200 :: ca201 :: ca202 :: ca203 :: ca204 :: ca205 :: ca206 :: ca207 :: ca208 :: ca209 :: ca210 :: ca211 :: ca212 :: ca213 :: ca214 :: ca215 :: ca216 :: ca217 :: ca218 :: ca219 :: ca220 :: ca221 :: ca222 ::
  ca223 :: ca224 :: ca225 :: ca226 :: ca227 :: ca228 :: ca229 :: ca230 :: ca231 :: ca232 :: ca233 :: ca234 :: ca235 :: ca236 :: ca237 :: ca238 :: ca239 :: ca240 :: ca241 :: ca242 :: ca243 :: ca244 :: ca245 :: ca246 :: ca247 ::
  ca248 :: ca249 :: ca250 :: ca251 :: ca252 :: ca253 :: ca254 :: ca255 :: ca256 :: ca257 :: ca258 :: ca259 :: ca260 :: ca261 :: ca262 :: ca263 :: ca264 :: ca265 :: ca266 :: ca267 :: ca268 :: ca269 :: ca270 :: ca271 :: ca272 ::
  ca273 :: ca274 :: ca275 :: ca276 :: ca277 :: ca278 :: ca279 :: ca280 :: ca281 :: ca282 :: ca283 :: ca284 :: ca285 :: ca286 :: []),[]⟩ w1)) :
 Code.wp Tryz.prog (Code.loop (z5v Tryz.f86 4)) (Ends 8 R) ⟨List.toArray (ca0 :: ca1 :: ca2 :: ca3 :: ca4 :: .slice (some ⟨g3,0,none⟩) p.length cap3 :: ca6 :: ca7 :: .int .i64 ((64 * m:Nat):Int) :: .slice (some ⟨w4.heap.size,0,none⟩) 64 64 :: .int .i64 (k:Int) :: .int .i64 0 :: ca12 ::
  ca13 :: ca14 :: ca15 :: ca16 :: ca17 :: ca18 :: ca19 :: ca20 :: ca21 :: ca22 :: ca23 :: ca24 :: ca25 :: ca26 :: ca27 :: ca28 :: ca29 :: ca30 :: ca31 :: ca32 :: ca33 :: ca34 :: ca35 :: ca36 :: ca37 :: ca38 :: ca39 :: ca40 ::
  ca41 :: ca42 :: ca43 :: ca44 :: ca45 :: ca46 :: ca47 :: ca48 :: ca49 :: ca50 :: ca51 :: ca52 :: ca53 :: ca54 :: ca55 :: ca56 :: ca57 :: ca58 :: ca59 :: ca60 :: ca61 :: ca62 :: ca63 :: ub64 :: ub65 :: ub66 :: ub67 :: ub68 ::
  ub69 :: ub70 :: ub71 :: ub72 :: ub73 :: ub74 :: ub75 :: ub76 :: ub77 :: ub78 :: ub79 :: ub80 :: ub81 :: ub82 :: ub83 :: ub84 :: ub85 :: ub86 :: ca87 :: ca88 :: ca89 :: ca90 :: ca91 :: ca92 :: ca93 :: ca94 :: ca95 :: ca96 ::
  ca97 :: ca98 :: ca99 :: ca100 :: ca101 :: ca102 :: ca103 :: ca104 :: ca105 :: ca106 :: ca107 :: ca108 :: ca109 :: ca110 :: ca111 :: ca112 :: ca113 :: ca114 :: ca115 :: ca116 :: ca117 :: ca118 :: ca119 :: ca120 :: ca121 ::
  ca122 :: ca123 :: ca124 :: ca125 :: ca126 :: ca127 :: ca128 :: ca129 :: ca130 :: ca131 :: ca132 :: ca133 :: ca134 :: ca135 :: ca136 :: ca137 :: ca138 :: ca139 :: ca140 :: ca141 :: ca142 :: ca143 :: ca144 :: ca145 :: ca146 ::
  ca147 :: ca148 :: ca149 :: ca150 :: ca151 :: ca152 :: ca153 :: ca154 :: ca155 :: ca156 :: ca157 :: ca158 :: ca159 :: ca160 :: ca161 :: ca162 :: ca163 :: ca164 :: ca165 :: ca166 :: ca167 :: ca168 :: ca169 :: ca170 :: ca171 ::
  ca172 :: ca173 :: ca174 :: ca175 :: ca176 :: ca177 :: ca178 :: ca179 :: ca180 :: ca181 :: ca182 :: ca183 :: ca184 :: ca185 :: ca186 :: ca187 :: ca188 :: ca189 :: ca190 :: ca191 :: ca192 :: ca193 :: ca194 :: ca195 :: ca196 ::
  ca197 :: ca198 :: ca199 :: ca200 :: ca201 :: ca202 :: ca203 :: ca204 :: ca205 :: ca206 :: ca207 :: ca208 :: ca209 :: ca210 :: ca211 :: ca212 :: ca213 :: ca214 :: ca215 :: ca216 :: ca217 :: ca218 :: ca219 :: ca220 :: ca221 ::
  ca222 :: ca223 :: ca224 :: ca225 :: ca226 :: ca227 :: ca228 :: ca229 :: ca230 :: ca231 :: ca232 :: ca233 :: ca234 :: ca235 :: ca236 :: ca237 :: ca238 :: ca239 :: ca240 :: ca241 :: ca242 :: ca243 :: ca244 :: ca245 :: ca246 ::
  ca247 :: ca248 :: ca249 :: ca250 :: ca251 :: ca252 :: ca253 :: ca254 :: ca255 :: ca256 :: ca257 :: ca258 :: ca259 :: ca260 :: ca261 :: ca262 :: ca263 :: ca264 :: ca265 :: ca266 :: ca267 :: ca268 :: ca269 :: ca270 :: ca271 ::
  ca272 :: ca273 :: ca274 :: ca275 :: ca276 :: ca277 :: ca278 :: ca279 :: ca280 :: ca281 :: ca282 :: ca283 :: ca284 :: ca285 :: ca286 :: []),[]⟩ w:=by
 conv=>arg 2;arg 1;whnf
 go_loopw [11] (fun q wq=>∃ r:Nat,r ≤ 4 ∧ q = .int .i64 r ∧ OwnN w4.heap.size 151 .u32 (.slice (some ⟨w4.heap.size,0,none⟩) 64 64) ((z60 (wAt p m) k).set k (zlr (wAt p m) k r)) wq ∧ Below w4.heap.size w4 wq) (fun q _=>4 - (intOf q).toNat)
 case atStart=>exact ⟨0,by omega,rfl,by rw [show zlr (wAt p m) k 0 = 0 from rfl,arrW_at (by omega)];exact HW.out,HB5.out⟩
 case round =>
  clear HW HB5
  obtain ⟨r,hr,rfl,ho,hb⟩:=hrel
  have HW:=Lib.hid ho
  have HB5:=Lib.hid hb
  clear ho hb
  by_cases hlr:r < 4
  ·have hil:64 * m + (4 * k + r) < p.length:=by omega
   have hlen:((z60 (wAt p m) k).set k (zlr (wAt p m) k r)).length = 64:=by rw [List.length_set,z7w _ (by omega)]
   have hc1:wr.cell? ⟨w4.heap.size,k,none⟩ = some (.int .u32 (zlr (wAt p m) k r:Int)):=by
    have h:=HW.out
    rw [← hlen] at h
    exact h.cellAt k _ (List.getElem?_set_self (by rw [z7w _ (by omega)];omega))
   have hf1:wr.frozen? ⟨w4.heap.size,k,none⟩ = false:=HW.out.frozenAt hlen.symm k
   have hc2:wr.cell? ⟨g3,64 * m + 4 * k + r,none⟩ = some (.int .u8 (wAt p m (4 * k + r):Int)):=by
    have h:=(hst.out.below HB5.out).cells (g:=g3) rfl _ hil
    rw [Nat.add_assoc,h]
    unfold wAt
    rw [List.getD_eq_getElem?_getD,List.getElem?_eq_getElem hil]
    rfl
   have hac:=accN_lt HBY.out k r (by omega)
   have hby:=HBY.out (4 * k + r)
   have HAC:=Lib.hid (show zlr (wAt p m) k (r + 1) = 256 * zlr (wAt p m) k r + wAt p m (4 * k + r) from rfl)
   have HST5:=Lib.hid (HW.out.stored hlen.symm k (256 * zlr (wAt p m) k r + wAt p m (4 * k + r)))
   clear hlen
   have b1:(k:Int) < 64:=by omega
   have b2:64 * (m:Int) + 4 * (k:Int) + (r:Int) < (p.length:Int):=by omega
   have b3:0 ≤ 64 * (m:Int) + 4 * (k:Int) + (r:Int):=by omega
   have e1:IntKind.i64.wrap (4 * (k:Int)) = 4 * (k:Int):=by rw [IntKind.wrap_i64];omega
   have e2:IntKind.i64.wrap (64 * (m:Int) + 4 * (k:Int)) = 64 * (m:Int) + 4 * (k:Int):=by rw [IntKind.wrap_i64];omega
   have e3:IntKind.i64.wrap (64 * (m:Int) + 4 * (k:Int) + (r:Int)) = 64 * (m:Int) + 4 * (k:Int) + (r:Int):=by rw [IntKind.wrap_i64];omega
   have e4:(64 * (m:Int) + 4 * (k:Int) + (r:Int)).toNat = 64 * m + 4 * k + r:=by omega
   generalize zlr (wAt p m) k r = acc at hc1 hac HAC HST5
   generalize wAt p m (4 * k + r) = by' at hc2 hby HAC HST5
   have e5:IntKind.u32.wrap (256 * (acc:Int)) = 256 * (acc:Int):=by rw [IntKind.wrap_u32];omega
   have e6:IntKind.u32.wrap (by':Int) = (by':Int):=by rw [IntKind.wrap_u32];omega
   have e7:IntKind.u32.wrap (256 * (acc:Int) + (by':Int)) = 256 * (acc:Int) + (by':Int):=by rw [IntKind.wrap_u32];omega
   go_wp2_with fail
   go_region
   clear e1 e2 e3 e4 e5 e6 e7 b2 b3
   go_wp2_with fail
   have hv:((256 * acc + by':Nat):Int) = 256 * (acc:Int) + (by':Int):=by omega
   exact ⟨⟨r + 1,by omega,by go_num,by
    have h:=HST5.out
    rw [List.set_set,hv] at h
    rw [HAC.out]
    exact h,z0v (zg2 HB5.out (Nat.le_refl _) _ _) 1⟩,by simp [intOf];omega⟩
  ·obtain rfl:r = 4:=by omega
   rw [zke,zds hlk] at HW
   go_wp2_with fail
   exact z26 (hexit.out _ ⟨HW.out,HB5.out⟩)
theorem of_loop4 {B0:Nat} {p:List Nat} {g3 cap3 m:Nat} {w4 w:World}
 {ca0 ca1 ca2 ca3 ca4 ca6 ca7 ub11 ca12 ca13 ca14 ca15 ca16 ca17 ca18 ca19 ca20 ca21 ca22 ca23 ca24 ca25 ca26 ca27 ca28 ca29 ca30 ca31 ca32 ca33
 ca34 ca35 ca36 ca37 ca38 ca39 ca40 ca41 ca42 ca43 ca44 ca45 ca46 ca47 ca48 ca49 ca50 ca51 ca52 ca53 ca54 ca55 ca56 ca57 ca58 ca59 ub60 ub61 ub62 ub63
 ub64 ub65 ub66 ub67 ub68 ub69 ub70 ub71 ub72 ub73 ub74 ub75 ub76 ub77 ub78 ub79 ub80 ub81 ub82 ub83 ub84 ub85 ub86 ca87 ca88 ca89 ca90 ca91 ca92 ca93
 ca94 ca95 ca96 ca97 ca98 ca99 ca100 ca101 ca102 ca103 ca104 ca105 ca106 ca107 ca108 ca109 ca110 ca111 ca112 ca113 ca114 ca115 ca116 ca117 ca118 ca119 ca120 ca121 ca122 ca123
 ca124 ca125 ca126 ca127 ca128 ca129 ca130 ca131 ca132 ca133 ca134 ca135 ca136 ca137 ca138 ca139 ca140 ca141 ca142 ca143 ca144 ca145 ca146 ca147 ca148 ca149 ca150 ca151 ca152 ca153
 ca154 ca155 ca156 ca157 ca158 ca159 ca160 ca161 ca162 ca163 ca164 ca165 ca166 ca167 ca168 ca169 ca170 ca171 ca172 ca173 ca174 ca175 ca176 ca177 ca178 ca179 ca180 ca181 ca182 ca183
 ca184 ca185 ca186 ca187 ca188 ca189 ca190 ca191 ca192 ca193 ca194 ca195 ca196 ca197 ca198 ca199 ca200 ca201 ca202 ca203 ca204 ca205 ca206 ca207 ca208 ca209 ca210 ca211 ca212 ca213
 ca214 ca215 ca216 ca217 ca218 ca219 ca220 ca221 ca222 ca223 ca224 ca225 ca226 ca227 ca228 ca229 ca230 ca231 ca232 ca233 ca234 ca235 ca236 ca237 ca238 ca239 ca240 ca241 ca242 ca243
 ca244 ca245 ca246 ca247 ca248 ca249 ca250 ca251 ca252 ca253 ca254 ca255 ca256 ca257 ca258 ca259 ca260 ca261 ca262 ca263 ca264 ca265 ca266 ca267 ca268 ca269 ca270 ca271 ca272 ca273
 ca274 ca275 ca276 ca277 ca278 ca279 ca280 ca281 ca282 ca283 ca284 ca285 ca286:Value}
 (hpl3:p.length ≤ 140737488350100) (hm:64 * m + 64 ≤ p.length) (hst:Hid (OwnT B0 5 .u8 (.slice (some ⟨g3,0,none⟩) p.length cap3) p w4)) (HBY:Hid (∀ j,wAt p m j < 256))
 (HW:Hid (OwnN w4.heap.size 151 .u32 (.slice (some ⟨w4.heap.size,0,none⟩) 64 64) (z60 (wAt p m) 0) w)) (HB5:Hid (Below w4.heap.size w4 w))
 (R:Act → World → Prop)
 (hexit:Hid (∀  (w1:World),OwnN w4.heap.size 151 .u32 (.slice (some ⟨w4.heap.size,0,none⟩) 64 64) (z60 (wAt p m) 16) w1 ∧ Below w4.heap.size w4 w1 → ∀ {vb10 vb11 vb60 vb61 vb62 vb63 vb64 vb65 vb66 vb67 vb68 vb69 vb70 vb71 vb72 vb73 vb74 vb75 vb76 vb77 vb78 vb79 vb80 vb81 vb82 vb83 vb84 vb85 vb86:Value},
  R ⟨List.toArray (ca0 :: ca1 :: ca2 :: ca3 :: ca4 :: .slice (some ⟨g3,0,none⟩) p.length cap3 :: ca6 :: ca7 :: .int .i64 ((64 * m:Nat):Int) :: .slice (some ⟨w4.heap.size,0,none⟩) 64 64 :: vb10 :: vb11 :: ca12 :: ca13 :: ca14 :: ca15 ::
  ca16 :: ca17 :: ca18 :: ca19 :: ca20 :: ca21 :: ca22 :: ca23 :: ca24 :: ca25 :: ca26 :: ca27 :: ca28 :: ca29 :: ca30 :: ca31 :: ca32 :: ca33 :: ca34 :: ca35 :: ca36 :: ca37 :: ca38 :: ca39 :: ca40 :: ca41 :: ca42 :: ca43 ::
  ca44 :: ca45 :: ca46 :: ca47 :: ca48 :: ca49 :: ca50 :: ca51 :: ca52 :: ca53 :: ca54 :: ca55 :: ca56 :: ca57 :: ca58 :: ca59 :: vb60 :: vb61 :: vb62 :: vb63 :: vb64 :: vb65 :: vb66 :: vb67 :: vb68 :: vb69 :: vb70 :: vb71 ::
  vb72 :: vb73 :: vb74 :: vb75 :: vb76 :: vb77 :: vb78 :: vb79 :: vb80 :: vb81 :: vb82 :: vb83 :: vb84 :: vb85 :: vb86 :: ca87 :: ca88 :: ca89 :: ca90 :: ca91 :: ca92 :: ca93 :: ca94 :: ca95 :: ca96 :: ca97 :: ca98 :: ca99 ::
  ca100 :: ca101 :: ca102 :: ca103 :: ca104 :: ca105 :: ca106 :: ca107 :: ca108 :: ca109 :: ca110 :: ca111 :: ca112 :: ca113 :: ca114 :: ca115 :: ca116 :: ca117 :: ca118 :: ca119 :: ca120 :: ca121 :: ca122 :: ca123 :: ca124 ::
  ca125 :: ca126 :: ca127 :: ca128 :: ca129 :: ca130 :: ca131 :: ca132 :: ca133 :: ca134 :: ca135 :: ca136 :: ca137 :: ca138 :: ca139 :: ca140 :: ca141 :: ca142 :: ca143 :: ca144 :: ca145 :: ca146 :: ca147 :: ca148 :: ca149 ::
  ca150 :: ca151 :: ca152 :: ca153 :: ca154 :: ca155 :: ca156 :: ca157 :: ca158 :: ca159 :: ca160 :: ca161 :: ca162 :: ca163 :: ca164 :: ca165 :: ca166 :: ca167 :: ca168 :: ca169 :: ca170 :: ca171 :: ca172 :: ca173 :: ca174 ::
  ca175 :: ca176 :: ca177 :: ca178 :: ca179 :: ca180 :: ca181 :: ca182 :: ca183 :: ca184 :: ca185 :: ca186 :: ca187 :: ca188 :: ca189 :: ca190 :: ca191 :: ca192 :: ca193 :: ca194 :: ca195 :: ca196 :: ca197 :: ca198 :: ca199 ::
  ca200 :: ca201 :: ca202 :: ca203 :: ca204 :: ca205 :: ca206 :: ca207 :: ca208 :: ca209 :: ca210 :: ca211 :: ca212 :: ca213 :: ca214 :: ca215 :: ca216 :: ca217 :: ca218 :: ca219 :: ca220 :: ca221 :: ca222 :: ca223 :: ca224 ::
  ca225 :: ca226 :: ca227 :: ca228 :: ca229 :: ca230 :: ca231 :: ca232 :: ca233 :: ca234 :: ca235 :: ca236 :: ca237 :: ca238 :: ca239 :: ca240 :: ca241 :: ca242 :: ca243 :: ca244 :: ca245 :: ca246 :: ca247 :: ca248 :: ca249 ::
  ca250 :: ca251 :: ca252 :: ca253 :: ca254 :: ca255 :: ca256 :: ca257 :: ca258 :: ca259 :: ca260 :: ca261 :: ca262 :: ca263 :: ca264 :: ca265 :: ca266 :: ca267 :: ca268 :: ca269 :: ca270 :: ca271 :: ca272 :: ca273 :: ca274 ::
  ca275 :: ca276 :: ca277 :: ca278 :: ca279 :: ca280 :: ca281 :: ca282 :: ca283 :: ca284 :: ca285 :: ca286 :: []),[]⟩ w1)) :
 Code.wp Tryz.prog (Code.loop (z5v Tryz.f86 3)) (Ends 6 R) ⟨List.toArray (ca0 :: ca1 :: ca2 :: ca3 :: ca4 :: .slice (some ⟨g3,0,none⟩) p.length cap3 :: ca6 :: ca7 :: .int .i64 ((64 * m:Nat):Int) :: .slice (some ⟨w4.heap.size,0,none⟩) 64 64 :: .int .i64 0 :: ub11 :: ca12 :: ca13 :: ca14 ::
  ca15 :: ca16 :: ca17 :: ca18 :: ca19 :: ca20 :: ca21 :: ca22 :: ca23 :: ca24 :: ca25 :: ca26 :: ca27 :: ca28 :: ca29 :: ca30 :: ca31 :: ca32 :: ca33 :: ca34 :: ca35 :: ca36 :: ca37 :: ca38 :: ca39 :: ca40 :: ca41 :: ca42 ::
  ca43 :: ca44 :: ca45 :: ca46 :: ca47 :: ca48 :: ca49 :: ca50 :: ca51 :: ca52 :: ca53 :: ca54 :: ca55 :: ca56 :: ca57 :: ca58 :: ca59 :: ub60 :: ub61 :: ub62 :: ub63 :: ub64 :: ub65 :: ub66 :: ub67 :: ub68 :: ub69 :: ub70 ::
  ub71 :: ub72 :: ub73 :: ub74 :: ub75 :: ub76 :: ub77 :: ub78 :: ub79 :: ub80 :: ub81 :: ub82 :: ub83 :: ub84 :: ub85 :: ub86 :: ca87 :: ca88 :: ca89 :: ca90 :: ca91 :: ca92 :: ca93 :: ca94 :: ca95 :: ca96 :: ca97 :: ca98 ::
  ca99 :: ca100 :: ca101 :: ca102 :: ca103 :: ca104 :: ca105 :: ca106 :: ca107 :: ca108 :: ca109 :: ca110 :: ca111 :: ca112 :: ca113 :: ca114 :: ca115 :: ca116 :: ca117 :: ca118 :: ca119 :: ca120 :: ca121 :: ca122 :: ca123 ::
  ca124 :: ca125 :: ca126 :: ca127 :: ca128 :: ca129 :: ca130 :: ca131 :: ca132 :: ca133 :: ca134 :: ca135 :: ca136 :: ca137 :: ca138 :: ca139 :: ca140 :: ca141 :: ca142 :: ca143 :: ca144 :: ca145 :: ca146 :: ca147 :: ca148 ::
  ca149 :: ca150 :: ca151 :: ca152 :: ca153 :: ca154 :: ca155 :: ca156 :: ca157 :: ca158 :: ca159 :: ca160 :: ca161 :: ca162 :: ca163 :: ca164 :: ca165 :: ca166 :: ca167 :: ca168 :: ca169 :: ca170 :: ca171 :: ca172 :: ca173 ::
  ca174 :: ca175 :: ca176 :: ca177 :: ca178 :: ca179 :: ca180 :: ca181 :: ca182 :: ca183 :: ca184 :: ca185 :: ca186 :: ca187 :: ca188 :: ca189 :: ca190 :: ca191 :: ca192 :: ca193 :: ca194 :: ca195 :: ca196 :: ca197 :: ca198 ::
  ca199 :: ca200 :: ca201 :: ca202 :: ca203 :: ca204 :: ca205 :: ca206 :: ca207 :: ca208 :: ca209 :: ca210 :: ca211 :: ca212 :: ca213 :: ca214 :: ca215 :: ca216 :: ca217 :: ca218 :: ca219 :: ca220 :: ca221 :: ca222 :: ca223 ::
  ca224 :: ca225 :: ca226 :: ca227 :: ca228 :: ca229 :: ca230 :: ca231 :: ca232 :: ca233 :: ca234 :: ca235 :: ca236 :: ca237 :: ca238 :: ca239 :: ca240 :: ca241 :: ca242 :: ca243 :: ca244 :: ca245 :: ca246 :: ca247 :: ca248 ::
  ca249 :: ca250 :: ca251 :: ca252 :: ca253 :: ca254 :: ca255 :: ca256 :: ca257 :: ca258 :: ca259 :: ca260 :: ca261 :: ca262 :: ca263 :: ca264 :: ca265 :: ca266 :: ca267 :: ca268 :: ca269 :: ca270 :: ca271 :: ca272 :: ca273 ::
  ca274 :: ca275 :: ca276 :: ca277 :: ca278 :: ca279 :: ca280 :: ca281 :: ca282 :: ca283 :: ca284 :: ca285 :: ca286 :: []),[]⟩ w:=by
 conv=>arg 2;arg 1;whnf
 go_loopw [10] (fun i wq=>∃ k:Nat,k ≤ 16 ∧ i = .int .i64 k ∧ OwnN w4.heap.size 151 .u32 (.slice (some ⟨w4.heap.size,0,none⟩) 64 64) (z60 (wAt p m) k) wq ∧ Below w4.heap.size w4 wq) (fun i _=>16 - (intOf i).toNat)
 case atStart=>exact ⟨0,by omega,rfl,HW.out,HB5.out⟩
 case round =>
  clear HW HB5
  obtain ⟨k,hk,rfl,ho,hb⟩:=hrel
  have HW:=Lib.hid ho
  have HB5:=Lib.hid hb
  clear ho hb
  by_cases hlk:k < 16
  ·go_wp2_with fail
   refine z3b (of_loop5 hpl3 hm hst HBY hlk HW HB5 _ (Lib.hid ?_))
   rintro w1 ⟨ho,hb⟩
   intros
   clear HW HB5
   have HW:=Lib.hid ho
   have HB5:=Lib.hid hb
   clear ho hb
   go_wp2_with fail
   exact ⟨⟨k + 1,by omega,by go_num,HW.out,HB5.out⟩,by simp [intOf];omega⟩
  ·obtain rfl:k = 16:=by omega
   rw [show ((16:Nat):Int) = 16 from rfl]
   go_wp2_with fail
   exact z26 (hexit.out _ ⟨HW.out,HB5.out⟩)
theorem of_loop6 {p:List Nat} {m:Nat} {w4 w:World}
 {ca0 ca1 ca2 ca3 ca4 ca5 ca6 ca7 ca8 ca10 ca11 ub13 ub14 ca15 ca16 ca17 ca18 ca19 ca20 ca21 ca22 ca23 ca24 ca25 ca26 ca27 ca28 ca29 ca30 ca31
 ca32 ca33 ca34 ca35 ca36 ca37 ca38 ca39 ca40 ca41 ca42 ca43 ca44 ca45 ca46 ca47 ca48 ca49 ca50 ca51 ca52 ca53 ca54 ca55 ca56 ca57 ca58 ca59 ca60 ca61
 ca62 ca63 ca64 ca65 ca66 ca67 ca68 ca69 ca70 ca71 ca72 ca73 ca74 ca75 ca76 ca77 ca78 ca79 ca80 ca81 ca82 ca83 ca84 ca85 ca86 ub87 ub88 ub89 ub90 ub91
 ub92 ub93 ub94 ub95 ub96 ub97 ub98 ub99 ub100 ub101 ub102 ub103 ub104 ub105 ub106 ub107 ub108 ub109 ub110 ub111 ub112 ub113 ub114 ub115 ub116 ub117 ub118 ub119 ub120 ub121
 ub122 ub123 ub124 ub125 ub126 ub127 ub128 ub129 ub130 ub131 ub132 ca133 ca134 ca135 ca136 ca137 ca138 ca139 ca140 ca141 ca142 ca143 ca144 ca145 ca146 ca147 ca148 ca149 ca150 ca151
 ca152 ca153 ca154 ca155 ca156 ca157 ca158 ca159 ca160 ca161 ca162 ca163 ca164 ca165 ca166 ca167 ca168 ca169 ca170 ca171 ca172 ca173 ca174 ca175 ca176 ca177 ca178 ca179 ca180 ca181
 ca182 ca183 ca184 ca185 ca186 ca187 ca188 ca189 ca190 ca191 ca192 ca193 ca194 ca195 ca196 ca197 ca198 ca199 ca200 ca201 ca202 ca203 ca204 ca205 ca206 ca207 ca208 ca209 ca210 ca211
 ca212 ca213 ca214 ca215 ca216 ca217 ca218 ca219 ca220 ca221 ca222 ca223 ca224 ca225 ca226 ca227 ca228 ca229 ca230 ca231 ca232 ca233 ca234 ca235 ca236 ca237 ca238 ca239 ca240 ca241
 ca242 ca243 ca244 ca245 ca246 ca247 ca248 ca249 ca250 ca251 ca252 ca253 ca254 ca255 ca256 ca257 ca258 ca259 ca260 ca261 ca262 ca263 ca264 ca265 ca266 ca267 ca268 ca269 ca270 ca271
 ca272 ca273 ca274 ca275 ca276 ca277 ca278 ca279 ca280 ca281 ca282 ca283 ca284 ca285 ca286:Value}
 (HBY:Hid (∀ j,wAt p m j < 256))
 (HW:Hid (OwnN w4.heap.size 151 .u32 (.slice (some ⟨w4.heap.size,0,none⟩) 64 64) (z60 (wAt p m) 16) w)) (HB5:Hid (Below w4.heap.size w4 w))
 (R:Act → World → Prop)
 (hexit:Hid (∀  (w1:World),OwnN w4.heap.size 151 .u32 (.slice (some ⟨w4.heap.size,0,none⟩) 64 64) (wl (wAt p m) 64) w1 ∧ Below w4.heap.size w4 w1 → ∀ {vb12 vb13 vb14 vb87 vb88 vb89 vb90 vb91 vb92 vb93 vb94 vb95 vb96 vb97 vb98 vb99 vb100 vb101 vb102 vb103 vb104 vb105 vb106 vb107 vb108 vb109 vb110 vb111 vb112 vb113
 vb114 vb115 vb116 vb117 vb118 vb119 vb120 vb121 vb122 vb123 vb124 vb125 vb126 vb127 vb128 vb129 vb130 vb131 vb132:Value},
  R ⟨List.toArray (ca0 :: ca1 :: ca2 :: ca3 :: ca4 :: ca5 :: ca6 :: ca7 :: ca8 :: .slice (some ⟨w4.heap.size,0,none⟩) 64 64 :: ca10 :: ca11 :: vb12 :: vb13 :: vb14 :: ca15 :: ca16 :: ca17 :: ca18 :: ca19 :: ca20 :: ca21 :: ca22 :: ca23 :: ca24 ::
  ca25 :: ca26 :: ca27 :: ca28 :: ca29 :: ca30 :: ca31 :: ca32 :: ca33 :: ca34 :: ca35 :: ca36 :: ca37 :: ca38 :: ca39 :: ca40 :: ca41 :: ca42 :: ca43 :: ca44 :: ca45 :: ca46 :: ca47 :: ca48 :: ca49 :: ca50 :: ca51 :: ca52 ::
  ca53 :: ca54 :: ca55 :: ca56 :: ca57 :: ca58 :: ca59 :: ca60 :: ca61 :: ca62 :: ca63 :: ca64 :: ca65 :: ca66 :: ca67 :: ca68 :: ca69 :: ca70 :: ca71 :: ca72 :: ca73 :: ca74 :: ca75 :: ca76 :: ca77 :: ca78 :: ca79 :: ca80 ::
  ca81 :: ca82 :: ca83 :: ca84 :: ca85 :: ca86 :: vb87 :: vb88 :: vb89 :: vb90 :: vb91 :: vb92 :: vb93 :: vb94 :: vb95 :: vb96 :: vb97 :: vb98 :: vb99 :: vb100 :: vb101 :: vb102 :: vb103 :: vb104 :: vb105 :: vb106 :: vb107 ::
  vb108 :: vb109 :: vb110 :: vb111 :: vb112 :: vb113 :: vb114 :: vb115 :: vb116 :: vb117 :: vb118 :: vb119 :: vb120 :: vb121 :: vb122 :: vb123 :: vb124 :: vb125 :: vb126 :: vb127 :: vb128 :: vb129 :: vb130 :: vb131 :: vb132 ::
  ca133 :: ca134 :: ca135 :: ca136 :: ca137 :: ca138 :: ca139 :: ca140 :: ca141 :: ca142 :: ca143 :: ca144 :: ca145 :: ca146 :: ca147 :: ca148 :: ca149 :: ca150 :: ca151 :: ca152 :: ca153 :: ca154 :: ca155 :: ca156 :: ca157 ::
  ca158 :: ca159 :: ca160 :: ca161 :: ca162 :: ca163 :: ca164 :: ca165 :: ca166 :: ca167 :: ca168 :: ca169 :: ca170 :: ca171 :: ca172 :: ca173 :: ca174 :: ca175 :: ca176 :: ca177 :: ca178 :: ca179 :: ca180 :: ca181 :: ca182 ::
  ca183 :: ca184 :: ca185 :: ca186 :: ca187 :: ca188 :: ca189 :: ca190 :: ca191 :: ca192 :: ca193 :: ca194 :: ca195 :: ca196 :: ca197 :: ca198 :: ca199 :: ca200 :: ca201 :: ca202 :: ca203 :: ca204 :: ca205 :: ca206 :: ca207 ::
  ca208 :: ca209 :: ca210 :: ca211 :: ca212 :: ca213 :: ca214 :: ca215 :: ca216 :: ca217 :: ca218 :: ca219 :: ca220 :: ca221 :: ca222 :: ca223 :: ca224 :: ca225 :: ca226 :: ca227 :: ca228 :: ca229 :: ca230 :: ca231 :: ca232 ::
  ca233 :: ca234 :: ca235 :: ca236 :: ca237 :: ca238 :: ca239 :: ca240 :: ca241 :: ca242 :: ca243 :: ca244 :: ca245 :: ca246 :: ca247 :: ca248 :: ca249 :: ca250 :: ca251 :: ca252 :: ca253 :: ca254 :: ca255 :: ca256 :: ca257 ::
  ca258 :: ca259 :: ca260 :: ca261 :: ca262 :: ca263 :: ca264 :: ca265 :: ca266 :: ca267 :: ca268 :: ca269 :: ca270 :: ca271 :: ca272 :: ca273 :: ca274 :: ca275 :: ca276 :: ca277 :: ca278 :: ca279 :: ca280 :: ca281 :: ca282 ::
  ca283 :: ca284 :: ca285 :: ca286 :: []),[]⟩ w1)) :
 Code.wp Tryz.prog (Code.loop (z5v Tryz.f86 5)) (Ends 10 R) ⟨List.toArray (ca0 :: ca1 :: ca2 :: ca3 :: ca4 :: ca5 :: ca6 :: ca7 :: ca8 :: .slice (some ⟨w4.heap.size,0,none⟩) 64 64 :: ca10 :: ca11 :: .int .i64 16 :: ub13 :: ub14 :: ca15 :: ca16 :: ca17 :: ca18 :: ca19 :: ca20 :: ca21 :: ca22 :: ca23 ::
  ca24 :: ca25 :: ca26 :: ca27 :: ca28 :: ca29 :: ca30 :: ca31 :: ca32 :: ca33 :: ca34 :: ca35 :: ca36 :: ca37 :: ca38 :: ca39 :: ca40 :: ca41 :: ca42 :: ca43 :: ca44 :: ca45 :: ca46 :: ca47 :: ca48 :: ca49 :: ca50 :: ca51 ::
  ca52 :: ca53 :: ca54 :: ca55 :: ca56 :: ca57 :: ca58 :: ca59 :: ca60 :: ca61 :: ca62 :: ca63 :: ca64 :: ca65 :: ca66 :: ca67 :: ca68 :: ca69 :: ca70 :: ca71 :: ca72 :: ca73 :: ca74 :: ca75 :: ca76 :: ca77 :: ca78 :: ca79 ::
  ca80 :: ca81 :: ca82 :: ca83 :: ca84 :: ca85 :: ca86 :: ub87 :: ub88 :: ub89 :: ub90 :: ub91 :: ub92 :: ub93 :: ub94 :: ub95 :: ub96 :: ub97 :: ub98 :: ub99 :: ub100 :: ub101 :: ub102 :: ub103 :: ub104 :: ub105 :: ub106 ::
  ub107 :: ub108 :: ub109 :: ub110 :: ub111 :: ub112 :: ub113 :: ub114 :: ub115 :: ub116 :: ub117 :: ub118 :: ub119 :: ub120 :: ub121 :: ub122 :: ub123 :: ub124 :: ub125 :: ub126 :: ub127 :: ub128 :: ub129 :: ub130 :: ub131 ::
  ub132 :: ca133 :: ca134 :: ca135 :: ca136 :: ca137 :: ca138 :: ca139 :: ca140 :: ca141 :: ca142 :: ca143 :: ca144 :: ca145 :: ca146 :: ca147 :: ca148 :: ca149 :: ca150 :: ca151 :: ca152 :: ca153 :: ca154 :: ca155 :: ca156 ::
  ca157 :: ca158 :: ca159 :: ca160 :: ca161 :: ca162 :: ca163 :: ca164 :: ca165 :: ca166 :: ca167 :: ca168 :: ca169 :: ca170 :: ca171 :: ca172 :: ca173 :: ca174 :: ca175 :: ca176 :: ca177 :: ca178 :: ca179 :: ca180 :: ca181 ::
  ca182 :: ca183 :: ca184 :: ca185 :: ca186 :: ca187 :: ca188 :: ca189 :: ca190 :: ca191 :: ca192 :: ca193 :: ca194 :: ca195 :: ca196 :: ca197 :: ca198 :: ca199 :: ca200 :: ca201 :: ca202 :: ca203 :: ca204 :: ca205 :: ca206 ::
  ca207 :: ca208 :: ca209 :: ca210 :: ca211 :: ca212 :: ca213 :: ca214 :: ca215 :: ca216 :: ca217 :: ca218 :: ca219 :: ca220 :: ca221 :: ca222 :: ca223 :: ca224 :: ca225 :: ca226 :: ca227 :: ca228 :: ca229 :: ca230 :: ca231 ::
  ca232 :: ca233 :: ca234 :: ca235 :: ca236 :: ca237 :: ca238 :: ca239 :: ca240 :: ca241 :: ca242 :: ca243 :: ca244 :: ca245 :: ca246 :: ca247 :: ca248 :: ca249 :: ca250 :: ca251 :: ca252 :: ca253 :: ca254 :: ca255 :: ca256 ::
  ca257 :: ca258 :: ca259 :: ca260 :: ca261 :: ca262 :: ca263 :: ca264 :: ca265 :: ca266 :: ca267 :: ca268 :: ca269 :: ca270 :: ca271 :: ca272 :: ca273 :: ca274 :: ca275 :: ca276 :: ca277 :: ca278 :: ca279 :: ca280 :: ca281 ::
  ca282 :: ca283 :: ca284 :: ca285 :: ca286 :: []),[]⟩ w:=by
 conv=>arg 2;arg 1;whnf
 go_loopw [12] (fun i wq=>∃ k:Nat,16 ≤ k ∧ k ≤ 64 ∧ i = .int .i64 k ∧ OwnN w4.heap.size 151 .u32 (.slice (some ⟨w4.heap.size,0,none⟩) 64 64) (z60 (wAt p m) k) wq ∧ Below w4.heap.size w4 wq) (fun i _=>64 - (intOf i).toNat)
 case atStart=>exact ⟨16,by omega,by omega,rfl,HW.out,HB5.out⟩
 case round =>
  clear HW HB5
  obtain ⟨k,hk16,hk,rfl,ho,hb⟩:=hrel
  have HW:=Lib.hid ho
  have HB5:=Lib.hid hb
  clear ho hb
  by_cases hlk:k < 64
  ·have hwl:=wl_lt HBY.out k
   have hlen:=z7w (wAt p m) hk
   have hat:∀ d,1 ≤ d → d ≤ k → (z60 (wAt p m) k)[k - d]? = some ((wl (wAt p m) k).getD (k - d) 0):=by
    intro d h1 h2
    unfold z60
    rw [List.getElem?_append_left (by rw [z5y];omega),List.getD_eq_getElem?_getD,List.getElem?_eq_getElem (by rw [z5y];omega)]
    rfl
   have hW:=HW.out
   rw [← hlen] at hW
   obtain ⟨j16,hj16⟩:∃ j,j = k - 16:=⟨_,rfl⟩
   obtain ⟨j7,hj7⟩:∃ j,j = k - 7:=⟨_,rfl⟩
   obtain ⟨j15,hj15⟩:∃ j,j = k - 15:=⟨_,rfl⟩
   obtain ⟨j2,hj2⟩:∃ j,j = k - 2:=⟨_,rfl⟩
   have a16:=hat 16 (by omega) (by omega)
   have a7:=hat 7 (by omega) (by omega)
   have a15:=hat 15 (by omega) (by omega)
   have a2:=hat 2 (by omega) (by omega)
   rw [← hj16] at a16
   rw [← hj7] at a7
   rw [← hj15] at a15
   rw [← hj2] at a2
   have x15:=z1y hwl (by decide) j15
   have x2:=z1y hwl (by decide) j2
   have x16:=z1y hwl (by decide) j16
   have x7:=z1y hwl (by decide) j7
   have hnx:zet (wl (wAt p m) k) k = ((wl (wAt p m) k).getD (k - 16) 0 + (wl (wAt p m) k).getD (k - 7) 0 + s0 ((wl (wAt p m) k).getD (k - 15) 0) + s1 ((wl (wAt p m) k).getD (k - 2) 0)) % 4294967296:=rfl
   rw [← hj16,← hj7,← hj15,← hj2] at hnx
   generalize (wl (wAt p m) k).getD j16 0 = y16 at a16 x16 hnx
   generalize (wl (wAt p m) k).getD j7 0 = y7 at a7 x7 hnx
   generalize (wl (wAt p m) k).getD j15 0 = y15 at a15 x15 hnx
   generalize (wl (wAt p m) k).getD j2 0 = y2 at a2 x2 hnx
   have c15:=hW.cellAt _ _ a15
   have c2:=hW.cellAt _ _ a2
   have HA16:=Lib.hid a16
   have HA7:=Lib.hid a7
   have HNX:=Lib.hid hnx
   have HLN:=Lib.hid hlen
   have e16:IntKind.i64.wrap ((k:Int) - 16) = (j16:Int):=by rw [IntKind.wrap_i64];omega
   have e7:IntKind.i64.wrap ((k:Int) - 7) = (j7:Int):=by rw [IntKind.wrap_i64];omega
   have e15:IntKind.i64.wrap ((k:Int) - 15) = (j15:Int):=by rw [IntKind.wrap_i64];omega
   have e2:IntKind.i64.wrap ((k:Int) - 2) = (j2:Int):=by rw [IntKind.wrap_i64];omega
   have d15:(k:Int) - 15 = (j15:Int):=by omega
   have d2:(k:Int) - 2 = (j2:Int):=by omega
   have b16:(j16:Int) < 64:=by omega
   have b7:(j7:Int) < 64:=by omega
   have b15:(j15:Int) < 64:=by omega
   have b2:(j2:Int) < 64:=by omega
   have hfrk:=HW.out
   clear hwl hat hW hlen a16 a7 a15 a2 hnx hj16 hj7 hj15 hj2 hfrk
   go_wp2_with fail
   go_quiet (fail)
   go_wp2_with fail
   obtain ⟨w7,hw7⟩:∃ x,x = (wr.drewN nq).drew:=⟨_,rfl⟩
   have HW7:=Lib.hid (show OwnN w4.heap.size 151 .u32 (.slice (some ⟨w4.heap.size,0,none⟩) 64 64) (z60 (wAt p m) k) w7 by rw [hw7];exact HW.out)
   have HB7:=Lib.hid (show Below w4.heap.size w4 w7 by rw [hw7];exact z0v (z0v HB5.out nq) 1)
   refine wp_region_still_tail 32 (by kernel_rfl) (by kernel_rfl) ?_
   simp only [zC,zD,zE,zF]
   change wpStill _ _ (wr.drewN nq).drew (fun a'=>wpList _ _ _ _ a' (wr.drewN nq).drew) _ _
   rw [← hw7]
   clear hw7 c15 c2
   have hW:=HW7.out
   have hfr:=OwnN.frozenAt HLN.out.symm hW k
   have HST5:=Lib.hid (OwnN.stored HLN.out.symm hW k (zet (wl (wAt p m) k) k))
   rw [ze7 (by omega) hlk] at HST5
   rw [← HLN.out] at hW
   have c16:=hW.cellAt _ _ HA16.out
   have c7:=hW.cellAt _ _ HA7.out
   have ck:=hW.cellAt k 0 (by unfold z60;rw [List.getElem?_append_right (by rw [z5y];exact Nat.le_refl _),z5y,Nat.sub_self,List.getElem?_replicate,if_pos (by omega)])
   clear hW e15 e2 d15 d2 b15 b2
   repeat still_step
   still_call (z44 y15 7 _ x15 (by decide) (by decide))
   repeat still_step
   still_call (z44 y15 18 _ x15 (by decide) (by decide))
   repeat still_step
   still_call (z44 y2 17 _ x2 (by decide) (by decide))
   repeat still_step
   still_call (z44 y2 19 _ x2 (by decide) (by decide))
   repeat still_step
   refine wpStill_nil ?_
   go_wp2_with fail
   have hv:=w_int y16 y7 y15 y2 x15 x2 (by omega) (by omega)
   rw [← HNX.out,show ((y15 / 8:Nat):Int) = (y15:Int) / 8 by omega,show ((y2 / 1024:Nat):Int) = (y2:Int) / 1024 by omega] at hv
   refine ⟨⟨k + 1,by omega,by omega,by go_num,?_,zg2 HB7.out (Nat.le_refl _) _ _⟩,by simp [intOf];omega⟩
   rw [hv]
   exact HST5.out
  ·obtain rfl:k = 64:=by omega
   rw [show ((64:Nat):Int) = 64 from rfl]
   rw [zdw] at HW
   go_wp2_with fail
   exact z26 (hexit.out _ ⟨HW.out,HB5.out⟩)
end Go.Proofs.YtjomgkiphecljaaGreatDoor
