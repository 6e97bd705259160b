/-
  The document's Of: the loops that pad.
-/
import Derived.Test.YthgfpojfnhkckaaDoorOfA
namespace Go.Proofs.YthgfpojfnhkckaaDoor
open Go.RowKit

set_option maxHeartbeats 4000000 in
set_option maxRecDepth 100000 in
theorem of_loop1 {s : List UInt8} {v0 : Value} {wb w : World}
    {ca0 ca1 ca2 ca3 ca4 ca6 ca7 ca8 ca9 ca10 ca11 ca12 ca13 ca14 ca15 ca16 ca17 ca18 ca19 ca20 ca21 ca22 ca23 ca24 ca25 ca26 ca27 ca28 ca29 ub30
    ub31 ub32 ub33 ub34 ub35 ub36 ca37 ca38 ca39 ca40 ca41 ca42 ca43 ca44 ca45 ca46 ca47 ca48 ca49 ca50 ca51 ca52 ca53 ca54 ca55 ca56 ca57 ca58 ca59 ca60
    ca61 ca62 ca63 ca64 ca65 ca66 ca67 ca68 ca69 ca70 ca71 ca72 ca73 ca74 ca75 ca76 ca77 ca78 ca79 ca80 ca81 ca82 ca83 ca84 ca85 ca86 ca87 ca88 ca89 ca90
    ca91 ca92 ca93 ca94 ca95 ca96 ca97 ca98 ca99 ca100 ca101 ca102 ca103 ca104 ca105 ca106 ca107 ca108 ca109 ca110 ca111 ca112 ca113 ca114 ca115 ca116 ca117 ca118 ca119 ca120
    ca121 ca122 ca123 ca124 ca125 ca126 ca127 ca128 ca129 ca130 ca131 ca132 ca133 ca134 ca135 ca136 ca137 ca138 ca139 ca140 ca141 ca142 ca143 ca144 ca145 ca146 ca147 ca148 ca149 ca150
    ca151 ca152 ca153 ca154 ca155 ca156 ca157 ca158 ca159 ca160 ca161 ca162 ca163 ca164 ca165 ca166 ca167 ca168 ca169 ca170 ca171 ca172 ca173 ca174 ca175 ca176 ca177 ca178 ca179 ca180
    ca181 ca182 ca183 ca184 ca185 ca186 ca187 ca188 ca189 ca190 ca191 ca192 ca193 ca194 ca195 ca196 ca197 ca198 ca199 ca200 ca201 ca202 ca203 ca204 ca205 ca206 ca207 ca208 ca209 ca210
    ca211 ca212 ca213 ca214 ca215 ca216 ca217 ca218 ca219 ca220 ca221 ca222 ca223 ca224 ca225 ca226 ca227 ca228 ca229 ca230 ca231 ca232 ca233 ca234 ca235 ca236 ca237 ca238 ca239 ca240
    ca241 ca242 ca243 ca244 ca245 ca246 ca247 ca248 ca249 ca250 ca251 ca252 ca253 ca254 ca255 ca256 ca257 ca258 ca259 ca260 ca261 ca262 ca263 ca264 ca265 ca266 ca267 ca268 ca269 ca270
    ca271 ca272 ca273 ca274 ca275 ca276 ca277 ca278 ca279 ca280 ca281 ca282 ca283 ca284 ca285 ca286 : Value}
    (hm : s.length ≤ 140737488350000) (HO3 : Hid (OwnT wb.heap.size 5 .u8 v0 (zerosL s 0) w)) (HB3 : Hid (Below wb.heap.size wb w))
    (R : Act → World → Prop)
    (hexit : Hid (∀ (v9 : Value) (w1 : World), OwnT wb.heap.size 5 .u8 v9 (zerosL s (zerosN s.length)) w1 ∧ Below wb.heap.size wb w1 → ∀ {vb30 vb31 vb32 vb33 vb34 vb35 vb36 : Value},
      R ⟨List.toArray (ca0 :: ca1 :: ca2 :: ca3 :: ca4 :: v9 :: ca6 :: ca7 :: ca8 :: ca9 :: ca10 :: ca11 :: ca12 :: ca13 :: ca14 :: ca15 :: ca16 :: ca17 :: ca18 :: ca19 :: ca20 :: ca21 :: ca22 :: ca23 :: ca24 :: ca25 :: ca26 :: ca27 :: ca28 :: ca29 ::
      vb30 :: vb31 :: vb32 :: vb33 :: vb34 :: vb35 :: vb36 :: ca37 :: ca38 :: ca39 :: ca40 :: ca41 :: ca42 :: ca43 :: ca44 :: ca45 :: ca46 :: ca47 :: ca48 :: ca49 :: ca50 :: ca51 :: ca52 :: ca53 :: ca54 :: ca55 :: ca56 :: ca57 ::
      ca58 :: ca59 :: ca60 :: ca61 :: ca62 :: ca63 :: ca64 :: ca65 :: ca66 :: ca67 :: ca68 :: ca69 :: ca70 :: ca71 :: ca72 :: ca73 :: ca74 :: ca75 :: ca76 :: ca77 :: ca78 :: ca79 :: ca80 :: ca81 :: ca82 :: ca83 :: ca84 :: ca85 ::
      ca86 :: ca87 :: ca88 :: ca89 :: ca90 :: ca91 :: ca92 :: ca93 :: ca94 :: ca95 :: ca96 :: ca97 :: ca98 :: ca99 :: ca100 :: ca101 :: ca102 :: ca103 :: ca104 :: ca105 :: ca106 :: ca107 :: ca108 :: ca109 :: ca110 :: ca111 :: ca112 ::
      ca113 :: ca114 :: ca115 :: ca116 :: ca117 :: ca118 :: ca119 :: ca120 :: ca121 :: ca122 :: ca123 :: ca124 :: ca125 :: ca126 :: ca127 :: ca128 :: ca129 :: ca130 :: ca131 :: ca132 :: ca133 :: ca134 :: ca135 :: ca136 :: ca137 ::
      ca138 :: ca139 :: ca140 :: ca141 :: ca142 :: ca143 :: ca144 :: ca145 :: ca146 :: ca147 :: ca148 :: ca149 :: ca150 :: ca151 :: ca152 :: ca153 :: ca154 :: ca155 :: ca156 :: ca157 :: ca158 :: ca159 :: ca160 :: ca161 :: ca162 ::
      ca163 :: ca164 :: ca165 :: ca166 :: ca167 :: ca168 :: ca169 :: ca170 :: ca171 :: ca172 :: ca173 :: ca174 :: ca175 :: ca176 :: ca177 :: ca178 :: ca179 :: ca180 :: ca181 :: ca182 :: ca183 :: ca184 :: ca185 :: ca186 :: ca187 ::
      ca188 :: ca189 :: ca190 :: ca191 :: ca192 :: ca193 :: ca194 :: ca195 :: ca196 :: ca197 :: ca198 :: ca199 :: ca200 :: ca201 :: ca202 :: ca203 :: ca204 :: ca205 :: ca206 :: ca207 :: ca208 :: ca209 :: ca210 :: ca211 :: ca212 ::
      ca213 :: ca214 :: ca215 :: ca216 :: ca217 :: ca218 :: ca219 :: ca220 :: ca221 :: ca222 :: ca223 :: ca224 :: ca225 :: ca226 :: ca227 :: ca228 :: ca229 :: ca230 :: ca231 :: ca232 :: ca233 :: ca234 :: ca235 :: ca236 :: ca237 ::
      ca238 :: ca239 :: ca240 :: ca241 :: ca242 :: ca243 :: ca244 :: ca245 :: ca246 :: ca247 :: ca248 :: ca249 :: ca250 :: ca251 :: ca252 :: ca253 :: ca254 :: ca255 :: ca256 :: ca257 :: ca258 :: ca259 :: ca260 :: ca261 :: ca262 ::
      ca263 :: ca264 :: ca265 :: ca266 :: ca267 :: ca268 :: ca269 :: ca270 :: ca271 :: ca272 :: ca273 :: ca274 :: ca275 :: ca276 :: ca277 :: ca278 :: ca279 :: ca280 :: ca281 :: ca282 :: ca283 :: ca284 :: ca285 :: ca286 :: []), []⟩ w1)) :
    Code.wp Tryd.prog (Code.loop (loopAt Tryd.f33 0)) (Ends 0 R) ⟨List.toArray (ca0 :: ca1 :: ca2 :: ca3 :: ca4 :: v0 :: ca6 :: ca7 :: ca8 :: ca9 :: ca10 :: ca11 :: ca12 :: ca13 :: ca14 :: ca15 :: ca16 :: ca17 :: ca18 :: ca19 :: ca20 :: ca21 :: ca22 :: ca23 :: ca24 :: ca25 :: ca26 :: ca27 :: ca28 :: ca29 ::
      ub30 :: ub31 :: ub32 :: ub33 :: ub34 :: ub35 :: ub36 :: ca37 :: ca38 :: ca39 :: ca40 :: ca41 :: ca42 :: ca43 :: ca44 :: ca45 :: ca46 :: ca47 :: ca48 :: ca49 :: ca50 :: ca51 :: ca52 :: ca53 :: ca54 :: ca55 :: ca56 :: ca57 ::
      ca58 :: ca59 :: ca60 :: ca61 :: ca62 :: ca63 :: ca64 :: ca65 :: ca66 :: ca67 :: ca68 :: ca69 :: ca70 :: ca71 :: ca72 :: ca73 :: ca74 :: ca75 :: ca76 :: ca77 :: ca78 :: ca79 :: ca80 :: ca81 :: ca82 :: ca83 :: ca84 :: ca85 ::
      ca86 :: ca87 :: ca88 :: ca89 :: ca90 :: ca91 :: ca92 :: ca93 :: ca94 :: ca95 :: ca96 :: ca97 :: ca98 :: ca99 :: ca100 :: ca101 :: ca102 :: ca103 :: ca104 :: ca105 :: ca106 :: ca107 :: ca108 :: ca109 :: ca110 :: ca111 :: ca112 ::
      ca113 :: ca114 :: ca115 :: ca116 :: ca117 :: ca118 :: ca119 :: ca120 :: ca121 :: ca122 :: ca123 :: ca124 :: ca125 :: ca126 :: ca127 :: ca128 :: ca129 :: ca130 :: ca131 :: ca132 :: ca133 :: ca134 :: ca135 :: ca136 :: ca137 ::
      ca138 :: ca139 :: ca140 :: ca141 :: ca142 :: ca143 :: ca144 :: ca145 :: ca146 :: ca147 :: ca148 :: ca149 :: ca150 :: ca151 :: ca152 :: ca153 :: ca154 :: ca155 :: ca156 :: ca157 :: ca158 :: ca159 :: ca160 :: ca161 :: ca162 ::
      ca163 :: ca164 :: ca165 :: ca166 :: ca167 :: ca168 :: ca169 :: ca170 :: ca171 :: ca172 :: ca173 :: ca174 :: ca175 :: ca176 :: ca177 :: ca178 :: ca179 :: ca180 :: ca181 :: ca182 :: ca183 :: ca184 :: ca185 :: ca186 :: ca187 ::
      ca188 :: ca189 :: ca190 :: ca191 :: ca192 :: ca193 :: ca194 :: ca195 :: ca196 :: ca197 :: ca198 :: ca199 :: ca200 :: ca201 :: ca202 :: ca203 :: ca204 :: ca205 :: ca206 :: ca207 :: ca208 :: ca209 :: ca210 :: ca211 :: ca212 ::
      ca213 :: ca214 :: ca215 :: ca216 :: ca217 :: ca218 :: ca219 :: ca220 :: ca221 :: ca222 :: ca223 :: ca224 :: ca225 :: ca226 :: ca227 :: ca228 :: ca229 :: ca230 :: ca231 :: ca232 :: ca233 :: ca234 :: ca235 :: ca236 :: ca237 ::
      ca238 :: ca239 :: ca240 :: ca241 :: ca242 :: ca243 :: ca244 :: ca245 :: ca246 :: ca247 :: ca248 :: ca249 :: ca250 :: ca251 :: ca252 :: ca253 :: ca254 :: ca255 :: ca256 :: ca257 :: ca258 :: ca259 :: ca260 :: ca261 :: ca262 ::
      ca263 :: ca264 :: ca265 :: ca266 :: ca267 :: ca268 :: ca269 :: ca270 :: ca271 :: ca272 :: ca273 :: ca274 :: ca275 :: ca276 :: ca277 :: ca278 :: ca279 :: ca280 :: ca281 :: ca282 :: ca283 :: ca284 :: ca285 :: ca286 :: []), []⟩ w := by
  conv => arg 2; arg 1; whnf

  obtain ⟨i0, hi, hz0, hz1, hz2⟩ := info_parts Tryd.infoU8
  go_loopw [5] (fun v wr => ∃ q : Nat, q ≤ zerosN s.length ∧ OwnT wb.heap.size 5 .u8 v (zerosL s q) wr ∧ Below wb.heap.size wb wr) (fun v _ => s.length + 65 - lenV v)
  case atStart => exact ⟨0, Nat.zero_le _, HO3.out, HB3.out⟩
  case round =>
    clear HO3 HB3
    obtain ⟨q, hq, ho, hb⟩ := hrel
    obtain ⟨g2, cap2, rfl⟩ := ho.form
    have hll := zerosL_len s q
    have HO3 := Lib.hid ho
    have HB3 := Lib.hid hb
    clear ho hb
    by_cases hlt : q < zerosN s.length
    · have ht : (((zerosL s q).length : Int) % 64 != 56) = true := by
        rw [bne_iff_ne, hll]
        unfold zerosN at hlt
        omega
      go_wp2_with (at_builtin; refine wpList_append_tail rfl _ _ 41 rfl wb.heap.size 5 i0 (.int .u8 0) 1 .u8 Tryd.underlying41 hi hz0 hz1 hz2 rfl _ _ rfl (HO3.out.alloc _) ⟨wr.heap.size, 0, none⟩ 1 0 rfl (cell_one_new _ _ _) ?c3 ?c4 ?c5 ?_)
      case c3 => unfold zerosN at hlt; unfold maxLen; omega
      case c4 => unfold zerosN at hlt; omega
      case c5 => have := HB3.out.size; simp; omega
      intro v4 w4 ho hgrow _
      have HB4 := Lib.hid (tail_pushed HB3.out HB3.out.size HO3.out hgrow)
      rw [← zerosL_next] at ho
      obtain ⟨g4, cap4, rfl⟩ := ho.form
      have hll4 := zerosL_len s (q + 1)
      have HO4 := Lib.hid ho
      clear HO3 HB3 ho hgrow ht
      go_wp2_with fail
      exact ⟨⟨q + 1, by omega, HO4.out, HB4.out⟩, by simp only [lenV]; unfold zerosN at hlt; omega⟩
    · obtain rfl : q = zerosN s.length := by omega
      have ht : (((zerosL s (zerosN s.length)).length : Int) % 64 != 56) = false := by
        rw [bne_eq_false_iff_eq, hll]
        unfold zerosN
        omega
      have HLL := Lib.hid hll
      clear hll hq hlt
      go_wp2_with fail
      exact ends_exit (hexit.out _ _ ⟨HO3.out, HB3.out⟩)

set_option maxHeartbeats 4000000 in
set_option maxRecDepth 100000 in
theorem of_loop2 {s : List UInt8} {v0 : Value} {N z : Nat} {wb w : World}
    {ca0 ca1 ca2 ca3 ca4 ca8 ca9 ca10 ca11 ca12 ca13 ca14 ca15 ca16 ca17 ca18 ca19 ca20 ca21 ca22 ca23 ca24 ca25 ca26 ca27 ca28 ca29 ca30 ca31 ca32
    ca33 ca34 ca35 ca36 ca37 ca38 ca39 ca40 ub41 ub42 ub43 ub44 ub45 ub46 ub47 ub48 ub49 ub50 ub51 ub52 ca53 ca54 ca55 ca56 ca57 ca58 ca59 ca60 ca61 ca62
    ca63 ca64 ca65 ca66 ca67 ca68 ca69 ca70 ca71 ca72 ca73 ca74 ca75 ca76 ca77 ca78 ca79 ca80 ca81 ca82 ca83 ca84 ca85 ca86 ca87 ca88 ca89 ca90 ca91 ca92
    ca93 ca94 ca95 ca96 ca97 ca98 ca99 ca100 ca101 ca102 ca103 ca104 ca105 ca106 ca107 ca108 ca109 ca110 ca111 ca112 ca113 ca114 ca115 ca116 ca117 ca118 ca119 ca120 ca121 ca122
    ca123 ca124 ca125 ca126 ca127 ca128 ca129 ca130 ca131 ca132 ca133 ca134 ca135 ca136 ca137 ca138 ca139 ca140 ca141 ca142 ca143 ca144 ca145 ca146 ca147 ca148 ca149 ca150 ca151 ca152
    ca153 ca154 ca155 ca156 ca157 ca158 ca159 ca160 ca161 ca162 ca163 ca164 ca165 ca166 ca167 ca168 ca169 ca170 ca171 ca172 ca173 ca174 ca175 ca176 ca177 ca178 ca179 ca180 ca181 ca182
    ca183 ca184 ca185 ca186 ca187 ca188 ca189 ca190 ca191 ca192 ca193 ca194 ca195 ca196 ca197 ca198 ca199 ca200 ca201 ca202 ca203 ca204 ca205 ca206 ca207 ca208 ca209 ca210 ca211 ca212
    ca213 ca214 ca215 ca216 ca217 ca218 ca219 ca220 ca221 ca222 ca223 ca224 ca225 ca226 ca227 ca228 ca229 ca230 ca231 ca232 ca233 ca234 ca235 ca236 ca237 ca238 ca239 ca240 ca241 ca242
    ca243 ca244 ca245 ca246 ca247 ca248 ca249 ca250 ca251 ca252 ca253 ca254 ca255 ca256 ca257 ca258 ca259 ca260 ca261 ca262 ca263 ca264 ca265 ca266 ca267 ca268 ca269 ca270 ca271 ca272
    ca273 ca274 ca275 ca276 ca277 ca278 ca279 ca280 ca281 ca282 ca283 ca284 ca285 ca286 : Value}
    (hm : s.length ≤ 140737488350000) (hz : z ≤ 63) (HNN : Hid (N < 18446744073709551616)) (HO3 : Hid (OwnT wb.heap.size 5 .u8 v0 (zerosL s z) w)) (HB3 : Hid (Below wb.heap.size wb w))
    (R : Act → World → Prop)
    (hexit : Hid (∀ (v9 : Value) (w1 : World), OwnT wb.heap.size 5 .u8 v9 (zerosL s z ++ l8 N 8) w1 ∧ Below wb.heap.size wb w1 → ∀ {vb6 vb7 vb41 vb42 vb43 vb44 vb45 vb46 vb47 vb48 vb49 vb50 vb51 vb52 : Value},
      R ⟨List.toArray (ca0 :: ca1 :: ca2 :: ca3 :: ca4 :: v9 :: vb6 :: vb7 :: ca8 :: ca9 :: ca10 :: ca11 :: ca12 :: ca13 :: ca14 :: ca15 :: ca16 :: ca17 :: ca18 :: ca19 :: ca20 :: ca21 :: ca22 :: ca23 :: ca24 :: ca25 :: ca26 :: ca27 :: ca28 :: ca29 ::
      ca30 :: ca31 :: ca32 :: ca33 :: ca34 :: ca35 :: ca36 :: ca37 :: ca38 :: ca39 :: ca40 :: vb41 :: vb42 :: vb43 :: vb44 :: vb45 :: vb46 :: vb47 :: vb48 :: vb49 :: vb50 :: vb51 :: vb52 :: ca53 :: ca54 :: ca55 :: ca56 :: ca57 ::
      ca58 :: ca59 :: ca60 :: ca61 :: ca62 :: ca63 :: ca64 :: ca65 :: ca66 :: ca67 :: ca68 :: ca69 :: ca70 :: ca71 :: ca72 :: ca73 :: ca74 :: ca75 :: ca76 :: ca77 :: ca78 :: ca79 :: ca80 :: ca81 :: ca82 :: ca83 :: ca84 :: ca85 ::
      ca86 :: ca87 :: ca88 :: ca89 :: ca90 :: ca91 :: ca92 :: ca93 :: ca94 :: ca95 :: ca96 :: ca97 :: ca98 :: ca99 :: ca100 :: ca101 :: ca102 :: ca103 :: ca104 :: ca105 :: ca106 :: ca107 :: ca108 :: ca109 :: ca110 :: ca111 :: ca112 ::
      ca113 :: ca114 :: ca115 :: ca116 :: ca117 :: ca118 :: ca119 :: ca120 :: ca121 :: ca122 :: ca123 :: ca124 :: ca125 :: ca126 :: ca127 :: ca128 :: ca129 :: ca130 :: ca131 :: ca132 :: ca133 :: ca134 :: ca135 :: ca136 :: ca137 ::
      ca138 :: ca139 :: ca140 :: ca141 :: ca142 :: ca143 :: ca144 :: ca145 :: ca146 :: ca147 :: ca148 :: ca149 :: ca150 :: ca151 :: ca152 :: ca153 :: ca154 :: ca155 :: ca156 :: ca157 :: ca158 :: ca159 :: ca160 :: ca161 :: ca162 ::
      ca163 :: ca164 :: ca165 :: ca166 :: ca167 :: ca168 :: ca169 :: ca170 :: ca171 :: ca172 :: ca173 :: ca174 :: ca175 :: ca176 :: ca177 :: ca178 :: ca179 :: ca180 :: ca181 :: ca182 :: ca183 :: ca184 :: ca185 :: ca186 :: ca187 ::
      ca188 :: ca189 :: ca190 :: ca191 :: ca192 :: ca193 :: ca194 :: ca195 :: ca196 :: ca197 :: ca198 :: ca199 :: ca200 :: ca201 :: ca202 :: ca203 :: ca204 :: ca205 :: ca206 :: ca207 :: ca208 :: ca209 :: ca210 :: ca211 :: ca212 ::
      ca213 :: ca214 :: ca215 :: ca216 :: ca217 :: ca218 :: ca219 :: ca220 :: ca221 :: ca222 :: ca223 :: ca224 :: ca225 :: ca226 :: ca227 :: ca228 :: ca229 :: ca230 :: ca231 :: ca232 :: ca233 :: ca234 :: ca235 :: ca236 :: ca237 ::
      ca238 :: ca239 :: ca240 :: ca241 :: ca242 :: ca243 :: ca244 :: ca245 :: ca246 :: ca247 :: ca248 :: ca249 :: ca250 :: ca251 :: ca252 :: ca253 :: ca254 :: ca255 :: ca256 :: ca257 :: ca258 :: ca259 :: ca260 :: ca261 :: ca262 ::
      ca263 :: ca264 :: ca265 :: ca266 :: ca267 :: ca268 :: ca269 :: ca270 :: ca271 :: ca272 :: ca273 :: ca274 :: ca275 :: ca276 :: ca277 :: ca278 :: ca279 :: ca280 :: ca281 :: ca282 :: ca283 :: ca284 :: ca285 :: ca286 :: []), []⟩ w1)) :
    Code.wp Tryd.prog (Code.loop (loopAt Tryd.f33 1)) (Ends 2 R) ⟨List.toArray (ca0 :: ca1 :: ca2 :: ca3 :: ca4 :: v0 :: .int .u64 (N : Int) :: .int .i64 0 :: ca8 :: ca9 :: ca10 :: ca11 :: ca12 :: ca13 :: ca14 :: ca15 :: ca16 :: ca17 :: ca18 :: ca19 :: ca20 :: ca21 :: ca22 :: ca23 :: ca24 :: ca25 :: ca26 ::
      ca27 :: ca28 :: ca29 :: ca30 :: ca31 :: ca32 :: ca33 :: ca34 :: ca35 :: ca36 :: ca37 :: ca38 :: ca39 :: ca40 :: ub41 :: ub42 :: ub43 :: ub44 :: ub45 :: ub46 :: ub47 :: ub48 :: ub49 :: ub50 :: ub51 :: ub52 :: ca53 :: ca54 ::
      ca55 :: ca56 :: ca57 :: ca58 :: ca59 :: ca60 :: ca61 :: ca62 :: ca63 :: ca64 :: ca65 :: ca66 :: ca67 :: ca68 :: ca69 :: ca70 :: ca71 :: ca72 :: ca73 :: ca74 :: ca75 :: ca76 :: ca77 :: ca78 :: ca79 :: ca80 :: ca81 :: ca82 ::
      ca83 :: ca84 :: ca85 :: ca86 :: ca87 :: ca88 :: ca89 :: ca90 :: ca91 :: ca92 :: ca93 :: ca94 :: ca95 :: ca96 :: ca97 :: ca98 :: ca99 :: ca100 :: ca101 :: ca102 :: ca103 :: ca104 :: ca105 :: ca106 :: ca107 :: ca108 :: ca109 ::
      ca110 :: ca111 :: ca112 :: ca113 :: ca114 :: ca115 :: ca116 :: ca117 :: ca118 :: ca119 :: ca120 :: ca121 :: ca122 :: ca123 :: ca124 :: ca125 :: ca126 :: ca127 :: ca128 :: ca129 :: ca130 :: ca131 :: ca132 :: ca133 :: ca134 ::
      ca135 :: ca136 :: ca137 :: ca138 :: ca139 :: ca140 :: ca141 :: ca142 :: ca143 :: ca144 :: ca145 :: ca146 :: ca147 :: ca148 :: ca149 :: ca150 :: ca151 :: ca152 :: ca153 :: ca154 :: ca155 :: ca156 :: ca157 :: ca158 :: ca159 ::
      ca160 :: ca161 :: ca162 :: ca163 :: ca164 :: ca165 :: ca166 :: ca167 :: ca168 :: ca169 :: ca170 :: ca171 :: ca172 :: ca173 :: ca174 :: ca175 :: ca176 :: ca177 :: ca178 :: ca179 :: ca180 :: ca181 :: ca182 :: ca183 :: ca184 ::
      ca185 :: ca186 :: ca187 :: ca188 :: ca189 :: ca190 :: ca191 :: ca192 :: ca193 :: ca194 :: ca195 :: ca196 :: ca197 :: ca198 :: ca199 :: ca200 :: ca201 :: ca202 :: ca203 :: ca204 :: ca205 :: ca206 :: ca207 :: ca208 :: ca209 ::
      ca210 :: ca211 :: ca212 :: ca213 :: ca214 :: ca215 :: ca216 :: ca217 :: ca218 :: ca219 :: ca220 :: ca221 :: ca222 :: ca223 :: ca224 :: ca225 :: ca226 :: ca227 :: ca228 :: ca229 :: ca230 :: ca231 :: ca232 :: ca233 :: ca234 ::
      ca235 :: ca236 :: ca237 :: ca238 :: ca239 :: ca240 :: ca241 :: ca242 :: ca243 :: ca244 :: ca245 :: ca246 :: ca247 :: ca248 :: ca249 :: ca250 :: ca251 :: ca252 :: ca253 :: ca254 :: ca255 :: ca256 :: ca257 :: ca258 :: ca259 ::
      ca260 :: ca261 :: ca262 :: ca263 :: ca264 :: ca265 :: ca266 :: ca267 :: ca268 :: ca269 :: ca270 :: ca271 :: ca272 :: ca273 :: ca274 :: ca275 :: ca276 :: ca277 :: ca278 :: ca279 :: ca280 :: ca281 :: ca282 :: ca283 :: ca284 ::
      ca285 :: ca286 :: []), []⟩ w := by
  conv => arg 2; arg 1; whnf

  obtain ⟨i0, hi, hz0, hz1, hz2⟩ := info_parts Tryd.infoU8
  have HLL := Lib.hid (zerosL_len s z)
  go_loopw [5, 6, 7] (fun v n i wr => ∃ q : Nat, q ≤ 8 ∧ i = .int .i64 q ∧ n = .int .u64 ((N * 256 ^ q % 18446744073709551616 : Nat) : Int) ∧ OwnT wb.heap.size 5 .u8 v (zerosL s z ++ l8 N q) wr ∧ Below wb.heap.size wb wr) (fun _ _ i _ => 8 - (intOf i).toNat)
  case atStart => exact ⟨0, by omega, rfl, by rw [Nat.pow_zero, Nat.mul_one, Nat.mod_eq_of_lt HNN.out], by rw [show l8 N 0 = [] from rfl, List.append_nil]; exact HO3.out, HB3.out⟩
  case round =>
    clear HO3 HB3
    obtain ⟨q, hq, rfl, rfl, ho, hb⟩ := hrel
    obtain ⟨g3, cap3, rfl⟩ := ho.form
    have hl3 : (zerosL s z ++ l8 N q).length = s.length + 1 + z + q := by rw [List.length_append, HLL.out, l8_len]
    have hn := Nat.mod_lt (N * 256 ^ q) (show 18446744073709551616 > 0 by decide)
    have hnx : l8 N (q + 1) = l8 N q ++ [N * 256 ^ q % 18446744073709551616 / 72057594037927936] := rfl
    have hnn : N * 256 ^ (q + 1) % 18446744073709551616 = N * 256 ^ q % 18446744073709551616 * 256 % 18446744073709551616 := by
      rw [Nat.pow_succ, ← Nat.mul_assoc]
      omega
    generalize N * 256 ^ q % 18446744073709551616 = n at hn hnx hnn ⊢
    have HX := Lib.hid hnx
    have HNX := Lib.hid hnn
    have HO3 := Lib.hid ho
    have HB3 := Lib.hid hb
    clear ho hb hnx hnn
    by_cases hlt : q < 8
    · go_wp2_with (at_builtin; refine wpList_append_tail rfl _ _ 41 rfl wb.heap.size 5 i0 (.int .u8 0) 1 .u8 Tryd.underlying41 hi hz0 hz1 hz2 rfl _ _ rfl (HO3.out.alloc _) ⟨wr.heap.size, 0, none⟩ 1 (n / 72057594037927936) rfl (cell_one_new _ _ _) ?c3 ?c4 ?c5 ?_)
      case c3 => unfold maxLen; omega
      case c4 => omega
      case c5 => have := HB3.out.size; simp; omega
      intro v4 w4 ho hgrow _
      have HB4 := Lib.hid (tail_pushed HB3.out HB3.out.size HO3.out hgrow)
      rw [← HX.out] at ho
      have HO4 := Lib.hid ho
      clear HO3 HB3 ho hgrow
      obtain ⟨y, hy⟩ : ∃ y, y = n * 256 % 18446744073709551616 := ⟨_, rfl⟩
      have hw : IntKind.u64.wrap ((n : Int) * 256) = (y : Int) := by simp [IntKind.wrap, IntKind.bits, IntKind.signed]; omega
      have HY := Lib.hid hy
      clear hy
      go_wp2_with fail
      exact ⟨⟨q + 1, by omega, by go_num, by rw [HNX.out, HY.out], HO4.out, HB4.out⟩, by simp [intOf]; omega⟩
    · obtain rfl : q = 8 := by omega
      rw [show ((8 : Nat) : Int) = 8 from rfl]
      clear hl3
      go_wp2_with fail
      exact ends_exit (hexit.out _ _ ⟨HO3.out, HB3.out⟩)
end Go.Proofs.YthgfpojfnhkckaaDoor
