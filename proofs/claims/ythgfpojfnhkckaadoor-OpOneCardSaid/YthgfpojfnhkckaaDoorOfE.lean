/-
  The document's Of: the sums behind a block; the digest's bytes.
-/
import Derived.Test.YthgfpojfnhkckaaDoorOfA
namespace Go.Proofs.YthgfpojfnhkckaaDoor
open Go.RowKit

set_option maxHeartbeats 4000000 in
set_option maxRecDepth 100000 in
theorem of_loop8 {h0 v0 : S8} {BH BV hb gv cv : Nat} {w : World}
    {ca0 ca1 ca2 ca4 ca5 ca6 ca7 ca8 ca9 ca10 ca11 ca12 ca13 ca14 ca16 ca17 ca18 ub19 ca20 ca21 ca22 ca23 ca24 ca25 ca26 ca27 ca28 ca29 ca30 ca31
    ca32 ca33 ca34 ca35 ca36 ca37 ca38 ca39 ca40 ca41 ca42 ca43 ca44 ca45 ca46 ca47 ca48 ca49 ca50 ca51 ca52 ca53 ca54 ca55 ca56 ca57 ca58 ca59 ca60 ca61
    ca62 ca63 ca64 ca65 ca66 ca67 ca68 ca69 ca70 ca71 ca72 ca73 ca74 ca75 ca76 ca77 ca78 ca79 ca80 ca81 ca82 ca83 ca84 ca85 ca86 ca87 ca88 ca89 ca90 ca91
    ca92 ca93 ca94 ca95 ca96 ca97 ca98 ca99 ca100 ca101 ca102 ca103 ca104 ca105 ca106 ca107 ca108 ca109 ca110 ca111 ca112 ca113 ca114 ca115 ca116 ca117 ca118 ca119 ca120 ca121
    ca122 ca123 ca124 ca125 ca126 ca127 ca128 ca129 ca130 ca131 ca132 ca133 ca134 ca135 ca136 ca137 ca138 ca139 ca140 ca141 ca142 ca143 ca144 ca145 ca146 ca147 ca148 ca149 ca150 ca151
    ca152 ca153 ca154 ca155 ca156 ca157 ca158 ca159 ca160 ca161 ca162 ca163 ca164 ca165 ca166 ca167 ca168 ca169 ca170 ca171 ca172 ca173 ca174 ca175 ca176 ca177 ca178 ca179 ca180 ca181
    ca182 ca183 ca184 ca185 ca186 ca187 ca188 ca189 ca190 ca191 ca192 ca193 ca194 ca195 ca196 ca197 ca198 ca199 ca200 ca201 ca202 ca203 ca204 ca205 ca206 ca207 ca208 ca209 ca210 ca211
    ca212 ca213 ca214 ca215 ca216 ca217 ca218 ca219 ca220 ca221 ca222 ca223 ca224 ca225 ca226 ca227 ca228 ca229 ca230 ca231 ca232 ca233 ca234 ca235 ca236 ca237 ca238 ca239 ca240 ca241
    ca242 ca243 ca244 ca245 ca246 ca247 ca248 ca249 ca250 ub253 ub254 ub255 ub256 ub257 ub258 ub259 ub260 ub261 ub262 ub263 ub264 ub265 ub266 ub267 ca268 ca269 ca270 ca271 ca272 ca273
    ca274 ca275 ca276 ca277 ca278 ca279 ca280 ca281 ca282 ca283 ca284 ca285 ca286 : Value}
    (hne : hb ≠ gv) (HOH : Hid h0.Ok) (HOV : Hid v0.Ok) (HH : Hid (OwnN BH 64 .u32 (.slice (some ⟨hb, 0, none⟩) 8 8) h0.list w)) (HV : Hid (OwnN BV 64 .u32 (.slice (some ⟨gv, 0, none⟩) 8 cv) v0.list w))
    (R : Act → World → Prop)
    (hexit : Hid (∀  (w1 : World), OwnN BH 64 .u32 (.slice (some ⟨hb, 0, none⟩) 8 8) (addS h0 v0).list w1 ∧ But hb w w1 → ∀ {vb19 vb252 vb253 vb254 vb255 vb256 vb257 vb258 vb259 vb260 vb261 vb262 vb263 vb264 vb265 vb266 vb267 : Value},
      R ⟨List.toArray (ca0 :: ca1 :: ca2 :: .slice (some ⟨hb, 0, none⟩) 8 8 :: ca4 :: ca5 :: ca6 :: ca7 :: ca8 :: ca9 :: ca10 :: ca11 :: ca12 :: ca13 :: ca14 :: .slice (some ⟨gv, 0, none⟩) 8 cv :: ca16 :: ca17 :: ca18 :: vb19 :: ca20 :: ca21 :: ca22 ::
      ca23 :: ca24 :: ca25 :: ca26 :: ca27 :: ca28 :: ca29 :: ca30 :: ca31 :: ca32 :: ca33 :: ca34 :: ca35 :: ca36 :: ca37 :: ca38 :: ca39 :: ca40 :: ca41 :: ca42 :: ca43 :: ca44 :: ca45 :: ca46 :: ca47 :: ca48 :: ca49 :: ca50 ::
      ca51 :: ca52 :: ca53 :: ca54 :: ca55 :: ca56 :: ca57 :: ca58 :: ca59 :: ca60 :: ca61 :: ca62 :: ca63 :: ca64 :: ca65 :: ca66 :: ca67 :: ca68 :: ca69 :: ca70 :: ca71 :: ca72 :: ca73 :: ca74 :: ca75 :: ca76 :: ca77 :: ca78 ::
      ca79 :: ca80 :: ca81 :: ca82 :: ca83 :: ca84 :: ca85 :: ca86 :: ca87 :: ca88 :: ca89 :: ca90 :: ca91 :: ca92 :: ca93 :: ca94 :: ca95 :: ca96 :: ca97 :: ca98 :: ca99 :: ca100 :: ca101 :: ca102 :: ca103 :: ca104 :: ca105 ::
      ca106 :: ca107 :: ca108 :: ca109 :: ca110 :: ca111 :: ca112 :: ca113 :: ca114 :: ca115 :: ca116 :: ca117 :: ca118 :: ca119 :: ca120 :: ca121 :: ca122 :: ca123 :: ca124 :: ca125 :: ca126 :: ca127 :: ca128 :: ca129 :: ca130 ::
      ca131 :: ca132 :: ca133 :: ca134 :: ca135 :: ca136 :: ca137 :: ca138 :: ca139 :: ca140 :: ca141 :: ca142 :: ca143 :: ca144 :: ca145 :: ca146 :: ca147 :: ca148 :: ca149 :: ca150 :: ca151 :: ca152 :: ca153 :: ca154 :: ca155 ::
      ca156 :: ca157 :: ca158 :: ca159 :: ca160 :: ca161 :: ca162 :: ca163 :: ca164 :: ca165 :: ca166 :: ca167 :: ca168 :: ca169 :: ca170 :: ca171 :: ca172 :: ca173 :: ca174 :: ca175 :: ca176 :: ca177 :: ca178 :: ca179 :: ca180 ::
      ca181 :: ca182 :: ca183 :: ca184 :: ca185 :: ca186 :: ca187 :: ca188 :: ca189 :: ca190 :: ca191 :: ca192 :: ca193 :: ca194 :: ca195 :: ca196 :: ca197 :: ca198 :: ca199 :: ca200 :: ca201 :: ca202 :: ca203 :: ca204 :: ca205 ::
      ca206 :: ca207 :: ca208 :: ca209 :: ca210 :: ca211 :: ca212 :: ca213 :: ca214 :: ca215 :: ca216 :: ca217 :: ca218 :: ca219 :: ca220 :: ca221 :: ca222 :: ca223 :: ca224 :: ca225 :: ca226 :: ca227 :: ca228 :: ca229 :: ca230 ::
      ca231 :: ca232 :: ca233 :: ca234 :: ca235 :: ca236 :: ca237 :: ca238 :: ca239 :: ca240 :: ca241 :: ca242 :: ca243 :: ca244 :: ca245 :: ca246 :: ca247 :: ca248 :: ca249 :: ca250 :: .int .i64 8 :: vb252 :: vb253 :: vb254 ::
      vb255 :: vb256 :: vb257 :: vb258 :: vb259 :: vb260 :: vb261 :: vb262 :: vb263 :: vb264 :: vb265 :: vb266 :: vb267 :: ca268 :: ca269 :: ca270 :: ca271 :: ca272 :: ca273 :: ca274 :: ca275 :: ca276 :: ca277 :: ca278 :: ca279 ::
      ca280 :: ca281 :: ca282 :: ca283 :: ca284 :: ca285 :: ca286 :: []), []⟩ w1)) :
    Code.wp Tryd.prog (Code.loop (loopAt Tryd.f33 7)) (Ends 14 R) ⟨List.toArray (ca0 :: ca1 :: ca2 :: .slice (some ⟨hb, 0, none⟩) 8 8 :: ca4 :: ca5 :: ca6 :: ca7 :: ca8 :: ca9 :: ca10 :: ca11 :: ca12 :: ca13 :: ca14 :: .slice (some ⟨gv, 0, none⟩) 8 cv :: ca16 :: ca17 :: ca18 :: ub19 :: ca20 :: ca21 :: ca22 ::
      ca23 :: ca24 :: ca25 :: ca26 :: ca27 :: ca28 :: ca29 :: ca30 :: ca31 :: ca32 :: ca33 :: ca34 :: ca35 :: ca36 :: ca37 :: ca38 :: ca39 :: ca40 :: ca41 :: ca42 :: ca43 :: ca44 :: ca45 :: ca46 :: ca47 :: ca48 :: ca49 :: ca50 ::
      ca51 :: ca52 :: ca53 :: ca54 :: ca55 :: ca56 :: ca57 :: ca58 :: ca59 :: ca60 :: ca61 :: ca62 :: ca63 :: ca64 :: ca65 :: ca66 :: ca67 :: ca68 :: ca69 :: ca70 :: ca71 :: ca72 :: ca73 :: ca74 :: ca75 :: ca76 :: ca77 :: ca78 ::
      ca79 :: ca80 :: ca81 :: ca82 :: ca83 :: ca84 :: ca85 :: ca86 :: ca87 :: ca88 :: ca89 :: ca90 :: ca91 :: ca92 :: ca93 :: ca94 :: ca95 :: ca96 :: ca97 :: ca98 :: ca99 :: ca100 :: ca101 :: ca102 :: ca103 :: ca104 :: ca105 ::
      ca106 :: ca107 :: ca108 :: ca109 :: ca110 :: ca111 :: ca112 :: ca113 :: ca114 :: ca115 :: ca116 :: ca117 :: ca118 :: ca119 :: ca120 :: ca121 :: ca122 :: ca123 :: ca124 :: ca125 :: ca126 :: ca127 :: ca128 :: ca129 :: ca130 ::
      ca131 :: ca132 :: ca133 :: ca134 :: ca135 :: ca136 :: ca137 :: ca138 :: ca139 :: ca140 :: ca141 :: ca142 :: ca143 :: ca144 :: ca145 :: ca146 :: ca147 :: ca148 :: ca149 :: ca150 :: ca151 :: ca152 :: ca153 :: ca154 :: ca155 ::
      ca156 :: ca157 :: ca158 :: ca159 :: ca160 :: ca161 :: ca162 :: ca163 :: ca164 :: ca165 :: ca166 :: ca167 :: ca168 :: ca169 :: ca170 :: ca171 :: ca172 :: ca173 :: ca174 :: ca175 :: ca176 :: ca177 :: ca178 :: ca179 :: ca180 ::
      ca181 :: ca182 :: ca183 :: ca184 :: ca185 :: ca186 :: ca187 :: ca188 :: ca189 :: ca190 :: ca191 :: ca192 :: ca193 :: ca194 :: ca195 :: ca196 :: ca197 :: ca198 :: ca199 :: ca200 :: ca201 :: ca202 :: ca203 :: ca204 :: ca205 ::
      ca206 :: ca207 :: ca208 :: ca209 :: ca210 :: ca211 :: ca212 :: ca213 :: ca214 :: ca215 :: ca216 :: ca217 :: ca218 :: ca219 :: ca220 :: ca221 :: ca222 :: ca223 :: ca224 :: ca225 :: ca226 :: ca227 :: ca228 :: ca229 :: ca230 ::
      ca231 :: ca232 :: ca233 :: ca234 :: ca235 :: ca236 :: ca237 :: ca238 :: ca239 :: ca240 :: ca241 :: ca242 :: ca243 :: ca244 :: ca245 :: ca246 :: ca247 :: ca248 :: ca249 :: ca250 :: .int .i64 8 :: .int .i64 0 :: ub253 :: ub254 ::
      ub255 :: ub256 :: ub257 :: ub258 :: ub259 :: ub260 :: ub261 :: ub262 :: ub263 :: ub264 :: ub265 :: ub266 :: ub267 :: ca268 :: ca269 :: ca270 :: ca271 :: ca272 :: ca273 :: ca274 :: ca275 :: ca276 :: ca277 :: ca278 :: ca279 ::
      ca280 :: ca281 :: ca282 :: ca283 :: ca284 :: ca285 :: ca286 :: []), []⟩ w := by
  conv => arg 2; arg 1; whnf

  go_loopw [252] (fun i wq => ∃ k : Nat, k ≤ 8 ∧ i = .int .i64 k ∧ OwnN BH 64 .u32 (.slice (some ⟨hb, 0, none⟩) 8 8) (addL h0.list v0.list k) wq ∧ But hb w wq) (fun i _ => 8 - (intOf i).toNat)
  case atStart => exact ⟨0, by omega, rfl, HH.out, But.refl _ _⟩
  case round =>
    clear HH
    obtain ⟨k, hk, rfl, ho, hb2⟩ := hrel
    have HH := Lib.hid ho
    have HB := Lib.hid hb2
    clear ho hb2
    by_cases hlk : k < 8
    · have hlen := addL_len h0.list v0.list k
      rw [S8.list_len] at hlen
      have hV := HV.out.but HB.out (by rintro g hg rfl; exact hne (Option.some.inj hg).symm)
      have c1 := HH.out.cellN hlen.symm k hlk
      have hf := HH.out.frozenAt hlen.symm k
      have c2 := hV.cellN (S8.list_len v0).symm k hlk
      rw [addL_at _ _ _ _ (Nat.le_refl k)] at c1
      have hx := getD_lt HOH.out.lt (by decide) k
      have hy := getD_lt HOV.out.lt (by decide) k
      have HS := Lib.hid (HH.out.stored hlen.symm k ((h0.list.getD k 0 + v0.list.getD k 0) % 4294967296))
      have HA := Lib.hid (show addL h0.list v0.list (k + 1) = (addL h0.list v0.list k).set k ((h0.list.getD k 0 + v0.list.getD k 0) % 4294967296) from rfl)
      generalize h0.list.getD k 0 = x at c1 hx HS HA
      generalize v0.list.getD k 0 = y at c2 hy HS HA
      clear hlen hV
      go_wp2_with fail
      go_region
      go_wp2_with fail
      have hv : (((x + y) % 4294967296 : Nat) : Int) = ((x : Int) + (y : Int)) % 4294967296 := by omega
      exact ⟨⟨k + 1, by omega, by go_num, by
        rw [HA.out]
        have h := HS.out
        rw [hv] at h
        exact h, (HB.out.setCell _ _).drew⟩, by simp [intOf]; omega⟩
    · obtain rfl : k = 8 := by omega
      rw [show ((8 : Nat) : Int) = 8 from rfl]
      go_wp2_with fail
      exact ends_exit (hexit.out _ ⟨by have := HH.out; rwa [addL_eight] at this, HB.out⟩)

set_option maxHeartbeats 4000000 in
set_option maxRecDepth 100000 in
theorem of_loop9 {h0 : S8} {BH hb db : Nat} {w : World}
    {ca0 ca1 ca2 ca4 ca5 ca6 ca7 ca8 ca9 ca10 ca11 ca12 ca13 ca14 ca15 ca16 ca17 ca18 ca19 ub21 ca22 ca23 ca24 ca25 ca26 ca27 ca28 ca29 ca30 ca31
    ca32 ca33 ca34 ca35 ca36 ca37 ca38 ca39 ca40 ca41 ca42 ca43 ca44 ca45 ca46 ca47 ca48 ca49 ca50 ca51 ca52 ca53 ca54 ca55 ca56 ca57 ca58 ca59 ca60 ca61
    ca62 ca63 ca64 ca65 ca66 ca67 ca68 ca69 ca70 ca71 ca72 ca73 ca74 ca75 ca76 ca77 ca78 ca79 ca80 ca81 ca82 ca83 ca84 ca85 ca86 ca87 ca88 ca89 ca90 ca91
    ca92 ca93 ca94 ca95 ca96 ca97 ca98 ca99 ca100 ca101 ca102 ca103 ca104 ca105 ca106 ca107 ca108 ca109 ca110 ca111 ca112 ca113 ca114 ca115 ca116 ca117 ca118 ca119 ca120 ca121
    ca122 ca123 ca124 ca125 ca126 ca127 ca128 ca129 ca130 ca131 ca132 ca133 ca134 ca135 ca136 ca137 ca138 ca139 ca140 ca141 ca142 ca143 ca144 ca145 ca146 ca147 ca148 ca149 ca150 ca151
    ca152 ca153 ca154 ca155 ca156 ca157 ca158 ca159 ca160 ca161 ca162 ca163 ca164 ca165 ca166 ca167 ca168 ca169 ca170 ca171 ca172 ca173 ca174 ca175 ca176 ca177 ca178 ca179 ca180 ca181
    ca182 ca183 ca184 ca185 ca186 ca187 ca188 ca189 ca190 ca191 ca192 ca193 ca194 ca195 ca196 ca197 ca198 ca199 ca200 ca201 ca202 ca203 ca204 ca205 ca206 ca207 ca208 ca209 ca210 ca211
    ca212 ca213 ca214 ca215 ca216 ca217 ca218 ca219 ca220 ca221 ca222 ca223 ca224 ca225 ca226 ca227 ca228 ca229 ca230 ca231 ca232 ca233 ca234 ca235 ca236 ca237 ca238 ca239 ca240 ca241
    ca242 ca243 ca244 ca245 ca246 ca247 ca248 ca249 ca250 ca251 ca252 ca253 ca254 ca255 ca256 ca257 ca258 ca259 ca260 ca261 ca262 ca263 ca264 ca265 ca266 ca267 ub269 ub270 ub271 ub272
    ub273 ub274 ub275 ub276 ub277 ub278 ub279 ub280 ub281 ub282 ub283 ub284 ub285 ca286 : Value}
    (hne : hb ≠ db) (HOH : Hid h0.Ok) (HH : Hid (OwnN BH 64 .u32 (.slice (some ⟨hb, 0, none⟩) 8 8) h0.list w)) (HD : Hid (w.heap[db]? = some (.cells (nums .u8 (outP h0.list 0)).toArray 25 (0, 0))))
    (R : Act → World → Prop)
    (hexit : Hid (∀  (w1 : World), w1.heap[db]? = some (.cells (nums .u8 (outN h0.list)).toArray 25 (0, 0)) ∧ But db w w1 → ∀ {vb21 vb268 vb269 vb270 vb271 vb272 vb273 vb274 vb275 vb276 vb277 vb278 vb279 vb280 vb281 vb282 vb283 vb284 vb285 : Value},
      R ⟨List.toArray (ca0 :: ca1 :: ca2 :: .slice (some ⟨hb, 0, none⟩) 8 8 :: ca4 :: ca5 :: ca6 :: ca7 :: ca8 :: ca9 :: ca10 :: ca11 :: ca12 :: ca13 :: ca14 :: ca15 :: ca16 :: ca17 :: ca18 :: ca19 :: .pointer (some ⟨db, 0, none⟩) :: vb21 :: ca22 ::
      ca23 :: ca24 :: ca25 :: ca26 :: ca27 :: ca28 :: ca29 :: ca30 :: ca31 :: ca32 :: ca33 :: ca34 :: ca35 :: ca36 :: ca37 :: ca38 :: ca39 :: ca40 :: ca41 :: ca42 :: ca43 :: ca44 :: ca45 :: ca46 :: ca47 :: ca48 :: ca49 :: ca50 ::
      ca51 :: ca52 :: ca53 :: ca54 :: ca55 :: ca56 :: ca57 :: ca58 :: ca59 :: ca60 :: ca61 :: ca62 :: ca63 :: ca64 :: ca65 :: ca66 :: ca67 :: ca68 :: ca69 :: ca70 :: ca71 :: ca72 :: ca73 :: ca74 :: ca75 :: ca76 :: ca77 :: ca78 ::
      ca79 :: ca80 :: ca81 :: ca82 :: ca83 :: ca84 :: ca85 :: ca86 :: ca87 :: ca88 :: ca89 :: ca90 :: ca91 :: ca92 :: ca93 :: ca94 :: ca95 :: ca96 :: ca97 :: ca98 :: ca99 :: ca100 :: ca101 :: ca102 :: ca103 :: ca104 :: ca105 ::
      ca106 :: ca107 :: ca108 :: ca109 :: ca110 :: ca111 :: ca112 :: ca113 :: ca114 :: ca115 :: ca116 :: ca117 :: ca118 :: ca119 :: ca120 :: ca121 :: ca122 :: ca123 :: ca124 :: ca125 :: ca126 :: ca127 :: ca128 :: ca129 :: ca130 ::
      ca131 :: ca132 :: ca133 :: ca134 :: ca135 :: ca136 :: ca137 :: ca138 :: ca139 :: ca140 :: ca141 :: ca142 :: ca143 :: ca144 :: ca145 :: ca146 :: ca147 :: ca148 :: ca149 :: ca150 :: ca151 :: ca152 :: ca153 :: ca154 :: ca155 ::
      ca156 :: ca157 :: ca158 :: ca159 :: ca160 :: ca161 :: ca162 :: ca163 :: ca164 :: ca165 :: ca166 :: ca167 :: ca168 :: ca169 :: ca170 :: ca171 :: ca172 :: ca173 :: ca174 :: ca175 :: ca176 :: ca177 :: ca178 :: ca179 :: ca180 ::
      ca181 :: ca182 :: ca183 :: ca184 :: ca185 :: ca186 :: ca187 :: ca188 :: ca189 :: ca190 :: ca191 :: ca192 :: ca193 :: ca194 :: ca195 :: ca196 :: ca197 :: ca198 :: ca199 :: ca200 :: ca201 :: ca202 :: ca203 :: ca204 :: ca205 ::
      ca206 :: ca207 :: ca208 :: ca209 :: ca210 :: ca211 :: ca212 :: ca213 :: ca214 :: ca215 :: ca216 :: ca217 :: ca218 :: ca219 :: ca220 :: ca221 :: ca222 :: ca223 :: ca224 :: ca225 :: ca226 :: ca227 :: ca228 :: ca229 :: ca230 ::
      ca231 :: ca232 :: ca233 :: ca234 :: ca235 :: ca236 :: ca237 :: ca238 :: ca239 :: ca240 :: ca241 :: ca242 :: ca243 :: ca244 :: ca245 :: ca246 :: ca247 :: ca248 :: ca249 :: ca250 :: ca251 :: ca252 :: ca253 :: ca254 :: ca255 ::
      ca256 :: ca257 :: ca258 :: ca259 :: ca260 :: ca261 :: ca262 :: ca263 :: ca264 :: ca265 :: ca266 :: ca267 :: vb268 :: vb269 :: vb270 :: vb271 :: vb272 :: vb273 :: vb274 :: vb275 :: vb276 :: vb277 :: vb278 :: vb279 :: vb280 ::
      vb281 :: vb282 :: vb283 :: vb284 :: vb285 :: ca286 :: []), []⟩ w1)) :
    Code.wp Tryd.prog (Code.loop (loopAt Tryd.f33 8)) (Ends 16 R) ⟨List.toArray (ca0 :: ca1 :: ca2 :: .slice (some ⟨hb, 0, none⟩) 8 8 :: ca4 :: ca5 :: ca6 :: ca7 :: ca8 :: ca9 :: ca10 :: ca11 :: ca12 :: ca13 :: ca14 :: ca15 :: ca16 :: ca17 :: ca18 :: ca19 :: .pointer (some ⟨db, 0, none⟩) :: ub21 :: ca22 ::
      ca23 :: ca24 :: ca25 :: ca26 :: ca27 :: ca28 :: ca29 :: ca30 :: ca31 :: ca32 :: ca33 :: ca34 :: ca35 :: ca36 :: ca37 :: ca38 :: ca39 :: ca40 :: ca41 :: ca42 :: ca43 :: ca44 :: ca45 :: ca46 :: ca47 :: ca48 :: ca49 :: ca50 ::
      ca51 :: ca52 :: ca53 :: ca54 :: ca55 :: ca56 :: ca57 :: ca58 :: ca59 :: ca60 :: ca61 :: ca62 :: ca63 :: ca64 :: ca65 :: ca66 :: ca67 :: ca68 :: ca69 :: ca70 :: ca71 :: ca72 :: ca73 :: ca74 :: ca75 :: ca76 :: ca77 :: ca78 ::
      ca79 :: ca80 :: ca81 :: ca82 :: ca83 :: ca84 :: ca85 :: ca86 :: ca87 :: ca88 :: ca89 :: ca90 :: ca91 :: ca92 :: ca93 :: ca94 :: ca95 :: ca96 :: ca97 :: ca98 :: ca99 :: ca100 :: ca101 :: ca102 :: ca103 :: ca104 :: ca105 ::
      ca106 :: ca107 :: ca108 :: ca109 :: ca110 :: ca111 :: ca112 :: ca113 :: ca114 :: ca115 :: ca116 :: ca117 :: ca118 :: ca119 :: ca120 :: ca121 :: ca122 :: ca123 :: ca124 :: ca125 :: ca126 :: ca127 :: ca128 :: ca129 :: ca130 ::
      ca131 :: ca132 :: ca133 :: ca134 :: ca135 :: ca136 :: ca137 :: ca138 :: ca139 :: ca140 :: ca141 :: ca142 :: ca143 :: ca144 :: ca145 :: ca146 :: ca147 :: ca148 :: ca149 :: ca150 :: ca151 :: ca152 :: ca153 :: ca154 :: ca155 ::
      ca156 :: ca157 :: ca158 :: ca159 :: ca160 :: ca161 :: ca162 :: ca163 :: ca164 :: ca165 :: ca166 :: ca167 :: ca168 :: ca169 :: ca170 :: ca171 :: ca172 :: ca173 :: ca174 :: ca175 :: ca176 :: ca177 :: ca178 :: ca179 :: ca180 ::
      ca181 :: ca182 :: ca183 :: ca184 :: ca185 :: ca186 :: ca187 :: ca188 :: ca189 :: ca190 :: ca191 :: ca192 :: ca193 :: ca194 :: ca195 :: ca196 :: ca197 :: ca198 :: ca199 :: ca200 :: ca201 :: ca202 :: ca203 :: ca204 :: ca205 ::
      ca206 :: ca207 :: ca208 :: ca209 :: ca210 :: ca211 :: ca212 :: ca213 :: ca214 :: ca215 :: ca216 :: ca217 :: ca218 :: ca219 :: ca220 :: ca221 :: ca222 :: ca223 :: ca224 :: ca225 :: ca226 :: ca227 :: ca228 :: ca229 :: ca230 ::
      ca231 :: ca232 :: ca233 :: ca234 :: ca235 :: ca236 :: ca237 :: ca238 :: ca239 :: ca240 :: ca241 :: ca242 :: ca243 :: ca244 :: ca245 :: ca246 :: ca247 :: ca248 :: ca249 :: ca250 :: ca251 :: ca252 :: ca253 :: ca254 :: ca255 ::
      ca256 :: ca257 :: ca258 :: ca259 :: ca260 :: ca261 :: ca262 :: ca263 :: ca264 :: ca265 :: ca266 :: ca267 :: .int .i64 0 :: ub269 :: ub270 :: ub271 :: ub272 :: ub273 :: ub274 :: ub275 :: ub276 :: ub277 :: ub278 :: ub279 ::
      ub280 :: ub281 :: ub282 :: ub283 :: ub284 :: ub285 :: ca286 :: []), []⟩ w := by
  conv => arg 2; arg 1; whnf

  go_loopw [268] (fun i wq => ∃ k : Nat, k ≤ 32 ∧ i = .int .i64 k ∧ wq.heap[db]? = some (.cells (nums .u8 (outP h0.list k)).toArray 25 (0, 0)) ∧ But db w wq) (fun i _ => 32 - (intOf i).toNat)
  case atStart => exact ⟨0, by omega, rfl, HD.out, But.refl _ _⟩
  case round =>
    clear HD
    obtain ⟨k, hk, rfl, ho, hb2⟩ := hrel
    have HD := Lib.hid ho
    have HB := Lib.hid hb2
    clear ho hb2
    by_cases hlk : k < 32
    · have hq := getD_lt HOH.out.lt (by decide) (k / 4)
      have hlen := outP_len h0.list k hk
      have hH := HH.out.but HB.out (by rintro g hg rfl; exact hne (Option.some.inj hg))
      have c1 := hH.cellN (S8.list_len h0).symm (k / 4) (by omega)
      have hf : wr.frozen? ⟨db, k, none⟩ = false := by simp [World.frozen?, HD.out]
      have c2 : wr.cell? ⟨db, k, none⟩ = some (.int .u8 (((outP h0.list k).getD k 0 : Nat) : Int)) := by
        rw [Lib.cell_of_heap HD.out k, List.getElem?_toArray, nums, List.getElem?_map, List.getElem?_eq_getElem (by omega), List.getD_eq_getElem?_getD, List.getElem?_eq_getElem (by omega)]
        rfl
      have HS := Lib.hid (heap_setCell_at (o := k) (v := .int .u8 ((outB h0.list k : Nat) : Int)) HD.out)
      have HO := Lib.hid (show outB h0.list k = h0.list.getD (k / 4) 0 / 2 ^ (24 - 8 * (k % 4)) % 256 from rfl)
      have HP := Lib.hid (outP_set h0.list k hlk)
      generalize h0.list.getD (k / 4) 0 = x at c1 hq HO
      generalize (outP h0.list k).getD k 0 = y at c2
      obtain ⟨j, hj⟩ : ∃ j, j = k / 4 := ⟨_, rfl⟩
      obtain ⟨r, hr⟩ : ∃ r, r = k % 4 := ⟨_, rfl⟩
      rw [← hj] at c1
      have e1 : (k : Int) / 4 = (j : Int) := by omega
      have e2 : (k : Int) % 4 = (r : Int) := by omega
      have b1 : (j : Int) < 8 := by omega
      have b2 : (r : Int) ≤ 3 := by omega
      have b3 : (k : Int) < 32 := by omega
      have HR := Lib.hid hr
      clear hlen hH hj hr
      go_wp2_with fail
      have hv : ((outB h0.list k : Nat) : Int) = (x : Int) / 2 ^ (24 - 8 * r) % 256 := by
        rw [HO.out, HR.out]
        simp
      refine ⟨⟨k + 1, by omega, by go_num, ?_, HB.out.setCell _ _⟩, by simp [intOf]; omega⟩
      have h := HS.out
      rw [List.setIfInBounds_toArray, nums_set, HP.out, hv] at h
      exact h
    · obtain rfl : k = 32 := by omega
      rw [show ((32 : Nat) : Int) = 32 from rfl]
      go_wp2_with fail
      exact ends_exit (hexit.out _ ⟨by have := HD.out; rwa [outP_full] at this, HB.out⟩)
end Go.Proofs.YthgfpojfnhkckaaDoor
