/-
  The document's Of: block after block.
-/
import Derived.Test.YthgfpojfnhkckaaDoorOfB
import Derived.Test.YthgfpojfnhkckaaDoorOfC
import Derived.Test.YthgfpojfnhkckaaDoorOfD
import Derived.Test.YthgfpojfnhkckaaDoorOfE
namespace Go.Proofs.YthgfpojfnhkckaaDoor
open Go.RowKit

set_option maxHeartbeats 4000000 in
set_option maxRecDepth 100000 in
theorem of_loop3 {p : List Nat} {g3 cap3 : Nat} {w wz : World}
    {ca0 ca1 ca2 ca6 ca7 ub9 ub10 ub11 ub12 ub13 ub14 ub15 ub16 ub17 ub18 ub19 ca20 ca21 ca22 ca23 ca24 ca25 ca26 ca27 ca28 ca29 ca30 ca31 ca32 ca33
    ca34 ca35 ca36 ca37 ca38 ca39 ca40 ca41 ca42 ca43 ca44 ca45 ca46 ca47 ca48 ca49 ca50 ca51 ca52 ub53 ub54 ub55 ub56 ub57 ub58 ub59 ub60 ub61 ub62 ub63
    ub64 ub65 ub66 ub67 ub68 ub69 ub70 ub71 ub72 ub73 ub74 ub75 ub76 ub77 ub78 ub79 ub80 ub81 ub82 ub83 ub84 ub85 ub86 ub87 ub88 ub89 ub90 ub91 ub92 ub93
    ub94 ub95 ub96 ub97 ub98 ub99 ub100 ub101 ub102 ub103 ub104 ub105 ub106 ub107 ub108 ub109 ub110 ub111 ub112 ub113 ub114 ub115 ub116 ub117 ub118 ub119 ub120 ub121 ub122 ub123
    ub124 ub125 ub126 ub127 ub128 ub129 ub130 ub131 ub132 ub133 ub134 ub135 ub136 ub137 ub138 ub139 ub140 ub141 ub142 ub143 ub144 ub145 ub146 ub147 ub148 ub149 ub150 ub151 ub152 ub153
    ub154 ub155 ub156 ub157 ub158 ub159 ub160 ub161 ub162 ub163 ub164 ub165 ub166 ub167 ub168 ub169 ub170 ub171 ub172 ub173 ub174 ub175 ub176 ub177 ub178 ub179 ub180 ub181 ub182 ub183
    ub184 ub185 ub186 ub187 ub188 ub189 ub190 ub191 ub192 ub193 ub194 ub195 ub196 ub197 ub198 ub199 ub200 ub201 ub202 ub203 ub204 ub205 ub206 ub207 ub208 ub209 ub210 ub211 ub212 ub213
    ub214 ub215 ub216 ub217 ub218 ub219 ub220 ub221 ub222 ub223 ub224 ub225 ub226 ub227 ub228 ub229 ub230 ub231 ub232 ub233 ub234 ub235 ub236 ub237 ub238 ub239 ub240 ub241 ub242 ub243
    ub244 ub245 ub246 ub247 ub248 ub249 ub250 ub251 ub252 ub253 ub254 ub255 ub256 ub257 ub258 ub259 ub260 ub261 ub262 ub263 ub264 ub265 ub266 ub267 ca268 ca269 ca270 ca271 ca272 ca273
    ca274 ca275 ca276 ca277 ca278 ca279 ca280 ca281 ca282 ca283 ca284 ca285 ca286 : Value}
    (hpl3 : p.length ≤ 140737488350100) (HPL : Hid (p.length % 64 = 0)) (HP : Hid (∀ x ∈ p, x < 256)) (HST : Hid (OfSt w (.slice (some ⟨g3, 0, none⟩) p.length cap3) p (blocks p 0) wz))
    (R : Act → World → Prop)
    (hexit : Hid (∀  (w1 : World), OfSt w (.slice (some ⟨g3, 0, none⟩) p.length cap3) p (blocks p (p.length / 64)) w1 → ∀ {vb8 vb9 vb10 vb11 vb12 vb13 vb14 vb15 vb16 vb17 vb18 vb19 vb53 vb54 vb55 vb56 vb57 vb58 vb59 vb60 vb61 vb62 vb63 vb64 vb65 vb66 vb67 vb68 vb69 vb70
    vb71 vb72 vb73 vb74 vb75 vb76 vb77 vb78 vb79 vb80 vb81 vb82 vb83 vb84 vb85 vb86 vb87 vb88 vb89 vb90 vb91 vb92 vb93 vb94 vb95 vb96 vb97 vb98 vb99 vb100
    vb101 vb102 vb103 vb104 vb105 vb106 vb107 vb108 vb109 vb110 vb111 vb112 vb113 vb114 vb115 vb116 vb117 vb118 vb119 vb120 vb121 vb122 vb123 vb124 vb125 vb126 vb127 vb128 vb129 vb130
    vb131 vb132 vb133 vb134 vb135 vb136 vb137 vb138 vb139 vb140 vb141 vb142 vb143 vb144 vb145 vb146 vb147 vb148 vb149 vb150 vb151 vb152 vb153 vb154 vb155 vb156 vb157 vb158 vb159 vb160
    vb161 vb162 vb163 vb164 vb165 vb166 vb167 vb168 vb169 vb170 vb171 vb172 vb173 vb174 vb175 vb176 vb177 vb178 vb179 vb180 vb181 vb182 vb183 vb184 vb185 vb186 vb187 vb188 vb189 vb190
    vb191 vb192 vb193 vb194 vb195 vb196 vb197 vb198 vb199 vb200 vb201 vb202 vb203 vb204 vb205 vb206 vb207 vb208 vb209 vb210 vb211 vb212 vb213 vb214 vb215 vb216 vb217 vb218 vb219 vb220
    vb221 vb222 vb223 vb224 vb225 vb226 vb227 vb228 vb229 vb230 vb231 vb232 vb233 vb234 vb235 vb236 vb237 vb238 vb239 vb240 vb241 vb242 vb243 vb244 vb245 vb246 vb247 vb248 vb249 vb250
    vb251 vb252 vb253 vb254 vb255 vb256 vb257 vb258 vb259 vb260 vb261 vb262 vb263 vb264 vb265 vb266 vb267 : Value},
      R ⟨List.toArray (ca0 :: ca1 :: ca2 :: .slice (some ⟨w.heap.size + 1, 0, none⟩) 8 8 :: .slice (some ⟨w.heap.size + 1 + 1, 0, none⟩) 64 64 :: .slice (some ⟨g3, 0, none⟩) p.length cap3 :: ca6 :: ca7 :: vb8 :: vb9 :: vb10 :: vb11 :: vb12 :: vb13 ::
      vb14 :: vb15 :: vb16 :: vb17 :: vb18 :: vb19 :: ca20 :: ca21 :: ca22 :: ca23 :: ca24 :: ca25 :: ca26 :: ca27 :: ca28 :: ca29 :: ca30 :: ca31 :: ca32 :: ca33 :: ca34 :: ca35 :: ca36 :: ca37 :: ca38 :: ca39 :: ca40 :: ca41 ::
      ca42 :: ca43 :: ca44 :: ca45 :: ca46 :: ca47 :: ca48 :: ca49 :: ca50 :: ca51 :: ca52 :: vb53 :: vb54 :: vb55 :: vb56 :: vb57 :: vb58 :: vb59 :: vb60 :: vb61 :: vb62 :: vb63 :: vb64 :: vb65 :: vb66 :: vb67 :: vb68 :: vb69 ::
      vb70 :: vb71 :: vb72 :: vb73 :: vb74 :: vb75 :: vb76 :: vb77 :: vb78 :: vb79 :: vb80 :: vb81 :: vb82 :: vb83 :: vb84 :: vb85 :: vb86 :: vb87 :: vb88 :: vb89 :: vb90 :: vb91 :: vb92 :: vb93 :: vb94 :: vb95 :: vb96 :: vb97 ::
      vb98 :: vb99 :: vb100 :: vb101 :: vb102 :: vb103 :: vb104 :: vb105 :: vb106 :: vb107 :: vb108 :: vb109 :: vb110 :: vb111 :: vb112 :: vb113 :: vb114 :: vb115 :: vb116 :: vb117 :: vb118 :: vb119 :: vb120 :: vb121 :: vb122 ::
      vb123 :: vb124 :: vb125 :: vb126 :: vb127 :: vb128 :: vb129 :: vb130 :: vb131 :: vb132 :: vb133 :: vb134 :: vb135 :: vb136 :: vb137 :: vb138 :: vb139 :: vb140 :: vb141 :: vb142 :: vb143 :: vb144 :: vb145 :: vb146 :: vb147 ::
      vb148 :: vb149 :: vb150 :: vb151 :: vb152 :: vb153 :: vb154 :: vb155 :: vb156 :: vb157 :: vb158 :: vb159 :: vb160 :: vb161 :: vb162 :: vb163 :: vb164 :: vb165 :: vb166 :: vb167 :: vb168 :: vb169 :: vb170 :: vb171 :: vb172 ::
      vb173 :: vb174 :: vb175 :: vb176 :: vb177 :: vb178 :: vb179 :: vb180 :: vb181 :: vb182 :: vb183 :: vb184 :: vb185 :: vb186 :: vb187 :: vb188 :: vb189 :: vb190 :: vb191 :: vb192 :: vb193 :: vb194 :: vb195 :: vb196 :: vb197 ::
      vb198 :: vb199 :: vb200 :: vb201 :: vb202 :: vb203 :: vb204 :: vb205 :: vb206 :: vb207 :: vb208 :: vb209 :: vb210 :: vb211 :: vb212 :: vb213 :: vb214 :: vb215 :: vb216 :: vb217 :: vb218 :: vb219 :: vb220 :: vb221 :: vb222 ::
      vb223 :: vb224 :: vb225 :: vb226 :: vb227 :: vb228 :: vb229 :: vb230 :: vb231 :: vb232 :: vb233 :: vb234 :: vb235 :: vb236 :: vb237 :: vb238 :: vb239 :: vb240 :: vb241 :: vb242 :: vb243 :: vb244 :: vb245 :: vb246 :: vb247 ::
      vb248 :: vb249 :: vb250 :: vb251 :: vb252 :: vb253 :: vb254 :: vb255 :: vb256 :: vb257 :: vb258 :: vb259 :: vb260 :: vb261 :: vb262 :: vb263 :: vb264 :: vb265 :: vb266 :: vb267 :: ca268 :: ca269 :: ca270 :: ca271 :: ca272 ::
      ca273 :: ca274 :: ca275 :: ca276 :: ca277 :: ca278 :: ca279 :: ca280 :: ca281 :: ca282 :: ca283 :: ca284 :: ca285 :: ca286 :: []), []⟩ w1)) :
    Code.wp Tryd.prog (Code.loop (loopAt Tryd.f33 2)) (Ends 4 R) ⟨List.toArray (ca0 :: ca1 :: ca2 :: .slice (some ⟨w.heap.size + 1, 0, none⟩) 8 8 :: .slice (some ⟨w.heap.size + 1 + 1, 0, none⟩) 64 64 :: .slice (some ⟨g3, 0, none⟩) p.length cap3 :: ca6 :: ca7 :: .int .i64 0 :: ub9 :: ub10 :: ub11 :: ub12 ::
      ub13 :: ub14 :: ub15 :: ub16 :: ub17 :: ub18 :: ub19 :: ca20 :: ca21 :: ca22 :: ca23 :: ca24 :: ca25 :: ca26 :: ca27 :: ca28 :: ca29 :: ca30 :: ca31 :: ca32 :: ca33 :: ca34 :: ca35 :: ca36 :: ca37 :: ca38 :: ca39 :: ca40 ::
      ca41 :: ca42 :: ca43 :: ca44 :: ca45 :: ca46 :: ca47 :: ca48 :: ca49 :: ca50 :: ca51 :: ca52 :: ub53 :: ub54 :: ub55 :: ub56 :: ub57 :: ub58 :: ub59 :: ub60 :: ub61 :: ub62 :: ub63 :: ub64 :: ub65 :: ub66 :: ub67 :: ub68 ::
      ub69 :: ub70 :: ub71 :: ub72 :: ub73 :: ub74 :: ub75 :: ub76 :: ub77 :: ub78 :: ub79 :: ub80 :: ub81 :: ub82 :: ub83 :: ub84 :: ub85 :: ub86 :: ub87 :: ub88 :: ub89 :: ub90 :: ub91 :: ub92 :: ub93 :: ub94 :: ub95 :: ub96 ::
      ub97 :: ub98 :: ub99 :: ub100 :: ub101 :: ub102 :: ub103 :: ub104 :: ub105 :: ub106 :: ub107 :: ub108 :: ub109 :: ub110 :: ub111 :: ub112 :: ub113 :: ub114 :: ub115 :: ub116 :: ub117 :: ub118 :: ub119 :: ub120 :: ub121 ::
      ub122 :: ub123 :: ub124 :: ub125 :: ub126 :: ub127 :: ub128 :: ub129 :: ub130 :: ub131 :: ub132 :: ub133 :: ub134 :: ub135 :: ub136 :: ub137 :: ub138 :: ub139 :: ub140 :: ub141 :: ub142 :: ub143 :: ub144 :: ub145 :: ub146 ::
      ub147 :: ub148 :: ub149 :: ub150 :: ub151 :: ub152 :: ub153 :: ub154 :: ub155 :: ub156 :: ub157 :: ub158 :: ub159 :: ub160 :: ub161 :: ub162 :: ub163 :: ub164 :: ub165 :: ub166 :: ub167 :: ub168 :: ub169 :: ub170 :: ub171 ::
      ub172 :: ub173 :: ub174 :: ub175 :: ub176 :: ub177 :: ub178 :: ub179 :: ub180 :: ub181 :: ub182 :: ub183 :: ub184 :: ub185 :: ub186 :: ub187 :: ub188 :: ub189 :: ub190 :: ub191 :: ub192 :: ub193 :: ub194 :: ub195 :: ub196 ::
      ub197 :: ub198 :: ub199 :: ub200 :: ub201 :: ub202 :: ub203 :: ub204 :: ub205 :: ub206 :: ub207 :: ub208 :: ub209 :: ub210 :: ub211 :: ub212 :: ub213 :: ub214 :: ub215 :: ub216 :: ub217 :: ub218 :: ub219 :: ub220 :: ub221 ::
      ub222 :: ub223 :: ub224 :: ub225 :: ub226 :: ub227 :: ub228 :: ub229 :: ub230 :: ub231 :: ub232 :: ub233 :: ub234 :: ub235 :: ub236 :: ub237 :: ub238 :: ub239 :: ub240 :: ub241 :: ub242 :: ub243 :: ub244 :: ub245 :: ub246 ::
      ub247 :: ub248 :: ub249 :: ub250 :: ub251 :: ub252 :: ub253 :: ub254 :: ub255 :: ub256 :: ub257 :: ub258 :: ub259 :: ub260 :: ub261 :: ub262 :: ub263 :: ub264 :: ub265 :: ub266 :: ub267 :: ca268 :: ca269 :: ca270 :: ca271 ::
      ca272 :: ca273 :: ca274 :: ca275 :: ca276 :: ca277 :: ca278 :: ca279 :: ca280 :: ca281 :: ca282 :: ca283 :: ca284 :: ca285 :: ca286 :: []), []⟩ wz := by
  conv => arg 2; arg 1; whnf

  obtain ⟨i1, hj, hy0, hy1, hy2⟩ := info_parts Tryd.infoU32
  go_loopw [8] (fun a wq => ∃ m : Nat, m ≤ p.length / 64 ∧ a = .int .i64 ((64 * m : Nat) : Int) ∧ OfSt w (.slice (some ⟨g3, 0, none⟩) p.length cap3) p (blocks p m) wq) (fun a _ => p.length - (intOf a).toNat)
  case atStart => exact ⟨0, by omega, rfl, HST.out⟩
  case round =>
    clear HST
    obtain ⟨m, hm2, rfl, hst⟩ := hrel
    obtain ⟨w4, hw4⟩ : ∃ x, x = wr := ⟨_, rfl⟩
    subst hw4
    have HST := Lib.hid hst
    clear hst
    by_cases hlt : m < p.length / 64
    · have hlt2 : 64 * m < p.length := by omega
      have hm64 : 64 * m + 64 ≤ p.length := by omega
      have HBY := Lib.hid (show ∀ j, wAt p m j < 256 from fun j => getD_lt HP.out (by decide) _)
      go_wp2_with (at_make; refine wpList_make_full _ rfl _ _ 75 rfl w4.heap.size 64 i1 (.int .u32 0) 1 Tryd.underlying75 hj hy0 hy1 .i64 .i64 64 64 64 rfl rfl rfl rfl (by rw [hy2]; omega) (by unfold maxLen; omega) (Nat.le_refl _) ?_)
      intro w5 ho hgrow
      rw [toList_madeCells_one] at ho
      have HW := Lib.hid (show OwnN w4.heap.size 64 .u32 (.slice (some ⟨w4.heap.size, 0, none⟩) 64 64) (arrW (wAt p m) 0) w5 from ho)
      have HB5 := Lib.hid ((Below.refl w4.heap.size w4).grown hgrow (Nat.le_refl _) (by intro g hg; cases hg))
      clear ho hgrow
      go_wp2_with fail
      refine wp_ends (of_loop4 hpl3 hm64 (Lib.hid HST.out.b) HBY HW HB5 _ (Lib.hid ?_))
      rintro w6 ⟨ho, hb⟩
      intros
      clear HW HB5
      have HW := Lib.hid ho
      have HB5 := Lib.hid hb
      clear ho hb
      go_wp2_with fail
      refine wp_ends (of_loop6 HBY HW HB5 _ (Lib.hid ?_))
      rintro w6 ⟨ho, hb⟩
      intros
      clear HW HB5
      have HW := Lib.hid ho
      have HB5 := Lib.hid hb
      clear ho hb
      have hsz := HB5.out.size
      have HST6 := Lib.hid (HST.out.below HB5.out)
      have hcs := HST6.out.h.at
      have hr1 := (HST6.out.h.lt _ rfl).2
      go_wp2_with (at_builtin; refine wpList_append_own_at _ rfl _ _ 75 rfl w6.heap.size 64 i1 (.int .u32 0) 1 4 Tryd.underlying75 hj hy0 hy1 hy2 rfl (by decide) _ _ _ rfl (World.ownsRow_lit w6 #[] 0 (Nat.le_refl _) (by unfold maxLen; omega) rfl) ⟨w.heap.size + 1, 0, none⟩ 8 8 (nums .u32 (blocks p m).list) rfl rfl ?c1 ?c2 ?c3 ?c4 ?c5 ?_)
      case c1 =>
        intro j u h
        have := World.ownsRow.cells HST6.out.h rfl j u h
        rw [Addr.add_lit, Nat.zero_add] at this
        exact this
      case c2 => exact nums_one _ _
      case c3 => unfold maxLen; omega
      try case c4 => omega
      try case c5 => simp
      intro v7 w7 ho hgrow _ _
      have HV := Lib.hid (show OwnN w6.heap.size 64 .u32 v7 (blocks p m).list w7 from ho)
      have HB7 := Lib.hid (((Below.refl w6.heap.size w6).alloc (Nat.le_refl _) _).grown hgrow (by simp) (by intro g hg; simp [Value.ownBlock] at hg; omega))
      clear ho hgrow hcs
      go_wp2_with fail
      refine wp_ends (of_loop7 HBY (Lib.hid (blocks_ok p m)) (Lib.hid HST6.out.k) HW HV HB7 _ (Lib.hid ?_))
      rintro v8 w8 ⟨ho, hb⟩
      intros
      clear HV HB7 HW HB5 HBY
      have HST8 := Lib.hid (HST6.out.below hb)
      obtain ⟨gv, cv, rfl, hgv, hgv2⟩ := ho.formB (Nat.zero_lt_succ 7)
      rw [S8.list_len]
      have HV := Lib.hid ho
      clear ho hb HST6
      have hne : w.heap.size + 1 ≠ gv := by omega
      go_wp2_with fail
      refine wp_ends (of_loop8 hne (Lib.hid (blocks_ok p m)) (Lib.hid (rl_ok (blocks_ok p m) _ _)) (Lib.hid HST8.out.h) HV _ (Lib.hid ?_))
      rintro w9 ⟨ho, hb⟩
      intros
      have HST9 := Lib.hid (show OfSt w (.slice (some ⟨g3, 0, none⟩) p.length cap3) p (blocks p (m + 1)) w9 from HST8.out.next hb ho)
      clear ho hb HST8 HV
      go_wp2_with fail
      exact ⟨⟨m + 1, by omega, by go_num, HST9.out⟩, by simp [intOf]; omega⟩
    · obtain rfl : m = p.length / 64 := by omega
      have hge : ¬ 64 * (p.length / 64) < p.length := by have := HPL.out; omega
      go_wp2_with fail
      exact ends_exit (hexit.out _ HST.out)
end Go.Proofs.YthgfpojfnhkckaaDoor
