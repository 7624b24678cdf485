/-
  The walk of LinkPlays: what anything that is done with a sender and a receiver comes to is the document's. Memory that was there is left as it was.
-/
import Derived.Test.YtnnoampmcghnaaaLkPy0
import Derived.Test.YtnnoampmcghnaaaLkPy1
import Derived.Test.YtnnoampmcghnaaaLkPy2
import Derived.Test.YtnnoampmcghnaaaLkPy3
import Derived.Test.YtnnoampmcghnaaaLkPy4
import Derived.Test.YtnnoampmcghnaaaLkPy5
import Derived.StillTailTactics
namespace Go.Proofs.Ytnnoampmcghnaaa.Lk
open Go.RowKit Go.Proofs.Ytnnoampmcghnaaa.Fl Go.Proofs.Ytnnoampmcghnaaa.Wi Go.Proofs.Ytnnoampmcghnaaa.Fr
set_option linter.unusedVariables false
set_option linter.unusedSimpArgs false
set_option maxHeartbeats 16000000
set_option maxRecDepth 100000
theorem plays_walk (wn : Int) (da : Option Addr) (dc : Nat) (ds : List Dd) (w : World) (hD : DsAt w (Old w.heap.size) da ds) :
    Calls Try.prog 3 #[.int .i64 wn, .slice da ds.length dc] w fun e w' => e = .returned (.bool true) ∧ Below w.heap.size w w' := by
  have q1 := eqe_11
  have q2 := eqe_n1
  have q3 := eqe_nn
  have q4 := nee_nil
  have q5 := nee_88
  obtain ⟨N, hN⟩ : ∃ N, N = ds.length := ⟨_, rfl⟩
  have HN := Lib.hid hN
  have HD := Lib.hid hD
  have hN63 : N ≤ 9223372036854775807 := by have := hD.1; unfold maxLen at this; omega
  rw [← hN]
  clear hN hD
  by_cases hbad : wn < 1 ∨ 64 < wn
  · have CB := Lib.hid (newS_bad wn hbad)
    rcases hbad with hbad | hbad
    · go_enter Try.func3, Try.ntmps3
      go_wp2_with fail
      refine Calls.mono (up_any w) ?_
      rintro e w1 ⟨rfl, hb1⟩
      have B1 := Lib.hid hb1
      clear hb1
      go_wp2_with fail
      refine Calls.mono (CB.out w1) ?_
      rintro e wq ⟨rfl, rfl⟩
      go_wp2_with fail
      refine Calls.mono (newR_any w1) ?_
      rintro e w2 ⟨rfl, hr2, hb2⟩
      have B2 := Lib.hid (B1.out.trans (hb2.mono B1.out.size))
      clear hb2 hr2
      go_wp2_with fail
      go_ret
      exact ⟨rfl, B2.out⟩
    · have hnl : ¬ wn < 1 := by omega
      go_enter Try.func3, Try.ntmps3
      go_wp2_with fail
      refine Calls.mono (up_any w) ?_
      rintro e w1 ⟨rfl, hb1⟩
      have B1 := Lib.hid hb1
      clear hb1
      go_wp2_with fail
      refine Calls.mono (CB.out w1) ?_
      rintro e wq ⟨rfl, rfl⟩
      go_wp2_with fail
      refine Calls.mono (newR_any w1) ?_
      rintro e w2 ⟨rfl, hr2, hb2⟩
      have B2 := Lib.hid (B1.out.trans (hb2.mono B1.out.size))
      clear hb2 hr2
      go_wp2_with fail
      go_ret
      exact ⟨rfl, B2.out⟩
  obtain ⟨win, rfl⟩ : ∃ k : Nat, wn = (k : Int) := ⟨wn.toNat, by omega⟩
  have hw1 : 1 ≤ win := by omega
  have hw2 : win ≤ 64 := by omega
  have hz1 : ¬ (win : Int) < 1 := by omega
  have hz2 : ¬ (64 : Int) < (win : Int) := by omega
  clear hbad
  by_cases h400 : (400 : Int) < (N : Int)
  · go_enter Try.func3, Try.ntmps3
    go_wp2_with fail
    refine Calls.mono (up_any w) ?_
    rintro e w1 ⟨rfl, hb1⟩
    have B1 := Lib.hid hb1
    clear hb1
    go_wp2_with fail
    refine Calls.mono (newS_any win hw1 hw2 w1) ?_
    rintro e w2 ⟨rfl, hs2, hb2⟩
    have B2 := Lib.hid (B1.out.trans (hb2.mono B1.out.size))
    clear hs2 hb2
    go_wp2_with fail
    refine Calls.mono (newR_any w2) ?_
    rintro e w3 ⟨rfl, hr3, hb3⟩
    have B3 := Lib.hid (B2.out.trans (hb3.mono B2.out.size))
    clear hr3 hb3
    go_wp2_with fail
    go_ret
    exact ⟨rfl, B3.out⟩
  have hN4 : N ≤ 400 := by omega
  go_enter Try.func3, Try.ntmps3
  go_wp2_with fail
  refine Calls.mono (up_any w) ?_
  rintro e w1 ⟨rfl, hb1⟩
  have B1 := Lib.hid hb1
  clear hb1
  go_wp2_with fail
  refine Calls.mono (newS_any win hw1 hw2 w1) ?_
  rintro e w2 ⟨rfl, hs2, hb2⟩
  obtain ⟨p, hp⟩ : ∃ p, p = w1.heap.size := ⟨_, rfl⟩
  rw [← hp] at hs2
  rw [← hp]
  have S2 := Lib.hid hs2
  have HP := Lib.hid (show w.heap.size ≤ p by rw [hp]; exact B1.out.size)
  have B2 := Lib.hid (B1.out.trans (hb2.mono B1.out.size))
  clear hs2 hb2 hp
  go_wp2_with fail
  refine Calls.mono (newR_any w2) ?_
  rintro e w3 ⟨rfl, hr3, hb3⟩
  obtain ⟨r, hr⟩ : ∃ r, r = w2.heap.size := ⟨_, rfl⟩
  rw [← hr] at hr3
  rw [← hr]
  have hpr : p < r := by rw [hr]; exact S2.out.lt
  have S3 := Lib.hid (S2.out.later hb3)
  have R3 := Lib.hid hr3
  have B3 := Lib.hid (B2.out.trans (hb3.mono B2.out.size))
  clear hr3 hb3 hr S2
  obtain ⟨w4, hw4⟩ : ∃ W0 : World, W0 = w3.alloc (.cells #[.int .i64 (win : Int), .slice none 0 0, .int .i64 0, .int .i64 0] 35) := ⟨_, rfl⟩
  obtain ⟨m, hm⟩ : ∃ m, m = w3.heap.size := ⟨_, rfl⟩
  have hrm : r < m := by rw [hm]; exact R3.out.lt
  have HC4 := Lib.hid (show Co w p r m win w4 (.slice none 0 0) [] (.slice none 0 0) [] [] 0 0 0 none 0 [] [] by
    rw [hw4]
    refine ⟨B3.out.alloc B3.out.size _, HP.out, hpr, by omega, by rw [hm]; simp, (S3.out.later (below_alloc _ _)).keep rfl (fun _ _ => rfl) (fun g hg => hg.elim) (fun g hg => ⟨hg.1, hg.2.1, hg.2.2.2.2.1⟩), R3.out.alloc _, OS.nil _ _, (fun k hk => by cases hk), (fun k hk => by cases hk), CeAt.nil _ _ _, PkV.nil _ _, Nat.le_refl _⟩)
  have HR4 := Lib.hid (show Rf w4 m win (.slice none 0 0) 0 0 by rw [hw4, hm]; exact Bq.new _ _ _)
  have HW4 := Lib.hid hw4
  have HF4 := Lib.hid (FsV.nil w4 (Old w.heap.size))
  clear hw4 S3 R3 B1 B2 B3
  go_wp2_with fail
  rw [← HW4.out, ← hm]
  clear hm HW4
  go_loopw [12, 10, 11] (fun v12 v10 v11 wr => PyR w p r m win N v12 v10 v11 wr) (fun v12 _ _ _ => N - (intOf v12).toNat)
  case atStart => exact ⟨0, 0, 0, 0, _, _, _, _, _, _, _, _, _, rfl, rfl, rfl, HC4, HR4, HF4, Lib.hid ⟨Nat.zero_le _, Nat.le_refl _, fun x hx => by simp at hx, Nat.le_refl _, Nat.le_refl _, fun x hx => by simp at hx⟩⟩
  case round =>
    obtain ⟨i, want, ack, told, v, va, cs, lcs, all, fa, fc, fcs, fl, rfl, rfl, rfl, HC, HR, HF, HB⟩ := hrel
    obtain ⟨nf, hnf⟩ : ∃ nf, nf = fl.length := ⟨_, rfl⟩
    rw [← hnf]
    have HNF := Lib.hid hnf
    clear hnf
    by_cases hlt : i < N
    · skip
      have hlz : (i : Int) < (N : Int) := by omega
      obtain ⟨d, hd⟩ : ∃ d, d = ds[i]'(by rw [← HN.out]; exact hlt) := ⟨_, rfl⟩
      obtain ⟨gd, od, eda, hgd, hcd⟩ := HD.out.2.2 (by rw [← HN.out]; omega)
      obtain ⟨xa, xc, hxc, hxb, x0, x1, x2, x3⟩ := hcd i (by rw [← HN.out]; exact hlt)
      have hok : ddOk d := by rw [hd]; exact HD.out.2.1 _ (List.getElem_mem _)
      rw [← hd] at hxc hxb x0 x1 x2 x3
      have hgd2 : gd < w.heap.size := hgd
      have e0 := (HC.out.bel.cell (p := ⟨gd, od + i * 4, none⟩) hgd2).trans x0
      have e1 := (HC.out.bel.cell (p := ⟨gd, od + i * 4 + 1, none⟩) hgd2).trans x1
      have e2 := (HC.out.bel.cell (p := ⟨gd, od + i * 4 + 2, none⟩) hgd2).trans x2
      have e3 := (HC.out.bel.cell (p := ⟨gd, od + i * 4 + 3, none⟩) hgd2).trans x3
      obtain ⟨dw, dn, dO, db⟩ := d
      obtain ⟨k1, k2, k3, k4⟩ := hok
      dsimp only at hxc hxb x0 x1 x2 x3 e0 e1 e2 e3 k1 k2 k3 k4
      obtain ⟨xl, hxl⟩ : ∃ xl, xl = db.length := ⟨_, rfl⟩
      rw [← hxl] at e3 hxc
      have HXL := Lib.hid hxl
      have HXB := Lib.hid hxb
      subst eda
      clear x0 x1 x2 x3 hcd hd hxl hxb hgd
      by_cases h200 : (200 : Int) < (xl : Int)
      · go_wp2_with fail
        go_ret
        exact ⟨rfl, HC.out.bel.alloc HC.out.bel.size _⟩
      · have hx200 : xl ≤ 200 := by omega
        obtain ⟨kk, hkk⟩ : ∃ kk, kk = pickN dw 6 := ⟨_, rfl⟩
        have hk6 : kk < 6 := by rw [hkk]; exact pickN_lt _ (by omega)
        have hcase : kk = 0 ∨ kk = 1 ∨ kk = 2 ∨ kk = 3 ∨ kk = 4 ∨ kk = 5 := by omega
        rcases hcase with rfl | rfl | rfl | rfl | rfl | rfl
        · refine py_arm0 w p r m win N dc gd od wr i want ack told nf v va cs lcs all fa fc fcs fl dw dn dO db xa xl xc hN4 hw1 hw2 hpr hrm HC HR HF HB HNF hlt k1 k2 k3 k4 hxc HXL HXB hgd2 e0 e1 e2 e3 hx200 hkk.symm _ _ _ _ _ _ _ _ _ _ _ _ _ _ _ _ _ _ _ _ _ _ _ _ _ _ _ _ _ _ _ _ _ _ _ _ _ _ _ _ _ _ _ _ _ _ _ _ _ _ _ _ _ _ _ _ _ _ _ _ _ _ _ _ _ _ _ _ _ _ _ _ _ _ _ _ _ _ _ _ _ _ _ _ _ _ _ _ _ _ _ _ _ _ _ _ _ _ _ _ _ _ _ _ _ _ _ _ _ _ _ _ _ _ _ _ _ _ _ _ _ _ _ _ _ _ _ _ _ _ _ _ _ _ _ _ _ _ _ _ _ _ _ _ _ _ _ _ _ _ _ _ _ _ _ _ _ _ _ _ _ _ _ _ _ _ _ _ _ _ _ _ _ _ _ _ _ _ _ _ _ _ _ _ _ _ _ _ _ _ _ _ _ _ _ _ _ _ _ _ _ _ _ _ _ _ _ _ _ _ _ _ _ _ _ _ _ _ _ _ _ _ _ _ _ _ _ _ _ _ _ _ _ _ _ _ _ _ _ _ _ _ ?_
          intro t4 t10 t11 t12 t13 t14 t15 t16 t17 t18 t19 t20 t21 t22 t23 t78 t79 t80 t81 t82 t83 t84 t85 t86 t87 t88 t89 t90 t91 t92 t93 t94 t95 t96 t97 t98 t99 t100 t101 t102 t103 t104 t105 t106 t107 t108 t109 t110 t111 t112 t113 t114 t115 t116 t117 t118 t119 t120 t121 t122 t123 t124 t125 t126 t127 t128 t129 t130 t131 t132 t133 t134 t135 t136 t137 t138 t139 t140 t141 t142 t143 t144 t145 t146 t147 t148 t149 t150 t151 t152 t153 t154 t155 t156 t157 t158 t159 t160 t161 t162 t163 t164 t165 t166 t167 t168 t169 t170 t171 t172 t173 t174 t175 t176 t177 t178 t179 t180 t181 t182 t183 t184 t185 t186 t187 t188 t189 t190 t191 t192 t193 t194 t195 t196 t197 t198 t199 t200 t201 t202 t203 t204 t205 t206 t207 t208 t209 t210 t211 t212 t213 t214 t215 t216 t217 t218 t219 t220 t221 t222 t223 t224 t225 t226 t227 t228 t229 t230 t231 t232 t233 t234 t235 t236 t237 t238 t239 t240 t241 t242 t243 t244 t245 t246 t247 w' hR hM
          refine ⟨⟨t4, t10, t11, t12, t13, t14, t15, t16, t17, t18, t19, t20, t21, t22, t23, t78, t79, t80, t81, t82, t83, t84, t85, t86, t87, t88, t89, t90, t91, t92, t93, t94, t95, t96, t97, t98, t99, t100, t101, t102, t103, t104, t105, t106, t107, t108, t109, t110, t111, t112, t113, t114, t115, t116, t117, t118, t119, t120, t121, t122, t123, t124, t125, t126, t127, t128, t129, t130, t131, t132, t133, t134, t135, t136, t137, t138, t139, t140, t141, t142, t143, t144, t145, t146, t147, t148, t149, t150, t151, t152, t153, t154, t155, t156, t157, t158, t159, t160, t161, t162, t163, t164, t165, t166, t167, t168, t169, t170, t171, t172, t173, t174, t175, t176, t177, t178, t179, t180, t181, t182, t183, t184, t185, t186, t187, t188, t189, t190, t191, t192, t193, t194, t195, t196, t197, t198, t199, t200, t201, t202, t203, t204, t205, t206, t207, t208, t209, t210, t211, t212, t213, t214, t215, t216, t217, t218, t219, t220, t221, t222, t223, t224, t225, t226, t227, t228, t229, t230, t231, t232, t233, t234, t235, t236, t237, t238, t239, t240, t241, t242, t243, t244, t245, t246, t247, hR, rfl⟩, ?_⟩
          simpa [intOf] using hM
        · refine py_arm1 w p r m win N dc gd od wr i want ack told nf v va cs lcs all fa fc fcs fl dw dn dO db xa xl xc hN4 hw1 hw2 hpr hrm HC HR HF HB HNF hlt k1 k2 k3 k4 hxc HXL HXB hgd2 e0 e1 e2 e3 hx200 hkk.symm _ _ _ _ _ _ _ _ _ _ _ _ _ _ _ _ _ _ _ _ _ _ _ _ _ _ _ _ _ _ _ _ _ _ _ _ _ _ _ _ _ _ _ _ _ _ _ _ _ _ _ _ _ _ _ _ _ _ _ _ _ _ _ _ _ _ _ _ _ _ _ _ _ _ _ _ _ _ _ _ _ _ _ _ _ _ _ _ _ _ _ _ _ _ _ _ _ _ _ _ _ _ _ _ _ _ _ _ _ _ _ _ _ _ _ _ _ _ _ _ _ _ _ _ _ _ _ _ _ _ _ _ _ _ _ _ _ _ _ _ _ _ _ _ _ _ _ _ _ _ _ _ _ _ _ _ _ _ _ _ _ _ _ _ _ _ _ _ _ _ _ _ _ _ _ _ _ _ _ _ _ _ _ _ _ _ _ _ _ _ _ _ _ _ _ _ _ _ _ _ _ _ _ _ _ _ _ _ _ _ _ _ _ _ _ _ _ _ _ _ _ _ _ _ _ _ _ _ _ _ _ _ _ _ _ _ _ _ _ _ _ _ ?_
          intro t4 t10 t11 t12 t13 t14 t15 t16 t17 t18 t19 t20 t21 t22 t23 t78 t79 t80 t81 t82 t83 t84 t85 t86 t87 t88 t89 t90 t91 t92 t93 t94 t95 t96 t97 t98 t99 t100 t101 t102 t103 t104 t105 t106 t107 t108 t109 t110 t111 t112 t113 t114 t115 t116 t117 t118 t119 t120 t121 t122 t123 t124 t125 t126 t127 t128 t129 t130 t131 t132 t133 t134 t135 t136 t137 t138 t139 t140 t141 t142 t143 t144 t145 t146 t147 t148 t149 t150 t151 t152 t153 t154 t155 t156 t157 t158 t159 t160 t161 t162 t163 t164 t165 t166 t167 t168 t169 t170 t171 t172 t173 t174 t175 t176 t177 t178 t179 t180 t181 t182 t183 t184 t185 t186 t187 t188 t189 t190 t191 t192 t193 t194 t195 t196 t197 t198 t199 t200 t201 t202 t203 t204 t205 t206 t207 t208 t209 t210 t211 t212 t213 t214 t215 t216 t217 t218 t219 t220 t221 t222 t223 t224 t225 t226 t227 t228 t229 t230 t231 t232 t233 t234 t235 t236 t237 t238 t239 t240 t241 t242 t243 t244 t245 t246 t247 w' hR hM
          refine ⟨⟨t4, t10, t11, t12, t13, t14, t15, t16, t17, t18, t19, t20, t21, t22, t23, t78, t79, t80, t81, t82, t83, t84, t85, t86, t87, t88, t89, t90, t91, t92, t93, t94, t95, t96, t97, t98, t99, t100, t101, t102, t103, t104, t105, t106, t107, t108, t109, t110, t111, t112, t113, t114, t115, t116, t117, t118, t119, t120, t121, t122, t123, t124, t125, t126, t127, t128, t129, t130, t131, t132, t133, t134, t135, t136, t137, t138, t139, t140, t141, t142, t143, t144, t145, t146, t147, t148, t149, t150, t151, t152, t153, t154, t155, t156, t157, t158, t159, t160, t161, t162, t163, t164, t165, t166, t167, t168, t169, t170, t171, t172, t173, t174, t175, t176, t177, t178, t179, t180, t181, t182, t183, t184, t185, t186, t187, t188, t189, t190, t191, t192, t193, t194, t195, t196, t197, t198, t199, t200, t201, t202, t203, t204, t205, t206, t207, t208, t209, t210, t211, t212, t213, t214, t215, t216, t217, t218, t219, t220, t221, t222, t223, t224, t225, t226, t227, t228, t229, t230, t231, t232, t233, t234, t235, t236, t237, t238, t239, t240, t241, t242, t243, t244, t245, t246, t247, hR, rfl⟩, ?_⟩
          simpa [intOf] using hM
        · refine py_arm2 w p r m win N dc gd od wr i want ack told nf v va cs lcs all fa fc fcs fl dw dn dO db xa xl xc hN4 hw1 hw2 hpr hrm HC HR HF HB HNF hlt k1 k2 k3 k4 hxc HXL HXB hgd2 e0 e1 e2 e3 hx200 hkk.symm _ _ _ _ _ _ _ _ _ _ _ _ _ _ _ _ _ _ _ _ _ _ _ _ _ _ _ _ _ _ _ _ _ _ _ _ _ _ _ _ _ _ _ _ _ _ _ _ _ _ _ _ _ _ _ _ _ _ _ _ _ _ _ _ _ _ _ _ _ _ _ _ _ _ _ _ _ _ _ _ _ _ _ _ _ _ _ _ _ _ _ _ _ _ _ _ _ _ _ _ _ _ _ _ _ _ _ _ _ _ _ _ _ _ _ _ _ _ _ _ _ _ _ _ _ _ _ _ _ _ _ _ _ _ _ _ _ _ _ _ _ _ _ _ _ _ _ _ _ _ _ _ _ _ _ _ _ _ _ _ _ _ _ _ _ _ _ _ _ _ _ _ _ _ _ _ _ _ _ _ _ _ _ _ _ _ _ _ _ _ _ _ _ _ _ _ _ _ _ _ _ _ _ _ _ _ _ _ _ _ _ _ _ _ _ _ _ _ _ _ _ _ _ _ _ _ _ _ _ _ _ _ _ _ _ _ _ _ _ _ _ _ ?_
          intro t4 t10 t11 t12 t13 t14 t15 t16 t17 t18 t19 t20 t21 t22 t23 t78 t79 t80 t81 t82 t83 t84 t85 t86 t87 t88 t89 t90 t91 t92 t93 t94 t95 t96 t97 t98 t99 t100 t101 t102 t103 t104 t105 t106 t107 t108 t109 t110 t111 t112 t113 t114 t115 t116 t117 t118 t119 t120 t121 t122 t123 t124 t125 t126 t127 t128 t129 t130 t131 t132 t133 t134 t135 t136 t137 t138 t139 t140 t141 t142 t143 t144 t145 t146 t147 t148 t149 t150 t151 t152 t153 t154 t155 t156 t157 t158 t159 t160 t161 t162 t163 t164 t165 t166 t167 t168 t169 t170 t171 t172 t173 t174 t175 t176 t177 t178 t179 t180 t181 t182 t183 t184 t185 t186 t187 t188 t189 t190 t191 t192 t193 t194 t195 t196 t197 t198 t199 t200 t201 t202 t203 t204 t205 t206 t207 t208 t209 t210 t211 t212 t213 t214 t215 t216 t217 t218 t219 t220 t221 t222 t223 t224 t225 t226 t227 t228 t229 t230 t231 t232 t233 t234 t235 t236 t237 t238 t239 t240 t241 t242 t243 t244 t245 t246 t247 w' hR hM
          refine ⟨⟨t4, t10, t11, t12, t13, t14, t15, t16, t17, t18, t19, t20, t21, t22, t23, t78, t79, t80, t81, t82, t83, t84, t85, t86, t87, t88, t89, t90, t91, t92, t93, t94, t95, t96, t97, t98, t99, t100, t101, t102, t103, t104, t105, t106, t107, t108, t109, t110, t111, t112, t113, t114, t115, t116, t117, t118, t119, t120, t121, t122, t123, t124, t125, t126, t127, t128, t129, t130, t131, t132, t133, t134, t135, t136, t137, t138, t139, t140, t141, t142, t143, t144, t145, t146, t147, t148, t149, t150, t151, t152, t153, t154, t155, t156, t157, t158, t159, t160, t161, t162, t163, t164, t165, t166, t167, t168, t169, t170, t171, t172, t173, t174, t175, t176, t177, t178, t179, t180, t181, t182, t183, t184, t185, t186, t187, t188, t189, t190, t191, t192, t193, t194, t195, t196, t197, t198, t199, t200, t201, t202, t203, t204, t205, t206, t207, t208, t209, t210, t211, t212, t213, t214, t215, t216, t217, t218, t219, t220, t221, t222, t223, t224, t225, t226, t227, t228, t229, t230, t231, t232, t233, t234, t235, t236, t237, t238, t239, t240, t241, t242, t243, t244, t245, t246, t247, hR, rfl⟩, ?_⟩
          simpa [intOf] using hM
        · refine py_arm3 w p r m win N dc gd od wr i want ack told nf v va cs lcs all fa fc fcs fl dw dn dO db xa xl xc hN4 hw1 hw2 hpr hrm HC HR HF HB HNF hlt k1 k2 k3 k4 hxc HXL HXB hgd2 e0 e1 e2 e3 hx200 hkk.symm _ _ _ _ _ _ _ _ _ _ _ _ _ _ _ _ _ _ _ _ _ _ _ _ _ _ _ _ _ _ _ _ _ _ _ _ _ _ _ _ _ _ _ _ _ _ _ _ _ _ _ _ _ _ _ _ _ _ _ _ _ _ _ _ _ _ _ _ _ _ _ _ _ _ _ _ _ _ _ _ _ _ _ _ _ _ _ _ _ _ _ _ _ _ _ _ _ _ _ _ _ _ _ _ _ _ _ _ _ _ _ _ _ _ _ _ _ _ _ _ _ _ _ _ _ _ _ _ _ _ _ _ _ _ _ _ _ _ _ _ _ _ _ _ _ _ _ _ _ _ _ _ _ _ _ _ _ _ _ _ _ _ _ _ _ _ _ _ _ _ _ _ _ _ _ _ _ _ _ _ _ _ _ _ _ _ _ _ _ _ _ _ _ _ _ _ _ _ _ _ _ _ _ _ _ _ _ _ _ _ _ _ _ _ _ _ _ _ _ _ _ _ _ _ _ _ _ _ _ _ _ _ _ _ _ _ _ _ _ _ _ _ ?_
          intro t4 t10 t11 t12 t13 t14 t15 t16 t17 t18 t19 t20 t21 t22 t23 t78 t79 t80 t81 t82 t83 t84 t85 t86 t87 t88 t89 t90 t91 t92 t93 t94 t95 t96 t97 t98 t99 t100 t101 t102 t103 t104 t105 t106 t107 t108 t109 t110 t111 t112 t113 t114 t115 t116 t117 t118 t119 t120 t121 t122 t123 t124 t125 t126 t127 t128 t129 t130 t131 t132 t133 t134 t135 t136 t137 t138 t139 t140 t141 t142 t143 t144 t145 t146 t147 t148 t149 t150 t151 t152 t153 t154 t155 t156 t157 t158 t159 t160 t161 t162 t163 t164 t165 t166 t167 t168 t169 t170 t171 t172 t173 t174 t175 t176 t177 t178 t179 t180 t181 t182 t183 t184 t185 t186 t187 t188 t189 t190 t191 t192 t193 t194 t195 t196 t197 t198 t199 t200 t201 t202 t203 t204 t205 t206 t207 t208 t209 t210 t211 t212 t213 t214 t215 t216 t217 t218 t219 t220 t221 t222 t223 t224 t225 t226 t227 t228 t229 t230 t231 t232 t233 t234 t235 t236 t237 t238 t239 t240 t241 t242 t243 t244 t245 t246 t247 w' hR hM
          refine ⟨⟨t4, t10, t11, t12, t13, t14, t15, t16, t17, t18, t19, t20, t21, t22, t23, t78, t79, t80, t81, t82, t83, t84, t85, t86, t87, t88, t89, t90, t91, t92, t93, t94, t95, t96, t97, t98, t99, t100, t101, t102, t103, t104, t105, t106, t107, t108, t109, t110, t111, t112, t113, t114, t115, t116, t117, t118, t119, t120, t121, t122, t123, t124, t125, t126, t127, t128, t129, t130, t131, t132, t133, t134, t135, t136, t137, t138, t139, t140, t141, t142, t143, t144, t145, t146, t147, t148, t149, t150, t151, t152, t153, t154, t155, t156, t157, t158, t159, t160, t161, t162, t163, t164, t165, t166, t167, t168, t169, t170, t171, t172, t173, t174, t175, t176, t177, t178, t179, t180, t181, t182, t183, t184, t185, t186, t187, t188, t189, t190, t191, t192, t193, t194, t195, t196, t197, t198, t199, t200, t201, t202, t203, t204, t205, t206, t207, t208, t209, t210, t211, t212, t213, t214, t215, t216, t217, t218, t219, t220, t221, t222, t223, t224, t225, t226, t227, t228, t229, t230, t231, t232, t233, t234, t235, t236, t237, t238, t239, t240, t241, t242, t243, t244, t245, t246, t247, hR, rfl⟩, ?_⟩
          simpa [intOf] using hM
        · refine py_arm4 w p r m win N dc gd od wr i want ack told nf v va cs lcs all fa fc fcs fl dw dn dO db xa xl xc hN4 hw1 hw2 hpr hrm HC HR HF HB HNF hlt k1 k2 k3 k4 hxc HXL HXB hgd2 e0 e1 e2 e3 hx200 hkk.symm _ _ _ _ _ _ _ _ _ _ _ _ _ _ _ _ _ _ _ _ _ _ _ _ _ _ _ _ _ _ _ _ _ _ _ _ _ _ _ _ _ _ _ _ _ _ _ _ _ _ _ _ _ _ _ _ _ _ _ _ _ _ _ _ _ _ _ _ _ _ _ _ _ _ _ _ _ _ _ _ _ _ _ _ _ _ _ _ _ _ _ _ _ _ _ _ _ _ _ _ _ _ _ _ _ _ _ _ _ _ _ _ _ _ _ _ _ _ _ _ _ _ _ _ _ _ _ _ _ _ _ _ _ _ _ _ _ _ _ _ _ _ _ _ _ _ _ _ _ _ _ _ _ _ _ _ _ _ _ _ _ _ _ _ _ _ _ _ _ _ _ _ _ _ _ _ _ _ _ _ _ _ _ _ _ _ _ _ _ _ _ _ _ _ _ _ _ _ _ _ _ _ _ _ _ _ _ _ _ _ _ _ _ _ _ _ _ _ _ _ _ _ _ _ _ _ _ _ _ _ _ _ _ _ _ _ _ _ _ _ _ _ ?_
          intro t4 t10 t11 t12 t13 t14 t15 t16 t17 t18 t19 t20 t21 t22 t23 t78 t79 t80 t81 t82 t83 t84 t85 t86 t87 t88 t89 t90 t91 t92 t93 t94 t95 t96 t97 t98 t99 t100 t101 t102 t103 t104 t105 t106 t107 t108 t109 t110 t111 t112 t113 t114 t115 t116 t117 t118 t119 t120 t121 t122 t123 t124 t125 t126 t127 t128 t129 t130 t131 t132 t133 t134 t135 t136 t137 t138 t139 t140 t141 t142 t143 t144 t145 t146 t147 t148 t149 t150 t151 t152 t153 t154 t155 t156 t157 t158 t159 t160 t161 t162 t163 t164 t165 t166 t167 t168 t169 t170 t171 t172 t173 t174 t175 t176 t177 t178 t179 t180 t181 t182 t183 t184 t185 t186 t187 t188 t189 t190 t191 t192 t193 t194 t195 t196 t197 t198 t199 t200 t201 t202 t203 t204 t205 t206 t207 t208 t209 t210 t211 t212 t213 t214 t215 t216 t217 t218 t219 t220 t221 t222 t223 t224 t225 t226 t227 t228 t229 t230 t231 t232 t233 t234 t235 t236 t237 t238 t239 t240 t241 t242 t243 t244 t245 t246 t247 w' hR hM
          refine ⟨⟨t4, t10, t11, t12, t13, t14, t15, t16, t17, t18, t19, t20, t21, t22, t23, t78, t79, t80, t81, t82, t83, t84, t85, t86, t87, t88, t89, t90, t91, t92, t93, t94, t95, t96, t97, t98, t99, t100, t101, t102, t103, t104, t105, t106, t107, t108, t109, t110, t111, t112, t113, t114, t115, t116, t117, t118, t119, t120, t121, t122, t123, t124, t125, t126, t127, t128, t129, t130, t131, t132, t133, t134, t135, t136, t137, t138, t139, t140, t141, t142, t143, t144, t145, t146, t147, t148, t149, t150, t151, t152, t153, t154, t155, t156, t157, t158, t159, t160, t161, t162, t163, t164, t165, t166, t167, t168, t169, t170, t171, t172, t173, t174, t175, t176, t177, t178, t179, t180, t181, t182, t183, t184, t185, t186, t187, t188, t189, t190, t191, t192, t193, t194, t195, t196, t197, t198, t199, t200, t201, t202, t203, t204, t205, t206, t207, t208, t209, t210, t211, t212, t213, t214, t215, t216, t217, t218, t219, t220, t221, t222, t223, t224, t225, t226, t227, t228, t229, t230, t231, t232, t233, t234, t235, t236, t237, t238, t239, t240, t241, t242, t243, t244, t245, t246, t247, hR, rfl⟩, ?_⟩
          simpa [intOf] using hM
        · refine py_arm5 w p r m win N dc gd od wr i want ack told nf v va cs lcs all fa fc fcs fl dw dn dO db xa xl xc hN4 hw1 hw2 hpr hrm HC HR HF HB HNF hlt k1 k2 k3 k4 hxc HXL HXB hgd2 e0 e1 e2 e3 hx200 hkk.symm _ _ _ _ _ _ _ _ _ _ _ _ _ _ _ _ _ _ _ _ _ _ _ _ _ _ _ _ _ _ _ _ _ _ _ _ _ _ _ _ _ _ _ _ _ _ _ _ _ _ _ _ _ _ _ _ _ _ _ _ _ _ _ _ _ _ _ _ _ _ _ _ _ _ _ _ _ _ _ _ _ _ _ _ _ _ _ _ _ _ _ _ _ _ _ _ _ _ _ _ _ _ _ _ _ _ _ _ _ _ _ _ _ _ _ _ _ _ _ _ _ _ _ _ _ _ _ _ _ _ _ _ _ _ _ _ _ _ _ _ _ _ _ _ _ _ _ _ _ _ _ _ _ _ _ _ _ _ _ _ _ _ _ _ _ _ _ _ _ _ _ _ _ _ _ _ _ _ _ _ _ _ _ _ _ _ _ _ _ _ _ _ _ _ _ _ _ _ _ _ _ _ _ _ _ _ _ _ _ _ _ _ _ _ _ _ _ _ _ _ _ _ _ _ _ _ _ _ _ _ _ _ _ _ _ _ _ _ _ _ _ _ ?_
          intro t4 t10 t11 t12 t13 t14 t15 t16 t17 t18 t19 t20 t21 t22 t23 t78 t79 t80 t81 t82 t83 t84 t85 t86 t87 t88 t89 t90 t91 t92 t93 t94 t95 t96 t97 t98 t99 t100 t101 t102 t103 t104 t105 t106 t107 t108 t109 t110 t111 t112 t113 t114 t115 t116 t117 t118 t119 t120 t121 t122 t123 t124 t125 t126 t127 t128 t129 t130 t131 t132 t133 t134 t135 t136 t137 t138 t139 t140 t141 t142 t143 t144 t145 t146 t147 t148 t149 t150 t151 t152 t153 t154 t155 t156 t157 t158 t159 t160 t161 t162 t163 t164 t165 t166 t167 t168 t169 t170 t171 t172 t173 t174 t175 t176 t177 t178 t179 t180 t181 t182 t183 t184 t185 t186 t187 t188 t189 t190 t191 t192 t193 t194 t195 t196 t197 t198 t199 t200 t201 t202 t203 t204 t205 t206 t207 t208 t209 t210 t211 t212 t213 t214 t215 t216 t217 t218 t219 t220 t221 t222 t223 t224 t225 t226 t227 t228 t229 t230 t231 t232 t233 t234 t235 t236 t237 t238 t239 t240 t241 t242 t243 t244 t245 t246 t247 w' hR hM
          refine ⟨⟨t4, t10, t11, t12, t13, t14, t15, t16, t17, t18, t19, t20, t21, t22, t23, t78, t79, t80, t81, t82, t83, t84, t85, t86, t87, t88, t89, t90, t91, t92, t93, t94, t95, t96, t97, t98, t99, t100, t101, t102, t103, t104, t105, t106, t107, t108, t109, t110, t111, t112, t113, t114, t115, t116, t117, t118, t119, t120, t121, t122, t123, t124, t125, t126, t127, t128, t129, t130, t131, t132, t133, t134, t135, t136, t137, t138, t139, t140, t141, t142, t143, t144, t145, t146, t147, t148, t149, t150, t151, t152, t153, t154, t155, t156, t157, t158, t159, t160, t161, t162, t163, t164, t165, t166, t167, t168, t169, t170, t171, t172, t173, t174, t175, t176, t177, t178, t179, t180, t181, t182, t183, t184, t185, t186, t187, t188, t189, t190, t191, t192, t193, t194, t195, t196, t197, t198, t199, t200, t201, t202, t203, t204, t205, t206, t207, t208, t209, t210, t211, t212, t213, t214, t215, t216, t217, t218, t219, t220, t221, t222, t223, t224, t225, t226, t227, t228, t229, t230, t231, t232, t233, t234, t235, t236, t237, t238, t239, t240, t241, t242, t243, t244, t245, t246, t247, hR, rfl⟩, ?_⟩
          simpa [intOf] using hM
    · have hlz : ¬ (i : Int) < (N : Int) := by omega
      go_wp2_with fail
      go_ret
      exact ⟨rfl, HC.out.bel⟩
end Go.Proofs.Ytnnoampmcghnaaa.Lk
