/-
  The walk of LinkOnce: whatever packets are lost, come twice, or in another order, what is taken is what was sent, in order, each once; and so many rounds empty the queue. Memory that was there is left as it was.
-/
import Derived.Test.YtnnoampmcghnaaaLkOnN
import Derived.Test.YtnnoampmcghnaaaLkOn0
import Derived.Test.YtnnoampmcghnaaaLkOn1
import Derived.Test.YtnnoampmcghnaaaLkOn2
import Derived.Test.YtnnoampmcghnaaaLkOn3
import Derived.Test.YtnnoampmcghnaaaLkOn4
namespace Go.Proofs.Ytnnoampmcghnaaa.Lk
open Go.RowKit Go.Proofs.Ytnnoampmcghnaaa.Fl Go.Proofs.Ytnnoampmcghnaaa.Wi Go.Proofs.Ytnnoampmcghnaaa.Fr
set_option linter.unusedVariables false
set_option linter.unusedSimpArgs false
set_option maxHeartbeats 16000000
set_option maxRecDepth 100000
theorem once_walk (wn : Int) (xa : Option Addr) (xc : Nat) (dcs : List Value) (D : List (List UInt8)) (da : Option Addr) (dc : Nat) (ds : List Dd) (w : World) (hX : CellsAt w (Old w.heap.size) xa dcs) (hXF : FsV w (Old w.heap.size) dcs D) (hl : ∀ x ∈ D, x.length ≤ 100000000) (hD : DsAt w (Old w.heap.size) da ds) :
    Calls Try.prog 4 #[.int .i64 wn, .slice xa dcs.length xc, .slice da ds.length dc] w fun e w' => e = .returned (.bool true) ∧ Below w.heap.size w w' := by
  have q1 := eqe_1n
  have q2 := nee_1n
  have q3 := eqe_nn
  have q4 := nee_nil
  obtain ⟨N, hN⟩ : ∃ N, N = ds.length := ⟨_, rfl⟩
  obtain ⟨K, hK⟩ : ∃ K, K = dcs.length := ⟨_, rfl⟩
  have HN := Lib.hid hN
  have HKD := Lib.hid (show K = D.length by rw [hK, hXF.1])
  have HKC := Lib.hid hK
  have HD := Lib.hid hD
  have HXA := Lib.hid hX
  have HXF := Lib.hid hXF
  have HL := Lib.hid hl
  have hN63 : N ≤ 9223372036854775807 := by have := hD.1; unfold maxLen at this; omega
  have hK63 : K ≤ 9223372036854775807 := by have := hX.1; unfold maxLen at this; omega
  rw [← hN, ← hK]
  clear hN hK hD hX hXF hl
  by_cases hbad : wn < 1 ∨ 64 < wn
  · skip
    have CB := Lib.hid (newS_bad wn hbad)
    clear hbad
    go_enter Try.func4, Try.ntmps4
    go_wp2_with fail
    refine Calls.mono (up_any w) ?_
    rintro e w1 ⟨rfl, hb1⟩
    have B1 := Lib.hid hb1
    clear hb1
    go_wp2_with fail
    refine Calls.mono (CB.out w1) ?_
    rintro e wq ⟨rfl, rfl⟩
    go_wp2_with fail
    refine Calls.mono (newR_any w1) ?_
    rintro e w2 ⟨rfl, hr2, hb2⟩
    have B2 := Lib.hid (B1.out.trans (hb2.mono B1.out.size))
    clear hb2 hr2
    go_wp2_with fail
    go_ret
    exact ⟨rfl, B2.out⟩
  obtain ⟨win, rfl⟩ : ∃ k : Nat, wn = (k : Int) := ⟨wn.toNat, by omega⟩
  have hw1 : 1 ≤ win := by omega
  have hw2 : win ≤ 64 := by omega
  clear hbad
  by_cases h150 : (150 : Int) < (K : Int)
  · skip
    go_enter Try.func4, Try.ntmps4
    go_wp2_with fail
    refine Calls.mono (up_any w) ?_
    rintro e w1 ⟨rfl, hb1⟩
    have B1 := Lib.hid hb1
    clear hb1
    go_wp2_with fail
    refine Calls.mono (newS_any win hw1 hw2 w1) ?_
    rintro e w2 ⟨rfl, hs2, hb2⟩
    have B2 := Lib.hid (B1.out.trans (hb2.mono B1.out.size))
    clear hs2 hb2
    go_wp2_with fail
    refine Calls.mono (newR_any w2) ?_
    rintro e w3 ⟨rfl, hr3, hb3⟩
    have B3 := Lib.hid (B2.out.trans (hb3.mono B2.out.size))
    clear hr3 hb3
    go_wp2_with fail
    go_ret
    exact ⟨rfl, B3.out⟩
  by_cases h300 : (300 : Int) < (N : Int)
  · skip
    go_enter Try.func4, Try.ntmps4
    go_wp2_with fail
    refine Calls.mono (up_any w) ?_
    rintro e w1 ⟨rfl, hb1⟩
    have B1 := Lib.hid hb1
    clear hb1
    go_wp2_with fail
    refine Calls.mono (newS_any win hw1 hw2 w1) ?_
    rintro e w2 ⟨rfl, hs2, hb2⟩
    have B2 := Lib.hid (B1.out.trans (hb2.mono B1.out.size))
    clear hs2 hb2
    go_wp2_with fail
    refine Calls.mono (newR_any w2) ?_
    rintro e w3 ⟨rfl, hr3, hb3⟩
    have B3 := Lib.hid (B2.out.trans (hb3.mono B2.out.size))
    clear hr3 hb3
    go_wp2_with fail
    go_ret
    exact ⟨rfl, B3.out⟩
  have hN3 : N ≤ 300 := by omega
  have hK15 : K ≤ 150 := by omega
  obtain ⟨M, hM⟩ : ∃ M, M = N + K := ⟨_, rfl⟩
  have HM := Lib.hid hM
  have uM : IntKind.i64.wrap ((N : Int) + (K : Int)) = (M : Int) := by rw [IntWalk.i64_in _ (by omega)]; omega
  have hM450 : M ≤ 450 := by omega
  clear hM
  go_enter Try.func4, Try.ntmps4
  go_wp2_with fail
  refine Calls.mono (up_any w) ?_
  rintro e w1 ⟨rfl, hb1⟩
  have B1 := Lib.hid hb1
  clear hb1
  go_wp2_with fail
  refine Calls.mono (newS_any win hw1 hw2 w1) ?_
  rintro e w2 ⟨rfl, hs2, hb2⟩
  obtain ⟨p, hp⟩ : ∃ p, p = w1.heap.size := ⟨_, rfl⟩
  rw [← hp] at hs2
  rw [← hp]
  have S2 := Lib.hid hs2
  have HP := Lib.hid (show w.heap.size ≤ p by rw [hp]; exact B1.out.size)
  have B2 := Lib.hid (B1.out.trans (hb2.mono B1.out.size))
  clear hs2 hb2 hp
  go_wp2_with fail
  refine Calls.mono (newR_any w2) ?_
  rintro e w3 ⟨rfl, hr3, hb3⟩
  obtain ⟨r, hr⟩ : ∃ r, r = w2.heap.size := ⟨_, rfl⟩
  rw [← hr] at hr3
  rw [← hr]
  have hpr : p < r := by rw [hr]; exact S2.out.lt
  have S3 := Lib.hid (S2.out.later hb3)
  have R3 := Lib.hid hr3
  have B3 := Lib.hid (B2.out.trans (hb3.mono B2.out.size))
  clear hr3 hb3 hr S2
  have HC3 := Lib.hid (show Co w p r r win w3 (.slice none 0 0) [] (.slice none 0 0) [] [] 0 0 0 none 0 [] [] from
    ⟨B3.out, HP.out, hpr, Nat.le_refl _, R3.out.lt, S3.out.keep rfl (fun _ _ => rfl) (fun g hg => hg.elim) (fun g hg => ⟨hg.1, hg.2.1, hg.2.2.2.2.1⟩), R3.out, OS.nil _ _, (fun k hk => by cases hk), (fun k hk => by cases hk), CeAt.nil _ _ _, PkV.nil _ _, Nat.le_refl _⟩)
  have HF3 := Lib.hid (show FsV w3 (Dt w3 p r r (.slice none 0 0) (.slice none 0 0)) [] (D.take 0) from FsV.nil _ _)
  clear S3 R3 B1 B2 B3
  go_wp2_with fail
  go_loopw [11, 12, 13, 14] (fun t11 t12 t13 t14 wr => OnR w p r win M D t11 t12 t13 t14 wr) (fun _ _ _ t14 _ => M - (intOf t14).toNat)
  case atStart => exact ⟨_, 0, 0, 0, 0, _, _, _, _, _, _, _, rfl, rfl, by rw [Nat.zero_min]; rfl, rfl, Nat.zero_le _, by rw [Nat.zero_min]; exact HC3, HF3, Lib.hid ⟨Nat.le_refl _, Nat.le_refl _, Nat.le_refl _, fun q hq => by simp at hq⟩⟩
  case round =>
    obtain ⟨va, i, ack, told, want, v, cs, gcs, fa, fc, fcs, fl, rfl, rfl, rfl, rfl, hiM, HC, HF, HB⟩ := hrel
    obtain ⟨nf, hnf⟩ : ∃ nf, nf = fl.length := ⟨_, rfl⟩
    rw [← hnf]
    have HNF := Lib.hid hnf
    obtain ⟨sN, hsN⟩ : ∃ sN, sN = min i D.length := ⟨_, rfl⟩
    rw [← hsN]
    have HSN := Lib.hid (show sN = min i K by rw [hsN, HKD.out])
    rw [← hsN] at HC
    have HLE := Lib.hid (show ack ≤ told ∧ told ≤ sN ∧ told ≤ ack + win ∧ nf ≤ 70 * i ∧ ack ≤ want ∧ want ≤ told by
      have h1 := HC.out.snd.hat
      have h2 := HC.out.snd.htl
      rw [List.length_take] at h2
      have h3 := HC.out.snd.htw
      have h4 := HB.out
      exact ⟨h1, by omega, h3, by rw [hnf]; exact h4.2.2.1, h4.1, h4.2.1⟩)
    clear hnf hsN
    by_cases hlt : i < M
    · rcases Classical.em (i < N ∧ nf + (toldF win (min (i + 1) K) ack - told) ≠ 0) with hcont | hcont
      · obtain ⟨hiN, hnz⟩ := hcont
        obtain ⟨gd, od, eda, hgd, hcd⟩ := HD.out.2.2 (by rw [← HN.out]; omega)
        obtain ⟨-, -, -, -, x0, x1, -, -⟩ := hcd i (by rw [← HN.out]; exact hiN)
        have hok : ddOk (ds[i]'(by rw [← HN.out]; exact hiN)) := HD.out.2.1 _ (List.getElem_mem _)
        obtain ⟨k1, k2, k3, k4⟩ := hok
        obtain ⟨dw, hdw⟩ : ∃ x, x = (ds[i]'(by rw [← HN.out]; exact hiN)).what := ⟨_, rfl⟩
        obtain ⟨dn, hdn⟩ : ∃ x, x = (ds[i]'(by rw [← HN.out]; exact hiN)).n := ⟨_, rfl⟩
        rw [← hdw] at x0 k1 k2
        rw [← hdn] at x1 k3 k4
        have hgd2 : gd < w.heap.size := hgd
        subst eda
        obtain ⟨kk, hkk⟩ : ∃ kk, kk = pickN dw 5 := ⟨_, rfl⟩
        have hk5 : kk < 5 := by rw [hkk]; exact pickN_lt _ (by omega)
        have hcase : kk = 0 ∨ kk = 1 ∨ kk = 2 ∨ kk = 3 ∨ kk = 4 := by omega
        rcases hcase with rfl | rfl | rfl | rfl | rfl
        · refine on_arm0 w p r win M N K dc xa xc dcs D wr i ack told want nf sN v va cs gcs fa fc fcs fl HKD HKC HXA HXF HL hN3 hK15 HM uM hM450 hw1 hw2 hpr HC HF HB HNF HSN HLE hlt gd od dw dn hiN hnz k1 k2 k3 k4 hgd2 x0 x1 hkk.symm _ _ _ _ _ _ _ _ _ _ _ _ _ _ _ _ _ _ _ _ _ _ _ _ _ _ _ _ _ _ _ _ _ _ _ _ _ _ _ _ _ _ _ _ _ _ _ _ _ _ _ _ _ _ _ _ _ _ _ _ _ _ _ _ _ _ _ _ _ _ _ _ _ _ _ _ _ _ _ _ _ _ _ _ _ _ _ _ _ _ _ _ _ _ _ _ _ _ _ _ _ _ _ _ _ _ _ _ _ _ _ _ _ _ _ _ _ _ _ _ _ _ _ _ _ _ _ _ _ _ _ _ _ _ _ _ _ _ _ _ _ _ _ _ _ _ _ _ _ _ _ _ _ _ _ _ _ _ _ _ _ _ _ _ _ _ _ _ _ _ _ _ _ _ _ _ _ _ _ _ _ _ _ _ _ _ _ _ _ _ _ _ _ _ _ _ _ _ _ _ _ _ _ _ _ _ _ _ _ _ _ _ _ _ _ _ _ _ _ _ _ _ _ ?_
          intro t6 t11 t12 t13 t14 t15 t16 t17 t18 t19 t65 t66 t67 t68 t69 t70 t71 t72 t73 t74 t75 t76 t77 t78 t79 t80 t81 t82 t83 t84 t85 t86 t87 t88 t89 t90 t91 t92 t93 t94 t95 t96 t97 t98 t99 t100 t101 t102 t103 t104 t105 t106 t107 t108 t109 t110 t111 t112 t113 t114 t115 t116 t117 t118 t119 t120 t121 t122 t123 t124 t125 t126 t127 t128 t129 t130 t131 t132 t133 t134 t135 t136 t137 t138 t139 t140 t141 t142 t143 t144 t145 t146 t147 t148 t149 t150 t151 t152 t153 t154 t155 t156 t157 t158 t159 t160 t161 t162 t163 t164 t165 t166 t167 t168 t169 t170 t171 w' hR hM
          refine ⟨⟨t6, t11, t12, t13, t14, t15, t16, t17, t18, t19, t65, t66, t67, t68, t69, t70, t71, t72, t73, t74, t75, t76, t77, t78, t79, t80, t81, t82, t83, t84, t85, t86, t87, t88, t89, t90, t91, t92, t93, t94, t95, t96, t97, t98, t99, t100, t101, t102, t103, t104, t105, t106, t107, t108, t109, t110, t111, t112, t113, t114, t115, t116, t117, t118, t119, t120, t121, t122, t123, t124, t125, t126, t127, t128, t129, t130, t131, t132, t133, t134, t135, t136, t137, t138, t139, t140, t141, t142, t143, t144, t145, t146, t147, t148, t149, t150, t151, t152, t153, t154, t155, t156, t157, t158, t159, t160, t161, t162, t163, t164, t165, t166, t167, t168, t169, t170, t171, hR, rfl⟩, ?_⟩
          simpa [intOf] using hM
        · refine on_arm1 w p r win M N K dc xa xc dcs D wr i ack told want nf sN v va cs gcs fa fc fcs fl HKD HKC HXA HXF HL hN3 hK15 HM uM hM450 hw1 hw2 hpr HC HF HB HNF HSN HLE hlt gd od dw dn hiN hnz k1 k2 k3 k4 hgd2 x0 x1 hkk.symm _ _ _ _ _ _ _ _ _ _ _ _ _ _ _ _ _ _ _ _ _ _ _ _ _ _ _ _ _ _ _ _ _ _ _ _ _ _ _ _ _ _ _ _ _ _ _ _ _ _ _ _ _ _ _ _ _ _ _ _ _ _ _ _ _ _ _ _ _ _ _ _ _ _ _ _ _ _ _ _ _ _ _ _ _ _ _ _ _ _ _ _ _ _ _ _ _ _ _ _ _ _ _ _ _ _ _ _ _ _ _ _ _ _ _ _ _ _ _ _ _ _ _ _ _ _ _ _ _ _ _ _ _ _ _ _ _ _ _ _ _ _ _ _ _ _ _ _ _ _ _ _ _ _ _ _ _ _ _ _ _ _ _ _ _ _ _ _ _ _ _ _ _ _ _ _ _ _ _ _ _ _ _ _ _ _ _ _ _ _ _ _ _ _ _ _ _ _ _ _ _ _ _ _ _ _ _ _ _ _ _ _ _ _ _ _ _ _ _ _ _ _ _ ?_
          intro t6 t11 t12 t13 t14 t15 t16 t17 t18 t19 t65 t66 t67 t68 t69 t70 t71 t72 t73 t74 t75 t76 t77 t78 t79 t80 t81 t82 t83 t84 t85 t86 t87 t88 t89 t90 t91 t92 t93 t94 t95 t96 t97 t98 t99 t100 t101 t102 t103 t104 t105 t106 t107 t108 t109 t110 t111 t112 t113 t114 t115 t116 t117 t118 t119 t120 t121 t122 t123 t124 t125 t126 t127 t128 t129 t130 t131 t132 t133 t134 t135 t136 t137 t138 t139 t140 t141 t142 t143 t144 t145 t146 t147 t148 t149 t150 t151 t152 t153 t154 t155 t156 t157 t158 t159 t160 t161 t162 t163 t164 t165 t166 t167 t168 t169 t170 t171 w' hR hM
          refine ⟨⟨t6, t11, t12, t13, t14, t15, t16, t17, t18, t19, t65, t66, t67, t68, t69, t70, t71, t72, t73, t74, t75, t76, t77, t78, t79, t80, t81, t82, t83, t84, t85, t86, t87, t88, t89, t90, t91, t92, t93, t94, t95, t96, t97, t98, t99, t100, t101, t102, t103, t104, t105, t106, t107, t108, t109, t110, t111, t112, t113, t114, t115, t116, t117, t118, t119, t120, t121, t122, t123, t124, t125, t126, t127, t128, t129, t130, t131, t132, t133, t134, t135, t136, t137, t138, t139, t140, t141, t142, t143, t144, t145, t146, t147, t148, t149, t150, t151, t152, t153, t154, t155, t156, t157, t158, t159, t160, t161, t162, t163, t164, t165, t166, t167, t168, t169, t170, t171, hR, rfl⟩, ?_⟩
          simpa [intOf] using hM
        · refine on_arm2 w p r win M N K dc xa xc dcs D wr i ack told want nf sN v va cs gcs fa fc fcs fl HKD HKC HXA HXF HL hN3 hK15 HM uM hM450 hw1 hw2 hpr HC HF HB HNF HSN HLE hlt gd od dw dn hiN hnz k1 k2 k3 k4 hgd2 x0 x1 hkk.symm _ _ _ _ _ _ _ _ _ _ _ _ _ _ _ _ _ _ _ _ _ _ _ _ _ _ _ _ _ _ _ _ _ _ _ _ _ _ _ _ _ _ _ _ _ _ _ _ _ _ _ _ _ _ _ _ _ _ _ _ _ _ _ _ _ _ _ _ _ _ _ _ _ _ _ _ _ _ _ _ _ _ _ _ _ _ _ _ _ _ _ _ _ _ _ _ _ _ _ _ _ _ _ _ _ _ _ _ _ _ _ _ _ _ _ _ _ _ _ _ _ _ _ _ _ _ _ _ _ _ _ _ _ _ _ _ _ _ _ _ _ _ _ _ _ _ _ _ _ _ _ _ _ _ _ _ _ _ _ _ _ _ _ _ _ _ _ _ _ _ _ _ _ _ _ _ _ _ _ _ _ _ _ _ _ _ _ _ _ _ _ _ _ _ _ _ _ _ _ _ _ _ _ _ _ _ _ _ _ _ _ _ _ _ _ _ _ _ _ _ _ _ _ ?_
          intro t6 t11 t12 t13 t14 t15 t16 t17 t18 t19 t65 t66 t67 t68 t69 t70 t71 t72 t73 t74 t75 t76 t77 t78 t79 t80 t81 t82 t83 t84 t85 t86 t87 t88 t89 t90 t91 t92 t93 t94 t95 t96 t97 t98 t99 t100 t101 t102 t103 t104 t105 t106 t107 t108 t109 t110 t111 t112 t113 t114 t115 t116 t117 t118 t119 t120 t121 t122 t123 t124 t125 t126 t127 t128 t129 t130 t131 t132 t133 t134 t135 t136 t137 t138 t139 t140 t141 t142 t143 t144 t145 t146 t147 t148 t149 t150 t151 t152 t153 t154 t155 t156 t157 t158 t159 t160 t161 t162 t163 t164 t165 t166 t167 t168 t169 t170 t171 w' hR hM
          refine ⟨⟨t6, t11, t12, t13, t14, t15, t16, t17, t18, t19, t65, t66, t67, t68, t69, t70, t71, t72, t73, t74, t75, t76, t77, t78, t79, t80, t81, t82, t83, t84, t85, t86, t87, t88, t89, t90, t91, t92, t93, t94, t95, t96, t97, t98, t99, t100, t101, t102, t103, t104, t105, t106, t107, t108, t109, t110, t111, t112, t113, t114, t115, t116, t117, t118, t119, t120, t121, t122, t123, t124, t125, t126, t127, t128, t129, t130, t131, t132, t133, t134, t135, t136, t137, t138, t139, t140, t141, t142, t143, t144, t145, t146, t147, t148, t149, t150, t151, t152, t153, t154, t155, t156, t157, t158, t159, t160, t161, t162, t163, t164, t165, t166, t167, t168, t169, t170, t171, hR, rfl⟩, ?_⟩
          simpa [intOf] using hM
        · refine on_arm3 w p r win M N K dc xa xc dcs D wr i ack told want nf sN v va cs gcs fa fc fcs fl HKD HKC HXA HXF HL hN3 hK15 HM uM hM450 hw1 hw2 hpr HC HF HB HNF HSN HLE hlt gd od dw dn hiN hnz k1 k2 k3 k4 hgd2 x0 x1 hkk.symm _ _ _ _ _ _ _ _ _ _ _ _ _ _ _ _ _ _ _ _ _ _ _ _ _ _ _ _ _ _ _ _ _ _ _ _ _ _ _ _ _ _ _ _ _ _ _ _ _ _ _ _ _ _ _ _ _ _ _ _ _ _ _ _ _ _ _ _ _ _ _ _ _ _ _ _ _ _ _ _ _ _ _ _ _ _ _ _ _ _ _ _ _ _ _ _ _ _ _ _ _ _ _ _ _ _ _ _ _ _ _ _ _ _ _ _ _ _ _ _ _ _ _ _ _ _ _ _ _ _ _ _ _ _ _ _ _ _ _ _ _ _ _ _ _ _ _ _ _ _ _ _ _ _ _ _ _ _ _ _ _ _ _ _ _ _ _ _ _ _ _ _ _ _ _ _ _ _ _ _ _ _ _ _ _ _ _ _ _ _ _ _ _ _ _ _ _ _ _ _ _ _ _ _ _ _ _ _ _ _ _ _ _ _ _ _ _ _ _ _ _ _ _ ?_
          intro t6 t11 t12 t13 t14 t15 t16 t17 t18 t19 t65 t66 t67 t68 t69 t70 t71 t72 t73 t74 t75 t76 t77 t78 t79 t80 t81 t82 t83 t84 t85 t86 t87 t88 t89 t90 t91 t92 t93 t94 t95 t96 t97 t98 t99 t100 t101 t102 t103 t104 t105 t106 t107 t108 t109 t110 t111 t112 t113 t114 t115 t116 t117 t118 t119 t120 t121 t122 t123 t124 t125 t126 t127 t128 t129 t130 t131 t132 t133 t134 t135 t136 t137 t138 t139 t140 t141 t142 t143 t144 t145 t146 t147 t148 t149 t150 t151 t152 t153 t154 t155 t156 t157 t158 t159 t160 t161 t162 t163 t164 t165 t166 t167 t168 t169 t170 t171 w' hR hM
          refine ⟨⟨t6, t11, t12, t13, t14, t15, t16, t17, t18, t19, t65, t66, t67, t68, t69, t70, t71, t72, t73, t74, t75, t76, t77, t78, t79, t80, t81, t82, t83, t84, t85, t86, t87, t88, t89, t90, t91, t92, t93, t94, t95, t96, t97, t98, t99, t100, t101, t102, t103, t104, t105, t106, t107, t108, t109, t110, t111, t112, t113, t114, t115, t116, t117, t118, t119, t120, t121, t122, t123, t124, t125, t126, t127, t128, t129, t130, t131, t132, t133, t134, t135, t136, t137, t138, t139, t140, t141, t142, t143, t144, t145, t146, t147, t148, t149, t150, t151, t152, t153, t154, t155, t156, t157, t158, t159, t160, t161, t162, t163, t164, t165, t166, t167, t168, t169, t170, t171, hR, rfl⟩, ?_⟩
          simpa [intOf] using hM
        · refine on_arm4 w p r win M N K dc xa xc dcs D wr i ack told want nf sN v va cs gcs fa fc fcs fl HKD HKC HXA HXF HL hN3 hK15 HM uM hM450 hw1 hw2 hpr HC HF HB HNF HSN HLE hlt gd od dw dn hiN hnz k1 k2 k3 k4 hgd2 x0 x1 hkk.symm _ _ _ _ _ _ _ _ _ _ _ _ _ _ _ _ _ _ _ _ _ _ _ _ _ _ _ _ _ _ _ _ _ _ _ _ _ _ _ _ _ _ _ _ _ _ _ _ _ _ _ _ _ _ _ _ _ _ _ _ _ _ _ _ _ _ _ _ _ _ _ _ _ _ _ _ _ _ _ _ _ _ _ _ _ _ _ _ _ _ _ _ _ _ _ _ _ _ _ _ _ _ _ _ _ _ _ _ _ _ _ _ _ _ _ _ _ _ _ _ _ _ _ _ _ _ _ _ _ _ _ _ _ _ _ _ _ _ _ _ _ _ _ _ _ _ _ _ _ _ _ _ _ _ _ _ _ _ _ _ _ _ _ _ _ _ _ _ _ _ _ _ _ _ _ _ _ _ _ _ _ _ _ _ _ _ _ _ _ _ _ _ _ _ _ _ _ _ _ _ _ _ _ _ _ _ _ _ _ _ _ _ _ _ _ _ _ _ _ _ _ _ _ ?_
          intro t6 t11 t12 t13 t14 t15 t16 t17 t18 t19 t65 t66 t67 t68 t69 t70 t71 t72 t73 t74 t75 t76 t77 t78 t79 t80 t81 t82 t83 t84 t85 t86 t87 t88 t89 t90 t91 t92 t93 t94 t95 t96 t97 t98 t99 t100 t101 t102 t103 t104 t105 t106 t107 t108 t109 t110 t111 t112 t113 t114 t115 t116 t117 t118 t119 t120 t121 t122 t123 t124 t125 t126 t127 t128 t129 t130 t131 t132 t133 t134 t135 t136 t137 t138 t139 t140 t141 t142 t143 t144 t145 t146 t147 t148 t149 t150 t151 t152 t153 t154 t155 t156 t157 t158 t159 t160 t161 t162 t163 t164 t165 t166 t167 t168 t169 t170 t171 w' hR hM
          refine ⟨⟨t6, t11, t12, t13, t14, t15, t16, t17, t18, t19, t65, t66, t67, t68, t69, t70, t71, t72, t73, t74, t75, t76, t77, t78, t79, t80, t81, t82, t83, t84, t85, t86, t87, t88, t89, t90, t91, t92, t93, t94, t95, t96, t97, t98, t99, t100, t101, t102, t103, t104, t105, t106, t107, t108, t109, t110, t111, t112, t113, t114, t115, t116, t117, t118, t119, t120, t121, t122, t123, t124, t125, t126, t127, t128, t129, t130, t131, t132, t133, t134, t135, t136, t137, t138, t139, t140, t141, t142, t143, t144, t145, t146, t147, t148, t149, t150, t151, t152, t153, t154, t155, t156, t157, t158, t159, t160, t161, t162, t163, t164, t165, t166, t167, t168, t169, t170, t171, hR, rfl⟩, ?_⟩
          simpa [intOf] using hM
      · refine on_armN w p r win M N K dc xa xc dcs D wr i ack told want nf sN v va cs gcs fa fc fcs fl HKD HKC HXA HXF HL hN3 hK15 HM uM hM450 hw1 hw2 hpr HC HF HB HNF HSN HLE hlt da (fun h => by rcases Nat.eq_zero_or_pos (nf + (toldF win (min (i + 1) K) ack - told)) with e | e; exact e; exact absurd ⟨h, by omega⟩ hcont) _ _ _ _ _ _ _ _ _ _ _ _ _ _ _ _ _ _ _ _ _ _ _ _ _ _ _ _ _ _ _ _ _ _ _ _ _ _ _ _ _ _ _ _ _ _ _ _ _ _ _ _ _ _ _ _ _ _ _ _ _ _ _ _ _ _ _ _ _ _ _ _ _ _ _ _ _ _ _ _ _ _ _ _ _ _ _ _ _ _ _ _ _ _ _ _ _ _ _ _ _ _ _ _ _ _ _ _ _ _ _ _ _ _ _ _ _ _ _ _ _ _ _ _ _ _ _ _ _ _ _ _ _ _ _ _ _ _ _ _ _ _ _ _ _ _ _ _ _ _ _ _ _ _ _ _ _ _ _ _ _ _ _ _ _ _ _ _ _ _ _ _ _ _ _ _ _ _ _ _ _ _ _ _ _ _ _ _ _ _ _ _ _ _ _ _ _ _ _ _ _ _ _ _ _ _ _ _ _ _ _ _ _ _ _ _ _ _ _ _ _ _ _ ?_
        intro t6 t11 t12 t13 t14 t15 t16 t17 t18 t19 t65 t66 t67 t68 t69 t70 t71 t72 t73 t74 t75 t76 t77 t78 t79 t80 t81 t82 t83 t84 t85 t86 t87 t88 t89 t90 t91 t92 t93 t94 t95 t96 t97 t98 t99 t100 t101 t102 t103 t104 t105 t106 t107 t108 t109 t110 t111 t112 t113 t114 t115 t116 t117 t118 t119 t120 t121 t122 t123 t124 t125 t126 t127 t128 t129 t130 t131 t132 t133 t134 t135 t136 t137 t138 t139 t140 t141 t142 t143 t144 t145 t146 t147 t148 t149 t150 t151 t152 t153 t154 t155 t156 t157 t158 t159 t160 t161 t162 t163 t164 t165 t166 t167 t168 t169 t170 t171 w' hR hM
        refine ⟨⟨t6, t11, t12, t13, t14, t15, t16, t17, t18, t19, t65, t66, t67, t68, t69, t70, t71, t72, t73, t74, t75, t76, t77, t78, t79, t80, t81, t82, t83, t84, t85, t86, t87, t88, t89, t90, t91, t92, t93, t94, t95, t96, t97, t98, t99, t100, t101, t102, t103, t104, t105, t106, t107, t108, t109, t110, t111, t112, t113, t114, t115, t116, t117, t118, t119, t120, t121, t122, t123, t124, t125, t126, t127, t128, t129, t130, t131, t132, t133, t134, t135, t136, t137, t138, t139, t140, t141, t142, t143, t144, t145, t146, t147, t148, t149, t150, t151, t152, t153, t154, t155, t156, t157, t158, t159, t160, t161, t162, t163, t164, t165, t166, t167, t168, t169, t170, t171, hR, rfl⟩, ?_⟩
        simpa [intOf] using hM
    · have hlz : ¬ (i : Int) < (M : Int) := by omega
      have hsK : K = sN := by rw [HSN.out]; have := HM.out; omega
      subst hsK
      have hDK : D.take K = D := by rw [HKD.out, List.take_length]
      rw [hDK] at HC
      have HC0 := Lib.hid (HC.out.flew (fa' := none) (fc' := 0) (fcs' := []) (fl' := []) (CeAt.nil _ _ _) (PkV.nil _ _) (Nat.le_refl _))
      have HKL := Lib.hid (show D.length = K from HKD.out.symm)
      clear HC HB HSN hDK
      go_wp2_with fail
      go_loopw [20, 11] (fun v20 v11 wr => On2 w p r win D v20 v11 wr) (fun v20 _ _ => K - (intOf v20).toNat)
      case atStart => exact ⟨_, 0, ack, told, want, v, cs, gcs, rfl, rfl, Nat.zero_le _, Nat.zero_le _, HLE.out.2.2.2.2.1, HLE.out.2.2.2.2.2, HC0, HF⟩
      case round =>
        clear HC0 HF HLE
        obtain ⟨vb, j, ak, tg, wa, v2, cs2, gs, rfl, rfl, hjD, hja, haw, hwt, HC2, HF2⟩ := hrel
        by_cases hjK : j < K
        · have hjz : (j : Int) < (K : Int) := by omega
          obtain ⟨tl, htl⟩ : ∃ tl, tl = toldF win D.length ak := ⟨_, rfl⟩
          have HTL := Lib.hid htl
          have HTT := Lib.hid (show tg ≤ tl ∧ ak ≤ tl ∧ tl ≤ K ∧ j + 1 ≤ tl by
            have h := HC2.out.snd.toldF
            have h2 := HKL.out
            rw [← htl, h2] at h
            refine ⟨h.1, h.2.1, h.2.2.1, ?_⟩
            rw [htl, h2]
            unfold toldF
            omega)
          clear htl
          go_wp2_with fail
          refine Calls.mono (fresh_any wr HC2.out.snd HL.out tl HTL.out) ?_
          rintro e W1 ⟨a0, n0, c0, rfl, -, -, -, hs1, hl1⟩
          have HCa := Lib.hid (HC2.out.snt (hl1.mono fun g _ hg => Or.inl hg) (Nxt.refl _ _) hs1 (fun g hg => Or.inl hg))
          have HFa := Lib.hid (fsd HF2.out hl1 (fun g hg => Or.inl hg) (Nxt.refl _ _) (Nxt.refl _ _))
          clear hs1 hl1
          go_wp2_with fail
          refine Calls.mono (again_any W1 HCa.out.snd HL.out) ?_
          rintro e W2 ⟨a, n, c, rfl, hn, hnc, ⟨rcs, hce, hpk⟩, hs2, hb2⟩
          have HCb := Lib.hid ((HCa.out.later hb2).flew (hce.far fun g hg => ⟨HCa.out.new hg.1 hg.2, rfl⟩) (hpk.far fun g hg => ⟨HCa.out.new hg.1 hg.2, rfl⟩) (show (pkts D ak tl).length ≤ c by rw [pkts_length, ← hn]; exact hnc))
          have HFb := Lib.hid (fsd_later HFa.out hb2)
          have HNN := Lib.hid hn
          have hn9 : n ≤ 150 := by have := HTT.out; omega
          clear hn hnc hce hpk hs2 hb2
          go_wp2_with fail
          go_loopw [22, 11] (fun v22 v11 wr => On3 w p r win D ak tl n v2 cs2 a c rcs v22 v11 wr) (fun v22 _ _ => n - (intOf v22).toNat)
          case atStart => exact ⟨_, 0, wa, gs, rfl, rfl, Nat.zero_le _, by omega, by have := HTT.out; omega, HCb, HFb⟩
          case round =>
            clear HCa HFa HCb HFb HC2 HF2
            obtain ⟨vd, k, wb, hs, rfl, rfl, hkn, hkw, hwt2, HC3, HF3⟩ := hrel
            by_cases hkl : k < n
            · have hkz : (k : Int) < (n : Int) := by omega
              obtain ⟨gf, of, efa, hgf, hcf⟩ := HC3.out.fcel (by rw [HC3.out.fpk.1, pkts_length]; have := HNN.out; omega)
              obtain ⟨ba, bc, y1, y2, hbc, hby⟩ := HC3.out.fpk.2 k (by rw [pkts_length]; have := HNN.out; omega)
              rw [pkts_get] at y1 y2 hbc hby
              dsimp only at y1 y2 hbc hby
              have z1 := hcf _ _ y1
              have z2 := hcf _ _ y2
              rw [← Nat.add_assoc] at z2
              obtain ⟨sq, hsq⟩ : ∃ x, x = ak + k := ⟨_, rfl⟩
              rw [← hsq] at z1 z2 hbc hby
              obtain ⟨bb, hbb⟩ : ∃ x, x = D.getD sq [] := ⟨_, rfl⟩
              rw [← hbb] at z2 hbc hby
              obtain ⟨bl, hbl⟩ : ∃ x, x = bb.length := ⟨_, rfl⟩
              rw [← hbl] at z2 hbc
              have HSQ := Lib.hid (show sq = ak + k ∧ sq < tl ∧ bb = D.getD sq [] ∧ bb.length ≤ 100000000 from ⟨hsq, by have := HNN.out; omega, hbb, by
                rw [hbb, List.getD_eq_getElem?_getD, List.getElem?_eq_getElem (by rw [HKL.out]; have := HNN.out; have := HTT.out; omega)]
                exact HL.out _ (List.getElem_mem _)⟩)
              have HBb := Lib.hid hbl
              have HBC := Lib.hid hbc
              have HBY := Lib.hid hby
              subst efa
              clear y1 y2 hcf hbl hbc hby hbb hsq hgf
              by_cases hsw : sq = wb
              · subst hsw
                have CT := Lib.hid (take_yes r sq ba bl bc bb wr HC3.out.rcv (by have := HSQ.out; have := HTT.out; omega) HBY.out HBb.out HSQ.out.2.2.2 (fun g hg => ⟨hg.1, hg.2.2.1⟩))
                go_wp2_with fail
                refine Calls.mono CT.out ?_
                rintro e W3 ⟨a', c', rfl, hc3, hb3, hr3, hl3⟩
                have HC4 := Lib.hid (HC3.out.took hl3 hr3)
                have HF4 := Lib.hid (fsd HF3.out hl3 (fun g hg => Or.inr (Or.inl hg)) (Nxt.refl _ _) (Nxt.refl _ _))
                have HBY3 := Lib.hid (show BytesAt W3 (Dt W3 p r r v2 vd) a' bb from hb3.far fun g hg => ⟨HC3.out.new hg.1 hg.2, rfl⟩)
                have HBC3 := Lib.hid hc3
                have HGL := Lib.hid (show hs.length ≤ 200 by rw [HF4.out.1, List.length_take]; have := HSQ.out; have := HTT.out; omega)
                have HO3 := Lib.hid (show OS (W3.alloc (.cells #[.slice a' bl c'] 38)) (r + 1) vd hs from HC4.out.row.later (below_alloc _ _))
                have HR3 := Lib.hid (show r < W3.heap.size from HC4.out.rcv.lt)
                clear hc3 hb3 hr3 hl3 CT z1 z2
                go_wp2_with (first
                  | (at_builtin; refine wpList_append_slices rfl _ _ rfl (r + 1) vd hs rfl HO3.out (some ⟨W3.heap.size, 0, none⟩) 1 1 [.slice a' bl c'] rfl rfl (one_new W3 _ _) (by intro u hu; simp at hu; rw [hu]; rfl) (by have := HGL.out; simp; omega) (by have := HR3.out; simp; omega) ?_
                     intro va' W4 hrow4 hg4 hat4
                     obtain ⟨a4, n4, c4, e4⟩ := own_slice hrow4
                     subst e4
                     have R4 := Lib.hid hrow4
                     have G4 := Lib.hid (show (W3.alloc (.cells #[.slice a' bl c'] 38)).grownBy W4 vd.ownBlock from hg4)
                     have A4 := Lib.hid (show (Value.slice a4 n4 c4).ownBlock = vd.ownBlock ∨ (Value.slice a4 n4 c4).ownBlock = some (W3.alloc (.cells #[.slice a' bl c'] 38)).heap.size from hat4)
                     clear hrow4 hg4 hat4
                     obtain ⟨hcg, hfg⟩ := on_grow HC4.out R4.out G4.out A4.out
                     have HC5 := Lib.hid hcg
                     have HF5 := Lib.hid (show FsV W4 (Dt W4 p r r v2 (.slice a4 n4 c4)) (hs ++ [.slice a' bl c']) (D.take (sq + 1)) by
                       rw [take_succ (by rw [HKL.out]; have := HSQ.out; have := HTT.out; omega), ← HSQ.out.2.2.1]
                       exact FsV.app (hfg _ _ HF4.out) (hfg _ [bb] (FsV.two HBb.out HBC3.out HBY3.out)))
                     clear hcg hfg
                     skip))
                go_roundw
                case rel => exact ⟨_, k + 1, sq + 1, hs ++ [.slice a' bl c'], rfl, by go_num, by omega, by have := HSQ.out; omega, by have := HSQ.out; omega, HC5, HF5⟩
                case measure => simp [intOf]; omega
              · have CT := Lib.hid (take_no r sq wb ba bl bc hsw wr HC3.out.rcv)
                go_wp2_with fail
                refine Calls.mono CT.out ?_
                rintro e W3 ⟨rfl, hb3⟩
                have HC4 := Lib.hid (HC3.out.later hb3)
                have HF4 := Lib.hid (fsd_later HF3.out hb3)
                clear hb3 CT z1 z2
                go_wp2_with fail
                go_roundw
                case rel => exact ⟨_, k + 1, wb, hs, rfl, by go_num, by omega, by have := HSQ.out; omega, by omega, HC4, HF4⟩
                case measure => simp [intOf]; omega
            · have hkz : ¬ (k : Int) < (n : Int) := by omega
              have hwb : wb = tl := by have := HNN.out; have := HTT.out; omega
              subst hwb
              have hx64 : wb < 18446744073709551616 := by have := HTT.out; omega
              go_wp2_with fail
              refine Calls.mono (want_any r wb wr HC3.out.rcv) ?_
              rintro e wq ⟨rfl, rfl⟩
              go_wp2_with fail
              by_cases hyes : ak < wb
              · refine Calls.mono (ack_yes wb wr HC3.out.snd hyes (Nat.le_refl _)) ?_
                rintro e W3 ⟨rfl, v', cs', hs3, hl3, hn3⟩
                have HC4 := Lib.hid ((HC3.out.snt hl3 hn3 hs3 (fun g hg => Or.inl hg)).flew (fa' := none) (fc' := 0) (fcs' := []) (fl' := []) (CeAt.nil _ _ _) (PkV.nil _ _) (Nat.le_refl _))
                have HF4 := Lib.hid (fsd HF3.out hl3 (fun g hg => by rcases hg with e | e; exact Or.inl e; exact Or.inr (Or.inr (Or.inr (Or.inl e)))) hn3 (Nxt.refl _ _))
                clear hs3 hl3 hn3
                go_wp2_with fail
                go_roundw
                case rel => exact ⟨_, j + 1, wb, wb, wb, v', cs', hs, rfl, by go_num, by rw [HKL.out]; omega, HTT.out.2.2.2, Nat.le_refl _, Nat.le_refl _, HC4, HF4⟩
                case measure => simp [intOf]; omega
              · refine Calls.mono (ack_no wb wr HC3.out.snd (by omega) hx64) ?_
                rintro e W3 ⟨rfl, hb3⟩
                have HC4 := Lib.hid ((HC3.out.later hb3).flew (fa' := none) (fc' := 0) (fcs' := []) (fl' := []) (CeAt.nil _ _ _) (PkV.nil _ _) (Nat.le_refl _))
                have HF4 := Lib.hid (fsd_later HF3.out hb3)
                clear hb3
                go_wp2_with fail
                go_roundw
                case rel => exact ⟨_, j + 1, ak, wb, wb, v2, cs2, hs, rfl, by go_num, by rw [HKL.out]; omega, by have := HTT.out; omega, by have := HTT.out; omega, Nat.le_refl _, HC4, HF4⟩
                case measure => simp [intOf]; omega
        · have hjz : ¬ (j : Int) < (K : Int) := by omega
          have hak : ak = K ∧ wa = K := by
            have h1 := HC2.out.snd.hat
            have h2 := HC2.out.snd.htl
            have h3 := HKL.out
            omega
          obtain ⟨h1, h2⟩ := hak
          subst h2
          have HT := Lib.hid (show Calls Try.prog 19 #[.pointer (some ⟨p, 0, none⟩)] wr fun e w' => e = .returned (.int .i64 0) ∧ wr = w' by
            have h := slen_any wr HC2.out.snd
            rwa [show D.length - ak = 0 by rw [HKL.out]; omega] at h)
          obtain ⟨la, ln, lk, rfl⟩ := own_slice HC2.out.row
          obtain ⟨hln, hlc⟩ := HC2.out.row.cells
          have hDK : D.take wa = D := by rw [HKD.out, List.take_length]
          rw [hDK] at HF2
          have hlK : wa = ln := by rw [hln, HF2.out.1, HKL.out]
          subst hlK
          have HLC := Lib.hid (show CellsAt wr (Old wr.heap.size) la gs from hlc.far fun g hg => ⟨(HC2.out.row.lt hg).2, rfl⟩)
          have HF5 := Lib.hid (show FsV wr (Old wr.heap.size) gs D from HF2.out.far fun g hg => ⟨hg.1, rfl⟩)
          have HBL := Lib.hid HC2.out.bel
          clear hln hlc hDK h1
          go_wp2_with fail
          refine Calls.mono HT.out ?_
          rintro e wq ⟨rfl, rfl⟩
          clear HT
          obtain ⟨U, hU⟩ : ∃ U, U = wr := ⟨_, rfl⟩
          have HUE := Lib.hid hU
          rw [← hU] at HLC HF5 HBL
          go_wp2_with fail
          go_loopw [25] (fun v25 wr => On4 wa U v25 wr) (fun v25 _ => wa - (intOf v25).toNat)
          case atStart => exact ⟨0, rfl, Nat.zero_le _, Lib.hid (by rw [HUE.out]; exact Below.refl _ _)⟩
          case round =>
            obtain ⟨t, rfl, htK, HW⟩ := hrel
            by_cases htl : t < wa
            · have htz : (t : Int) < (wa : Int) := by omega
              obtain ⟨g1, o1, rfl, hg1, hc1⟩ := HLC.out.2 (by rw [HF5.out.1, HKL.out]; omega)
              obtain ⟨b1, k1, y1, hk1, hb1⟩ := HF5.out.2 t (by rw [HKL.out]; exact htl)
              obtain ⟨g2, o2, rfl, hg2, hc2⟩ := HXA.out.2 (by rw [← HKC.out]; omega)
              obtain ⟨b2, k2, y2, hk2, hb2⟩ := HXF.out.2 t (by rw [HKL.out]; exact htl)
              have hg1' : g1 < U.heap.size := hg1
              have hg2' : g2 < w.heap.size := hg2
              have BW := HBL.out.trans (HW.out.mono HBL.out.size)
              have d1 : _ = _ := (HW.out.cell (p := ⟨g1, o1 + t, none⟩) hg1').trans (hc1 _ _ y1)
              have d2 : _ = _ := (BW.cell (p := ⟨g2, o2 + t, none⟩) hg2').trans (hc2 _ _ y2)
              obtain ⟨x, hx⟩ : ∃ x, x = D[t]'(by rw [HKL.out]; exact htl) := ⟨_, rfl⟩
              rw [← hx] at d1 d2 hb1 hb2
              have t1 := fun N => run_text b1 k1 x (wr.drewN N) (show BytesAt (wr.drewN N) (Old U.heap.size) b1 x from hb1.far fun g hg => ⟨hg, HW.out.block g hg⟩)
              have t2 := fun N => run_text b2 k2 x (wr.drewN N) (show BytesAt (wr.drewN N) (Old w.heap.size) b2 x from hb2.far fun g hg => ⟨hg, BW.block g hg⟩)
              obtain ⟨q, hq⟩ : ∃ q, q = x.length := ⟨_, rfl⟩
              rw [← hq] at d1 d2 t1 t2
              clear hc1 hc2 y1 y2 hk1 hk2 hb1 hb2 BW hx hq
              go_wp2_with fail
              go_quiet (fail)
              go_wp2_with fail
              go_roundw
              case rel => exact ⟨t + 1, by go_num, by omega, Lib.hid ⟨HW.out.os, HW.out.tape, HW.out.output, HW.out.size, HW.out.block⟩⟩
              case measure => simp [intOf]; omega
            · have htz : ¬ (t : Int) < (wa : Int) := by omega
              go_wp2_with fail
              go_ret
              exact ⟨rfl, HBL.out.trans (HW.out.mono HBL.out.size)⟩
end Go.Proofs.Ytnnoampmcghnaaa.Lk
