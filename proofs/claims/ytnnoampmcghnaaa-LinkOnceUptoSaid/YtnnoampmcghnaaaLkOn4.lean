/-
  A round of LinkOnce's first loop, the deed's number 4: the relation is kept. (The loop's body is taken out of the program's own text.)
-/
import Derived.Test.YtnnoampmcghnaaaLkOnBody
namespace Go.Proofs.Ytnnoampmcghnaaa.Lk
open Go.RowKit Go.Proofs.Ytnnoampmcghnaaa.Fl Go.Proofs.Ytnnoampmcghnaaa.Wi Go.Proofs.Ytnnoampmcghnaaa.Fr
set_option linter.unusedVariables false
set_option linter.unusedSimpArgs false
set_option maxHeartbeats 16000000
set_option maxRecDepth 1000000
theorem on_arm4 (w : World) (p r win M N K dc : Nat) (xa : Option Addr) (xc : Nat) (dcs : List Value) (D : List (List UInt8)) (wr : World) (i ack told want nf sN : Nat) (v va : Value) (cs gcs : List Value) (fa : Option Addr) (fc : Nat) (fcs : List Value) (fl : List Pk)
    (HKD : Hid (K = D.length)) (HKC : Hid (K = dcs.length)) (HXA : Hid (CellsAt w (Old w.heap.size) xa dcs)) (HXF : Hid (FsV w (Old w.heap.size) dcs D)) (HL : Hid (∀ x ∈ D, x.length ≤ 100000000)) (hN3 : N ≤ 300) (hK15 : K ≤ 150) (HM : Hid (M = N + K)) (uM : IntKind.i64.wrap ((N : Int) + (K : Int)) = (M : Int)) (hM450 : M ≤ 450) (hw1 : 1 ≤ win) (hw2 : win ≤ 64) (hpr : p < r)
    (HC : Hid (Co w p r r win wr v cs va gcs (D.take sN) ack told want fa fc fcs fl)) (HF : Hid (FsV wr (Dt wr p r r v va) gcs (D.take want))) (HB : Hid (OnB i D ack want told fl)) (HNF : Hid (nf = fl.length)) (HSN : Hid (sN = min i K)) (HLE : Hid (ack ≤ told ∧ told ≤ sN ∧ told ≤ ack + win ∧ nf ≤ 70 * i ∧ ack ≤ want ∧ want ≤ told)) (hlt : i < M) (gd od : Nat) (dw dn : Int) (hiN : i < N) (hnz : nf + (toldF win (min (i + 1) K) ack - told) ≠ 0)
    (k1 : -9223372036854775808 ≤ dw) (k2 : dw ≤ 9223372036854775807) (k3 : -9223372036854775808 ≤ dn) (k4 : dn ≤ 9223372036854775807) (hgd2 : gd < w.heap.size) (x0 : w.cell? ⟨gd, od + i * 4, none⟩ = some (.int .i64 dw)) (x1 : w.cell? ⟨gd, od + i * 4 + 1, none⟩ = some (.int .i64 dn)) (hkk : pickN dw 5 = 4) (s3 s4 s5 s6 s15 s16 s17 s18 s19 s20 s21 s22 s23 s24 s25 s26 s27 s28 s29 s30 s31 s32 s33 s34 s35 s36 s37 s38 s39 s40 s41 s42 s43 s44 s45 s46 s47 s48 s49 s50 s51 s52 s53 s54 s55 s56 s57 s58 s59 s60 s61 s62 s63 s64 s65 s66 s67 s68 s69 s70 s71 s72 s73 s74 s75 s76 s77 s78 s79 s80 s81 s82 s83 s84 s85 s86 s87 s88 s89 s90 s91 s92 s93 s94 s95 s96 s97 s98 s99 s100 s101 s102 s103 s104 s105 s106 s107 s108 s109 s110 s111 s112 s113 s114 s115 s116 s117 s118 s119 s120 s121 s122 s123 s124 s125 s126 s127 s128 s129 s130 s131 s132 s133 s134 s135 s136 s137 s138 s139 s140 s141 s142 s143 s144 s145 s146 s147 s148 s149 s150 s151 s152 s153 s154 s155 s156 s157 s158 s159 s160 s161 s162 s163 s164 s165 s166 s167 s168 s169 s170 s171 s172 s173 s174 s175 s176 s177 s178 s179 s180 s181 s182 s183 s184 s185 s186 s187 s188 s189 s190 s191 s192 s193 s194 s195 s196 s197 s198 s199 s200 s201 s202 s203 s204 s205 s206 s207 s208 s209 s210 s211 s212 s213 s214 s215 s216 s217 s218 s219 s220 s221 s222 s223 s224 s225 s226 s227 s228 s229 s230 : Value) (X K0 : Act → World → Prop) (R0 : Ending → World → Prop)
    (hend : ∀ (t6 t11 t12 t13 t14 t15 t16 t17 t18 t19 t65 t66 t67 t68 t69 t70 t71 t72 t73 t74 t75 t76 t77 t78 t79 t80 t81 t82 t83 t84 t85 t86 t87 t88 t89 t90 t91 t92 t93 t94 t95 t96 t97 t98 t99 t100 t101 t102 t103 t104 t105 t106 t107 t108 t109 t110 t111 t112 t113 t114 t115 t116 t117 t118 t119 t120 t121 t122 t123 t124 t125 t126 t127 t128 t129 t130 t131 t132 t133 t134 t135 t136 t137 t138 t139 t140 t141 t142 t143 t144 t145 t146 t147 t148 t149 t150 t151 t152 t153 t154 t155 t156 t157 t158 t159 t160 t161 t162 t163 t164 t165 t166 t167 t168 t169 t170 t171 : Value) (w' : World), OnR w p r win M D t11 t12 t13 t14 w' → M - (intOf t14).toNat < M - i → X { tmps := #[.int .i64 (win : Int), .slice xa K xc, .slice (some ⟨gd, od, none⟩) N dc, s3, s4, s5, t6, .bool true, .pointer (some ⟨p, 0, none⟩), .nilIface, .pointer (some ⟨r, 0, none⟩), t11, t12, t13, t14, t15, t16, t17, t18, t19, s20, s21, s22, s23, s24, s25, s26, s27, s28, s29, s30, s31, s32, s33, s34, s35, s36, s37, s38, s39, s40, s41, s42, s43, s44, s45, s46, s47, s48, s49, s50, s51, s52, s53, s54, s55, s56, s57, s58, s59, s60, s61, s62, s63, s64, t65, t66, t67, t68, t69, t70, t71, t72, t73, t74, t75, t76, t77, t78, t79, t80, t81, t82, t83, t84, t85, t86, t87, t88, t89, t90, t91, t92, t93, t94, t95, t96, t97, t98, t99, t100, t101, t102, t103, t104, t105, t106, t107, t108, t109, t110, t111, t112, t113, t114, t115, t116, t117, t118, t119, t120, t121, t122, t123, t124, t125, t126, t127, t128, t129, t130, t131, t132, t133, t134, t135, t136, t137, t138, t139, t140, t141, t142, t143, t144, t145, t146, t147, t148, t149, t150, t151, t152, t153, t154, t155, t156, t157, t158, t159, t160, t161, t162, t163, t164, t165, t166, t167, t168, t169, t170, t171, s172, s173, s174, s175, s176, s177, s178, s179, s180, s181, s182, s183, s184, s185, s186, s187, s188, s189, s190, s191, s192, s193, s194, s195, s196, s197, s198, s199, s200, s201, s202, s203, s204, s205, s206, s207, s208, s209, s210, s211, s212, s213, s214, s215, s216, s217, s218, s219, s220, s221, s222, s223, s224, s225, s226, s227, s228, s229, s230], defers := [] } w') :
    Code.wp Try.prog bodyOn (Exit.then X (Exit.inBlock 0 (Exit.then K0 (bodyPost Try.prog Try.f4 R0)))) { tmps := #[.int .i64 (win : Int), .slice xa K xc, .slice (some ⟨gd, od, none⟩) N dc, s3, s4, s5, s6, .bool true, .pointer (some ⟨p, 0, none⟩), .nilIface, .pointer (some ⟨r, 0, none⟩), va, .slice fa nf fc, .int .i64 (sN : Int), .int .i64 (i : Int), s15, s16, s17, s18, s19, s20, s21, s22, s23, s24, s25, s26, s27, s28, s29, s30, s31, s32, s33, s34, s35, s36, s37, s38, s39, s40, s41, s42, s43, s44, s45, s46, s47, s48, s49, s50, s51, s52, s53, s54, s55, s56, s57, s58, s59, s60, s61, s62, s63, s64, s65, s66, s67, s68, s69, s70, s71, s72, s73, s74, s75, s76, s77, s78, s79, s80, s81, s82, s83, s84, s85, s86, s87, s88, s89, s90, s91, s92, s93, s94, s95, s96, s97, s98, s99, s100, s101, s102, s103, s104, s105, s106, s107, s108, s109, s110, s111, s112, s113, s114, s115, s116, s117, s118, s119, s120, s121, s122, s123, s124, s125, s126, s127, s128, s129, s130, s131, s132, s133, s134, s135, s136, s137, s138, s139, s140, s141, s142, s143, s144, s145, s146, s147, s148, s149, s150, s151, s152, s153, s154, s155, s156, s157, s158, s159, s160, s161, s162, s163, s164, s165, s166, s167, s168, s169, s170, s171, s172, s173, s174, s175, s176, s177, s178, s179, s180, s181, s182, s183, s184, s185, s186, s187, s188, s189, s190, s191, s192, s193, s194, s195, s196, s197, s198, s199, s200, s201, s202, s203, s204, s205, s206, s207, s208, s209, s210, s211, s212, s213, s214, s215, s216, s217, s218, s219, s220, s221, s222, s223, s224, s225, s226, s227, s228, s229, s230], defers := [] } wr := by
  have q4 := nee_nil
  have hlz : (i : Int) < (M : Int) := by omega
  conv => arg 2; whnf
  go_upto_if 77 with fail
  go_cut [13] from 65 to 171 (fun s13 wx => OnC w p r win D i ack told want va gcs fa fc fcs fl s13 wx)
  case first =>
    by_cases hiK : i < K
    · skip
      have hiz : (i : Int) < (K : Int) := by omega
      obtain ⟨gx, ox, exa, hgx, hcx⟩ := HXA.out.2 (by rw [← HKC.out]; omega)
      obtain ⟨ba, bc, y1, hbc, hby⟩ := HXF.out.2 i (by rw [← HKD.out]; exact hiK)
      have z1 := (HC.out.bel.cell (p := ⟨gx, ox + i, none⟩) hgx).trans (hcx i _ y1)
      obtain ⟨b, hb⟩ : ∃ b, b = D[i]'(by rw [← HKD.out]; exact hiK) := ⟨_, rfl⟩
      rw [← hb] at z1 hbc hby
      obtain ⟨bl, hbl⟩ : ∃ bl, bl = b.length := ⟨_, rfl⟩
      rw [← hbl] at z1 hbc
      have hsi : sN = i := by rw [HSN.out]; omega
      have hbd : b = D.getD i [] := by rw [hb, List.getD_eq_getElem?_getD, List.getElem?_eq_getElem (by rw [← HKD.out]; exact hiK)]; rfl
      have hb9 : b.length ≤ 100000000 := HL.out _ (by rw [hb]; exact List.getElem_mem _)
      have HALL := Lib.hid (show D.take sN ++ [b] = D.take (min (i + 1) D.length) by rw [hsi, hbd, ← take_succ (by rw [← HKD.out]; exact hiK), ← HKD.out, show min (i + 1) K = i + 1 by omega])
      have CS := Lib.hid (send_any ba bl bc b wr HC.out.snd (by rw [List.length_take]; omega) (by rw [List.length_take]; omega) (show BytesAt wr (Old w.heap.size) ba b from hby.later HC.out.bel) hbl hb9 (fun g hg => Nat.lt_of_lt_of_le hg HC.out.bel.size))
      have u1 : IntKind.i64.wrap ((sN : Int) + 1) = ((min (i + 1) D.length : Nat) : Int) := by rw [IntWalk.i64_in _ (by omega), ← HKD.out]; omega
      obtain ⟨z, hz⟩ : ∃ z : Int, z = ((min (i + 1) D.length : Nat) : Int) := ⟨_, rfl⟩
      rw [← hz] at u1
      have HZ := Lib.hid hz
      subst exa
      clear hcx y1 hb hbl hbc hby hbd hb9 hsi hz
      go_wp2_with fail
      refine Calls.mono CS.out ?_
      rintro e W2 ⟨rfl, v', cs', hs2, hl2, hn2⟩
      have HC2 := Lib.hid (HC.out.snt hl2 hn2 hs2 (fun g hg => hg))
      have HF2 := Lib.hid (fsd HF.out hl2 (fun g hg => by rcases hg with e | e; exact Or.inl e; exact Or.inr (Or.inr (Or.inr (Or.inl e)))) hn2 (Nxt.refl _ _))
      rw [HALL.out] at HC2
      clear hs2 hl2 hn2 CS
      go_wp2_with fail
      go_meet
      case rel => exact ⟨v', cs', by rw [HZ.out], HC2, HF2⟩
    · skip
      have hiz : ¬ (i : Int) < (K : Int) := by omega
      have hmm : min (i + 1) D.length = sN := by rw [HSN.out, ← HKD.out]; omega
      go_wp2_with fail
      go_meet
      case rel => exact ⟨v, cs, by rw [hmm], by rw [hmm]; exact HC, HF⟩
  case rest =>
    clear HC HF
    obtain ⟨v, cs, rfl, HC, HF⟩ := hcut
    obtain ⟨sM, hsM⟩ : ∃ sM, sM = min (i + 1) D.length := ⟨_, rfl⟩
    rw [← hsM] at HC
    rw [← hsM]
    have HSM := Lib.hid (show sM = min (i + 1) K ∧ sM ≤ 150 by rw [hsM, ← HKD.out]; exact ⟨rfl, by omega⟩)
    have HSD := Lib.hid hsM
    clear hsM
    have hlen : (D.take sM).length = sM := by rw [List.length_take, ← HKD.out]; have := HSM.out; omega
    have hlen2 := hlen
    have HBL := Lib.hid (show ∀ x ∈ D.take sM, x.length ≤ 100000000 from fun x hx => HL.out x (List.mem_of_mem_take hx))
    obtain ⟨tl, htl⟩ : ∃ tl, tl = toldF win (D.take sM).length ack := ⟨_, rfl⟩
    have HTL := Lib.hid htl
    have HTT := Lib.hid HC.out.snd.toldF
    rw [← htl, hlen] at HTT
    have OF := Lib.hid (OP.fresh wc)
    have BF := Lib.hid (below_alloc wc (.cells #[] 49))
    have SF := Lib.hid ((HC.out.later BF.out).fcel)
    have LF := Lib.hid (show fcs.length = nf * 2 by rw [HC.out.fpk.1, HNF.out])
    have OO := Lib.hid HC.out.fpk.one'
    have HNL := Lib.hid (show nf ≤ 70 * 450 by have := HLE.out; omega)
    obtain ⟨U1, hU1⟩ : ∃ W0 : World, W0 = wc.alloc (.cells #[] 49) := ⟨_, rfl⟩
    rw [← hU1] at OF BF SF
    have HU1 := Lib.hid hU1
    clear hU1 htl hlen
    go_wp2_with (first
      | (refine wpList_emptyP rfl rfl ?_; rw [← HU1.out])
      | (at_builtin; refine wpList_append_pk rfl _ _ rfl wc.heap.size (.slice (some ⟨wc.heap.size, 0, none⟩) 0 0) 0 [] rfl OF.out fa nf fc fcs LF.out rfl SF.out OO.out (by have := HNL.out; omega) BF.out.size ?_; intro v5 U2 hrow5 hg5 hat5; obtain ⟨a5, n5, c5, e5⟩ := own_slice hrow5; subst e5
         have O5 := Lib.hid hrow5
         have BE := Lib.hid (show Below wc.heap.size wc U2 from below_grown BF.out BF.out.size hg5 (fun k hk => (OF.out.lt hk).1))
         clear hrow5 hg5 hat5))
    refine Calls.mono (fresh_any U2 (HC.out.snd.later BE.out) HBL.out tl HTL.out) ?_
    rintro e U3 ⟨a, n, c, rfl, hn, hnc, ⟨rcs, hce, hpk⟩, hs3, hl3⟩
    have HNN := Lib.hid hn
    have HNT := Lib.hid (show n ≤ 64 by have := HTT.out; have := HLE.out; omega)
    have LC := Lib.hid hce
    have LP := Lib.hid hpk
    have LL := Lib.hid (show rcs.length = n * 2 by rw [hpk.1, pkts_length, hn])
    have LO := Lib.hid hpk.one'
    have HS3 := Lib.hid hs3
    have HL3 := Lib.hid hl3
    have BZ := Lib.hid (show wc.heap.size ≤ U3.heap.size from Nat.le_trans BE.out.size hl3.size)
    have O5' := Lib.hid (show OP U3 wc.heap.size (.slice a5 n5 c5) (0 + nf) ([] ++ fcs) from O5.out.keep fun g hg => hl3.block g (O5.out.lt hg).2 (by have := (O5.out.lt hg).1; have := HC.out.snd.lt; omega))
    have ho5 : ∀ k, (Value.slice a5 n5 c5).ownBlock = some k → wc.heap.size ≤ k ∧ k < U2.heap.size := fun k hk => O5.out.lt hk
    have HO5 := Lib.hid ho5
    clear hn hnc hce hpk hs3 hl3 ho5
    obtain ⟨nf1, hnf1⟩ : ∃ nf1, nf1 = 0 + nf + n := ⟨_, rfl⟩
    have HN1 := Lib.hid hnf1
    clear hnf1
    have hsm := HSM.out.1
    have htl2 := HTL.out
    rw [hlen2] at htl2
    have hn1 := HN1.out
    have hn2 := HNN.out
    have hn0 : nf1 ≠ 0 := by
      rw [hn1, hn2, htl2, hsm]
      omega
    clear hsm htl2 hn1 hn2 hnz hlen2
    have hiz : ¬ (N : Int) ≤ (i : Int) := by omega
    have hn0z : ¬ (nf1 : Int) = 0 := by omega
    have hn0b : ((nf1 : Int) == 0) = false := by rw [beq_eq_false_iff_ne]; exact hn0z
    have hn0d : decide ((nf1 : Int) = 0) = false := by rw [decide_eq_false_iff_not]; exact hn0z
    have hizd : decide ((N : Int) ≤ (i : Int)) = false := by rw [decide_eq_false_iff_not]; exact hiz
    have CPN := Lib.hid (fun W => pick_any dn nf1 k3 k4 (by omega) (by have := HNL.out; have := HNT.out; have := HN1.out; omega) W)
    obtain ⟨k, hk9⟩ : ∃ k, k = pickN dn nf1 := ⟨_, rfl⟩
    have hkl : k < nf1 := by rw [hk9]; exact pickN_lt _ (by omega)
    rw [← hk9] at CPN
    have CPK := Lib.hid (fun W => pick_any dw 5 k1 k2 (by omega) (by omega) W)
    rw [hkk] at CPK
    clear hk9 hkk
    go_wp2_with (first
      | (at_builtin; refine wpList_append_pk rfl _ _ rfl wc.heap.size (.slice a5 n5 c5) (0 + nf) ([] ++ fcs) rfl O5'.out a n c rcs LL.out rfl LC.out LO.out (by have := HNL.out; have := HNT.out; omega) BZ.out ?_; intro v6 U4 hrow6 hg6 hat6; obtain ⟨a6, n6, c6, e6⟩ := own_slice hrow6; subst e6
         have O6 := Lib.hid hrow6
         have G6 := Lib.hid (show U3.grownBy U4 (Value.slice a5 n5 c5).ownBlock from hg6)
         obtain ⟨hc4, hl4⟩ := on_fresh HC.out BE.out HS3.out HL3.out G6.out (fun k hk => (HO5.out k hk).1)
         have HC4 := Lib.hid hc4
         have HL4 := Lib.hid hl4
         have HF4 := Lib.hid (fsd HF.out hl4 (fun g hg => Or.inl hg) (Nxt.refl _ _) (Nxt.refl _ _))
         have LP4 := Lib.hid (show PkV U4 (Dt U4 p r r v va) rcs (pkts (D.take sM) told tl) from LP.out.far fun g hg => ⟨HC.out.new (Nat.le_trans BE.out.size hg.1) (Nat.lt_of_lt_of_le hg.2 G6.out.size), G6.out.block g hg.2 (fun e => by have := (HO5.out g e.symm).2; have := hg.1; omega)⟩)
         have LC4 := Lib.hid (show CeAt U4 (Dt U4 p r r v va) a6 ([] ++ fcs ++ rcs) from O6.out.dt fun g h1 h2 => HC.out.new h1 h2)
         obtain ⟨o6a, o6b, -⟩ := O6.out.cells
         have e6 : n6 = nf1 := o6a.trans HN1.out.symm
         subst e6
         obtain ⟨fl1, hfl1⟩ : ∃ x, x = fl ++ pkts (D.take sM) told tl := ⟨_, rfl⟩
         have HNF1 := Lib.hid (show n6 = fl1.length by rw [hfl1, List.length_append, pkts_length, ← HNF.out, HN1.out, HNN.out]; omega)
         have HCa := Lib.hid (show Co w p r r win U4 v cs va gcs (D.take sM) ack tl want a6 c6 ([] ++ fcs ++ rcs) fl1 from HC4.out.flew LC4.out (by rw [hfl1, List.nil_append]; exact HC4.out.fpk.app LP4.out) (by rw [← HNF1.out, HN1.out]; exact o6b))
         have HB1 := Lib.hid (show ack ≤ want ∧ want ≤ tl ∧ tl ≤ K ∧ n6 ≤ 70 * i + 64 ∧ ∀ q ∈ fl1, q.1 < tl ∧ q.2 = D.getD q.1 [] by
           have h1 := HLE.out
           have h2 := HTT.out
           have h3 := HNT.out
           have h4 := HSM.out
           have h9 := HN1.out
           refine ⟨h1.2.2.2.2.1, by omega, by omega, by omega, fun q hq => ?_⟩
           rw [hfl1] at hq
           rcases List.mem_append.1 hq with h | h
           · obtain ⟨h5, h6⟩ := HB.out.2.2.2 q h
             exact ⟨by omega, h6⟩
           · obtain ⟨j, hj, rfl⟩ := List.getElem_of_mem h
             rw [pkts_length] at hj
             rw [pkts_get]
             refine ⟨by dsimp only; omega, ?_⟩
             dsimp only
             rw [List.getD_eq_getElem?_getD, List.getD_eq_getElem?_getD, List.getElem?_take_of_lt (by omega)])
         have e0 := (HCa.out.bel.cell (p := ⟨gd, od + i * 4, none⟩) hgd2).trans x0
         have e1 := (HCa.out.bel.cell (p := ⟨gd, od + i * 4 + 1, none⟩) hgd2).trans x1
         clear hrow6 hg6 hat6 hc4 hl4 o6a o6b hfl1))
    rw [show ([] ++ fcs ++ rcs : List Value) = fcs ++ rcs by rw [List.nil_append]] at HCa
    obtain ⟨fcs1, hfcs1⟩ : ∃ x, x = fcs ++ rcs := ⟨_, rfl⟩
    rw [← hfcs1] at HCa
    clear hfcs1 HC HF HC4 HB O6 G6 O5 O5' OF BF SF LF OO HU1 BE LC LP LL LO HS3 HL3 BZ HO5 LP4 LC4 HNF HNN HNT HN1
    have HK := Lib.hid hkl
    clear x0 x1
    refine Calls.mono (CPN.out U4) ?_
    rintro e wq ⟨rfl, rfl⟩
    obtain ⟨gf, of, efa, hgf, hcf⟩ := HCa.out.fcel (by rw [HCa.out.fpk.1, ← HNF1.out]; omega)
    obtain ⟨ba, bc, y1, y2, hbc, hby⟩ := HCa.out.fpk.2 k (by rw [← HNF1.out]; exact hkl)
    have hqb := HB1.out.2.2.2.2 _ (List.getElem_mem (show k < fl1.length by rw [← HNF1.out]; exact hkl))
    obtain ⟨pk, hpk⟩ : ∃ x, x = fl1[k]'(by rw [← HNF1.out]; exact hkl) := ⟨_, rfl⟩
    have HPM := Lib.hid (show pk ∈ fl1 by rw [hpk]; exact List.getElem_mem _)
    rw [← hpk] at hqb y1 y2 hbc hby
    obtain ⟨sq, bb⟩ := pk
    dsimp only at hqb y1 y2 hbc hby
    have z1 := hcf _ _ y1
    have z2 := hcf _ _ y2
    rw [← Nat.add_assoc] at z2
    obtain ⟨bl, hbl⟩ : ∃ x, x = bb.length := ⟨_, rfl⟩
    rw [← hbl] at z2 hbc
    have HBb := Lib.hid hbl
    have HBC := Lib.hid hbc
    have HBY := Lib.hid hby
    have HSQ := Lib.hid (show sq < tl ∧ bb = D.getD sq [] ∧ tl ≤ K ∧ bb.length ≤ 100000000 from ⟨hqb.1, hqb.2, HB1.out.2.2.1, by
      rw [hqb.2, List.getD_eq_getElem?_getD, List.getElem?_eq_getElem (by rw [← HKD.out]; have := hqb.1; have := HB1.out.2.2.1; omega)]
      exact HL.out _ (List.getElem_mem _)⟩)
    obtain ⟨W2, hW2⟩ : ∃ W0 : World, W0 = U4.alloc (.cells #[.int .u64 (sq : Int), .slice ba bl bc] 49) := ⟨_, rfl⟩
    obtain ⟨pb, hpb⟩ : ∃ x, x = U4.heap.size := ⟨_, rfl⟩
    have hbw : Below U4.heap.size U4 W2 := by rw [hW2]; exact below_alloc _ _
    have HC2 := Lib.hid (HCa.out.later hbw)
    have HF2 := Lib.hid (fsd_later HF4.out hbw)
    have HBY2 := Lib.hid (show BytesAt W2 (Dt W2 p r r v va) ba bb from HBY.out.far fun g hg => ⟨hg.keep hbw.size (Nxt.refl _ _) (Nxt.refl _ _), hbw.block g hg.1⟩)
    have PB := Lib.hid (show Bq W2 pb 49 #[.int .u64 (sq : Int), .slice ba bl bc] by rw [hW2, hpb]; exact Bq.new _ _ _)
    have cX : (U4.alloc (.cells #[.int .u64 (sq : Int), .slice ba bl bc] 49)).cell? ⟨gd, od + i * 4, none⟩ = some (.int .i64 dw) := by
      rw [← hW2]
      exact (hbw.cell (p := ⟨gd, od + i * 4, none⟩) (Nat.lt_of_lt_of_le hgd2 HCa.out.bel.size)).trans e0
    have p0' : W2.cell? ⟨pb, 0, none⟩ = some (.int .u64 (sq : Int)) := by have h := PB.out; unfold Bq at h; simp [World.cell?, h]
    have p1' : W2.cell? ⟨pb, 1, none⟩ = some (.slice ba bl bc) := by have h := PB.out; unfold Bq at h; simp [World.cell?, h]
    have HW2 := Lib.hid hW2
    have HPE := Lib.hid hpb
    subst efa
    clear y1 y2 hcf hbl hbc hby hqb hW2 hpb hbw hgf hpk HCa HF4
    go_wp2_with fail
    rw [← HW2.out, ← HPE.out]
    clear z1 z2 cX e0 e1
    try go_wp2_with fail
    refine Calls.mono (CPK.out W2) ?_
    rintro e wq ⟨rfl, rfl⟩
    clear CPK CPN
    have hx64 : want < 18446744073709551616 := by have := HB1.out; omega
    by_cases hyes : ack < want
    · skip
      go_wp2_with fail
      refine Calls.mono (want_any r want W2 HC2.out.rcv) ?_
      rintro e wq ⟨rfl, rfl⟩
      go_wp2_with fail
      refine Calls.mono (ack_yes want W2 HC2.out.snd hyes HB1.out.2.1) ?_
      rintro e W3 ⟨rfl, v', cs', hs3, hl3, hn3⟩
      have HC3 := Lib.hid (HC2.out.snt hl3 hn3 hs3 (fun g hg => Or.inl hg))
      have HF3 := Lib.hid (fsd HF2.out hl3 (fun g hg => by rcases hg with e | e; exact Or.inl e; exact Or.inr (Or.inr (Or.inr (Or.inl e)))) hn3 (Nxt.refl _ _))
      have HBn := Lib.hid (show OnB (i + 1) D want want tl fl1 from ⟨Nat.le_refl _, HB1.out.2.1, by rw [← HNF1.out]; have := HB1.out.2.2.2.1; omega, HB1.out.2.2.2.2⟩)
      clear hs3 hl3 hn3
      go_wp2_with fail
      apply hend
      · exact ⟨_, i + 1, want, tl, want, v', cs', gcs, (some ⟨gf, of, none⟩), c6, fcs1, fl1, rfl, by go_num, by rw [← HSD.out], by rw [← HNF1.out], by omega, by rw [← HSD.out]; exact HC3, HF3, HBn⟩
      · simp [intOf]; omega
    · skip
      go_wp2_with fail
      refine Calls.mono (want_any r want W2 HC2.out.rcv) ?_
      rintro e wq ⟨rfl, rfl⟩
      go_wp2_with fail
      refine Calls.mono (ack_no want W2 HC2.out.snd (by omega) hx64) ?_
      rintro e W3 ⟨rfl, hb3⟩
      have HC3 := Lib.hid (HC2.out.later hb3)
      have HF3 := Lib.hid (fsd_later HF2.out hb3)
      have HBn := Lib.hid (show OnB (i + 1) D ack want tl fl1 from ⟨HB1.out.1, HB1.out.2.1, by rw [← HNF1.out]; have := HB1.out.2.2.2.1; omega, HB1.out.2.2.2.2⟩)
      clear hb3
      go_wp2_with fail
      apply hend
      · exact ⟨_, i + 1, ack, tl, want, v, cs, gcs, (some ⟨gf, of, none⟩), c6, fcs1, fl1, rfl, by go_num, by rw [← HSD.out], by rw [← HNF1.out], by omega, by rw [← HSD.out]; exact HC3, HF3, HBn⟩
      · simp [intOf]; omega
end Go.Proofs.Ytnnoampmcghnaaa.Lk
