/-
  A round of LinkPlays, the deed's number 2: the relation is kept. (The loop's body is taken out of the program's own text.)
-/
import Derived.Test.YtnnoampmcghnaaaLkPyBody
namespace Go.Proofs.Ytnnoampmcghnaaa.Lk
open Go.RowKit Go.Proofs.Ytnnoampmcghnaaa.Fl Go.Proofs.Ytnnoampmcghnaaa.Wi Go.Proofs.Ytnnoampmcghnaaa.Fr
set_option linter.unusedVariables false
set_option linter.unusedSimpArgs false
set_option maxHeartbeats 16000000
set_option maxRecDepth 1000000
theorem py_arm2 (w : World) (p r m win N dc gd od : Nat) (wr : World) (i want ack told nf : Nat) (v va : Value) (cs lcs : List Value) (all : List (List UInt8)) (fa : Option Addr) (fc : Nat) (fcs : List Value) (fl : List Pk) (dw dn : Int) (dO : Bool) (db : List UInt8) (xa : Option Addr) (xl xc : Nat)
    (hN4 : N ≤ 400) (hw1 : 1 ≤ win) (hw2 : win ≤ 64) (hpr : p < r) (hrm : r < m) (HC : Hid (Co w p r m win wr v cs va lcs all ack told want fa fc fcs fl)) (HR : Hid (Rf wr m win va ack told)) (HF : Hid (FsV wr (Old w.heap.size) lcs all)) (HB : Hid (PyB i N all want fl)) (HNF : Hid (nf = fl.length)) (hlt : i < N)
    (k1 : -9223372036854775808 ≤ dw) (k2 : dw ≤ 9223372036854775807) (k3 : -9223372036854775808 ≤ dn) (k4 : dn ≤ 9223372036854775807) (hxc : xl ≤ xc) (HXL : Hid (xl = db.length)) (HXB : Hid (BytesAt w (Old w.heap.size) xa db)) (hgd2 : gd < w.heap.size)
    (e0 : wr.cell? ⟨gd, od + i * 4, none⟩ = some (.int .i64 dw)) (e1 : wr.cell? ⟨gd, od + i * 4 + 1, none⟩ = some (.int .i64 dn)) (e2 : wr.cell? ⟨gd, od + i * 4 + 2, none⟩ = some (.bool dO)) (e3 : wr.cell? ⟨gd, od + i * 4 + 3, none⟩ = some (.slice xa xl xc)) (hx200 : xl ≤ 200)
    (hkk : pickN dw 6 = 2) (s2 s3 s4 s13 s14 s15 s16 s17 s18 s19 s20 s21 s22 s23 s24 s25 s26 s27 s28 s29 s30 s31 s32 s33 s34 s35 s36 s37 s38 s39 s40 s41 s42 s43 s44 s45 s46 s47 s48 s49 s50 s51 s52 s53 s54 s55 s56 s57 s58 s59 s60 s61 s62 s63 s64 s65 s66 s67 s68 s69 s70 s71 s72 s73 s74 s75 s76 s77 s78 s79 s80 s81 s82 s83 s84 s85 s86 s87 s88 s89 s90 s91 s92 s93 s94 s95 s96 s97 s98 s99 s100 s101 s102 s103 s104 s105 s106 s107 s108 s109 s110 s111 s112 s113 s114 s115 s116 s117 s118 s119 s120 s121 s122 s123 s124 s125 s126 s127 s128 s129 s130 s131 s132 s133 s134 s135 s136 s137 s138 s139 s140 s141 s142 s143 s144 s145 s146 s147 s148 s149 s150 s151 s152 s153 s154 s155 s156 s157 s158 s159 s160 s161 s162 s163 s164 s165 s166 s167 s168 s169 s170 s171 s172 s173 s174 s175 s176 s177 s178 s179 s180 s181 s182 s183 s184 s185 s186 s187 s188 s189 s190 s191 s192 s193 s194 s195 s196 s197 s198 s199 s200 s201 s202 s203 s204 s205 s206 s207 s208 s209 s210 s211 s212 s213 s214 s215 s216 s217 s218 s219 s220 s221 s222 s223 s224 s225 s226 s227 s228 s229 s230 s231 s232 s233 s234 s235 s236 s237 s238 s239 s240 s241 s242 s243 s244 s245 s246 s247 s248 : Value) (X K0 : Act → World → Prop) (R0 : Ending → World → Prop)
    (hend : ∀ (t4 t10 t11 t12 t13 t14 t15 t16 t17 t18 t19 t20 t21 t22 t23 t78 t79 t80 t81 t82 t83 t84 t85 t86 t87 t88 t89 t90 t91 t92 t93 t94 t95 t96 t97 t98 t99 t100 t101 t102 t103 t104 t105 t106 t107 t108 t109 t110 t111 t112 t113 t114 t115 t116 t117 t118 t119 t120 t121 t122 t123 t124 t125 t126 t127 t128 t129 t130 t131 t132 t133 t134 t135 t136 t137 t138 t139 t140 t141 t142 t143 t144 t145 t146 t147 t148 t149 t150 t151 t152 t153 t154 t155 t156 t157 t158 t159 t160 t161 t162 t163 t164 t165 t166 t167 t168 t169 t170 t171 t172 t173 t174 t175 t176 t177 t178 t179 t180 t181 t182 t183 t184 t185 t186 t187 t188 t189 t190 t191 t192 t193 t194 t195 t196 t197 t198 t199 t200 t201 t202 t203 t204 t205 t206 t207 t208 t209 t210 t211 t212 t213 t214 t215 t216 t217 t218 t219 t220 t221 t222 t223 t224 t225 t226 t227 t228 t229 t230 t231 t232 t233 t234 t235 t236 t237 t238 t239 t240 t241 t242 t243 t244 t245 t246 t247 : Value) (w' : World), PyR w p r m win N t12 t10 t11 w' → N - (intOf t12).toNat < N - i → X { tmps := #[.int .i64 (win : Int), .slice (some ⟨gd, od, none⟩) N dc, s2, s3, t4, .bool true, .pointer (some ⟨p, 0, none⟩), .nilIface, .pointer (some ⟨r, 0, none⟩), .pointer (some ⟨m, 0, none⟩), t10, t11, t12, t13, t14, t15, t16, t17, t18, t19, t20, t21, t22, t23, s24, s25, s26, s27, s28, s29, s30, s31, s32, s33, s34, s35, s36, s37, s38, s39, s40, s41, s42, s43, s44, s45, s46, s47, s48, s49, s50, s51, s52, s53, s54, s55, s56, s57, s58, s59, s60, s61, s62, s63, s64, s65, s66, s67, s68, s69, s70, s71, s72, s73, s74, s75, s76, s77, t78, t79, t80, t81, t82, t83, t84, t85, t86, t87, t88, t89, t90, t91, t92, t93, t94, t95, t96, t97, t98, t99, t100, t101, t102, t103, t104, t105, t106, t107, t108, t109, t110, t111, t112, t113, t114, t115, t116, t117, t118, t119, t120, t121, t122, t123, t124, t125, t126, t127, t128, t129, t130, t131, t132, t133, t134, t135, t136, t137, t138, t139, t140, t141, t142, t143, t144, t145, t146, t147, t148, t149, t150, t151, t152, t153, t154, t155, t156, t157, t158, t159, t160, t161, t162, t163, t164, t165, t166, t167, t168, t169, t170, t171, t172, t173, t174, t175, t176, t177, t178, t179, t180, t181, t182, t183, t184, t185, t186, t187, t188, t189, t190, t191, t192, t193, t194, t195, t196, t197, t198, t199, t200, t201, t202, t203, t204, t205, t206, t207, t208, t209, t210, t211, t212, t213, t214, t215, t216, t217, t218, t219, t220, t221, t222, t223, t224, t225, t226, t227, t228, t229, t230, t231, t232, t233, t234, t235, t236, t237, t238, t239, t240, t241, t242, t243, t244, t245, t246, t247, s248], defers := [] } w') :
    Code.wp Try.prog bodyPy (Exit.then X (Exit.inBlock 0 (Exit.then K0 (bodyPost Try.prog Try.f3 R0)))) { tmps := #[.int .i64 (win : Int), .slice (some ⟨gd, od, none⟩) N dc, s2, s3, s4, .bool true, .pointer (some ⟨p, 0, none⟩), .nilIface, .pointer (some ⟨r, 0, none⟩), .pointer (some ⟨m, 0, none⟩), .int .u64 (want : Int), .slice fa nf fc, .int .i64 (i : Int), s13, s14, s15, s16, s17, s18, s19, s20, s21, s22, s23, s24, s25, s26, s27, s28, s29, s30, s31, s32, s33, s34, s35, s36, s37, s38, s39, s40, s41, s42, s43, s44, s45, s46, s47, s48, s49, s50, s51, s52, s53, s54, s55, s56, s57, s58, s59, s60, s61, s62, s63, s64, s65, s66, s67, s68, s69, s70, s71, s72, s73, s74, s75, s76, s77, s78, s79, s80, s81, s82, s83, s84, s85, s86, s87, s88, s89, s90, s91, s92, s93, s94, s95, s96, s97, s98, s99, s100, s101, s102, s103, s104, s105, s106, s107, s108, s109, s110, s111, s112, s113, s114, s115, s116, s117, s118, s119, s120, s121, s122, s123, s124, s125, s126, s127, s128, s129, s130, s131, s132, s133, s134, s135, s136, s137, s138, s139, s140, s141, s142, s143, s144, s145, s146, s147, s148, s149, s150, s151, s152, s153, s154, s155, s156, s157, s158, s159, s160, s161, s162, s163, s164, s165, s166, s167, s168, s169, s170, s171, s172, s173, s174, s175, s176, s177, s178, s179, s180, s181, s182, s183, s184, s185, s186, s187, s188, s189, s190, s191, s192, s193, s194, s195, s196, s197, s198, s199, s200, s201, s202, s203, s204, s205, s206, s207, s208, s209, s210, s211, s212, s213, s214, s215, s216, s217, s218, s219, s220, s221, s222, s223, s224, s225, s226, s227, s228, s229, s230, s231, s232, s233, s234, s235, s236, s237, s238, s239, s240, s241, s242, s243, s244, s245, s246, s247, s248], defers := [] } wr := by
  have q4 := nee_nil
  have q5 := nee_88
  have hlz : (i : Int) < (N : Int) := by omega
  have h200 : ¬ (200 : Int) < (xl : Int) := by omega
  obtain ⟨W1, hW1⟩ : ∃ W0 : World, W0 = wr.alloc (.cells #[.int .i64 dw, .int .i64 dn, .bool dO, .slice xa xl xc] 40) := ⟨_, rfl⟩
  obtain ⟨xb, hxb⟩ : ∃ xb, xb = wr.heap.size := ⟨_, rfl⟩
  have XB := Lib.hid (show Bq W1 xb 40 #[.int .i64 dw, .int .i64 dn, .bool dO, .slice xa xl xc] by rw [hW1, hxb]; exact Bq.new _ _ _)
  have hbw : Below wr.heap.size wr W1 := by rw [hW1]; exact below_alloc _ _
  have HC1 := Lib.hid (HC.out.later hbw)
  have HR1 := Lib.hid (HR.out.later hbw)
  have HF1 := Lib.hid (fs_later HF.out HC.out.bel.size hbw)
  have HXM := Lib.hid (show m < xb by rw [hxb]; exact HC.out.hmz)
  have HXV := Lib.hid (show ∀ g, v.ownBlock = some g → g < xb from fun g hg => by rw [hxb]; exact (HC.out.snd.own hg).2)
  have HXA := Lib.hid (show ∀ g, va.ownBlock = some g → g < xb from fun g hg => by rw [hxb]; exact (HC.out.row.lt hg).2)
  have HXB1 := Lib.hid (show BytesAt W1 (Old w.heap.size) xa db from HXB.out.far fun g hg => ⟨hg, HC1.out.bel.block g hg⟩)
  have c3 := XB.out.c4.2.2.2
  have HW1 := Lib.hid hW1
  have HXE := Lib.hid hxb
  clear hW1 hbw HC HR HF hxb
  have CPK := Lib.hid (fun W => pick_any dw 6 k1 k2 (by omega) (by omega) W)
  rw [hkk] at CPK
  clear hkk
  conv => arg 2; whnf
  go_wp2_with fail
  rw [← HW1.out, ← HXE.out]
  go_wp2_with fail
  refine Calls.mono (CPK.out W1) ?_
  rintro e wq ⟨rfl, rfl⟩
  have hN400 : i < 400 := by omega
  obtain ⟨q, hq⟩ : ∃ q, q = all.length - ack := ⟨_, rfl⟩
  have HQ := Lib.hid hq
  have HLE := Lib.hid (show ack ≤ told ∧ told ≤ all.length ∧ told ≤ ack + win ∧ all.length ≤ 100000 ∧ all.length ≤ i ∧ fl.length ≤ 64 * i ∧ want ≤ i from ⟨HC1.out.snd.hat, HC1.out.snd.htl, HC1.out.snd.htw, HC1.out.snd.hln, HB.out.2.1, HB.out.2.2.2.2.1, HB.out.2.2.2.1⟩)
  clear hq
  clear CPK c3 XB
  have HBL := Lib.hid (show ∀ x ∈ all, x.length ≤ 100000000 from fun x hx => by have := HB.out.2.2.1 x hx; omega)
  have CF := Lib.hid (again_any W1 HC1.out.snd HBL.out)
  go_wp2_with fail
  refine Calls.mono CF.out ?_
  rintro e W2 ⟨a, n, c, rfl, hn, hnc, ⟨rcs, hce, hpk⟩, hs2, hb2⟩
  have HC2 := Lib.hid (HC1.out.later hb2)
  have HR2 := Lib.hid (HR1.out.later hb2)
  have HF2 := Lib.hid (fs_later HF1.out HC1.out.bel.size hb2)
  have LC2 := Lib.hid (show CeAt W2 (Dt W2 p r m v va) a rcs from hce.far fun g hg => ⟨HC1.out.new hg.1 hg.2, rfl⟩)
  have LP2 := Lib.hid (show PkV W2 (Dt W2 p r m v va) rcs (pkts all ack told) from hpk.far fun g hg => ⟨HC1.out.new hg.1 hg.2, rfl⟩)
  have HNN2 := Lib.hid hn
  have HNC := Lib.hid hnc
  have CP := Lib.hid (py_pk (n := n) (c := c) (W := W2.drew) (show Co w p r m win W2.drew v cs va lcs all ack told want fa fc fcs fl from HC2.out.later ⟨rfl, rfl, rfl, Nat.le_refl _, fun _ _ => rfl⟩) (show Rf W2.drew m win va ack told from HR2.out) (show FsV W2.drew (Old w.heap.size) lcs all from HF2.out.far fun g hg => ⟨hg, rfl⟩) HC1.out.snd.hln ack told HC1.out.snd.hat HC1.out.snd.htl hn (show CeAt W2.drew (Dt W2.drew p r m v va) a rcs from LC2.out.far fun g hg => ⟨hg, rfl⟩) (show PkV W2.drew (Dt W2.drew p r m v va) rcs (pkts all ack told) from LP2.out.far fun g hg => ⟨hg, rfl⟩))
  obtain ⟨-, -, y2, y3⟩ := HR2.out.cells
  clear hn hnc hce hpk hs2 hb2 CF
  go_wp2_with fail
  go_still_tail 10, (by kernel_rfl)
  change wpList _ _ _ _ _ W2.drew
  go_wp2_with fail
  refine Calls.mono CP.out ?_
  rintro e W4 ⟨rfl, hb4'⟩
  have hb4 : Below W2.heap.size W2 W4 := ⟨hb4'.os, hb4'.tape, hb4'.output, hb4'.size, hb4'.block⟩
  have HC4 := Lib.hid (HC2.out.later hb4)
  have HR4' := Lib.hid (HR2.out.later hb4)
  have HF4' := Lib.hid (fs_later HF2.out HC2.out.bel.size hb4)
  have LC4 := Lib.hid (show CeAt W4 (Dt W4 p r m v va) a rcs from LC2.out.far fun g hg => ⟨hg.keep hb4.size (Nxt.refl _ _) (Nxt.refl _ _), hb4.block g hg.1⟩)
  have LP4 := Lib.hid (show PkV W4 (Dt W4 p r m v va) rcs (pkts all ack told) from LP2.out.far fun g hg => ⟨hg.keep hb4.size (Nxt.refl _ _) (Nxt.refl _ _), hb4.block g hg.1⟩)
  have HNT := Lib.hid (show n ≤ 64 by have := HNN2.out; have := HLE.out; omega)
  have LL := Lib.hid (show rcs.length = n * 2 by rw [LP4.out.1, pkts_length, HNN2.out])
  have LO := Lib.hid LP4.out.one'
  have hn64 := HNT.out
  have hnf := HNF.out
  have hfl := HLE.out
  have hnf9 : nf ≤ 64 * 400 := by omega
  clear hnf hfl hb4 hb4' CP y2 y3
  by_cases h500 : nf < 500
  · have h5z : (nf : Int) < (500 : Int) := by omega
    have OF := Lib.hid (OP.fresh W4)
    have BF := Lib.hid (below_alloc W4 (.cells #[] 49))
    have SF := Lib.hid ((HC4.out.later BF.out).fcel)
    have LF := Lib.hid (show fcs.length = nf * 2 by rw [HC4.out.fpk.1, HNF.out])
    have OO := Lib.hid HC4.out.fpk.one'
    obtain ⟨U1, hU1⟩ : ∃ W0 : World, W0 = W4.alloc (.cells #[] 49) := ⟨_, rfl⟩
    rw [← hU1] at OF BF SF
    have HU1 := Lib.hid hU1
    clear hU1
    go_wp2_with (first
      | (refine wpList_emptyP rfl rfl ?_; rw [← HU1.out])
      | (at_builtin; refine wpList_append_pk rfl _ _ rfl W4.heap.size (.slice (some ⟨W4.heap.size, 0, none⟩) 0 0) 0 [] rfl OF.out fa nf fc fcs LF.out rfl SF.out OO.out (by omega) BF.out.size ?_; intro v5 U2 hrow5 hg5 hat5; obtain ⟨a5, n5, c5, e5⟩ := own_slice hrow5; subst e5
         have O5 := Lib.hid hrow5
         have BE := Lib.hid (show Below W4.heap.size W4 U2 from below_grown BF.out BF.out.size hg5 (fun k hk => (OF.out.lt hk).1))
         have SE := Lib.hid (show CeAt U2 (Dt U2 p r m v va) a rcs from LC4.out.far fun g hg => ⟨hg.keep BE.out.size (Nxt.refl _ _) (Nxt.refl _ _), BE.out.block g hg.1⟩)
         clear hrow5 hg5 hat5)
      | (at_builtin; refine wpList_append_pk rfl _ _ rfl W4.heap.size (.slice a5 n5 c5) (0 + nf) ([] ++ fcs) rfl O5.out a n c rcs LL.out rfl SE.out LO.out (by omega) BE.out.size ?_; intro v6 U3 hrow6 hg6 hat6; obtain ⟨a6, n6, c6, e6⟩ := own_slice hrow6; subst e6
         have O6 := Lib.hid hrow6
         have BG := Lib.hid (show Below W4.heap.size W4 U3 from below_grown BE.out BE.out.size hg6 (fun k hk => (O5.out.lt hk).1))
         clear hrow6 hg6 hat6))
    obtain ⟨hn6, hc6⟩ := HC4.out.flewN (nfl := fl ++ pkts all ack told) BG.out O6.out (by rw [List.nil_append]; exact HC4.out.fpk.app LP4.out) (by rw [List.length_append, pkts_length, ← HNF.out, HNN2.out]; omega)
    have HC6 := Lib.hid hc6
    have HNN := Lib.hid hn6
    have HR6 := Lib.hid (HR4'.out.later BG.out)
    have HF6 := Lib.hid (fs_later HF4'.out HC4.out.bel.size BG.out)
    have HB6 := Lib.hid (show PyB (i + 1) N all want (fl ++ pkts all ack told) from HB.out.succ hlt (Nat.le_succ _) (fun x hx => Or.inl hx) (Nat.le_succ _) (by rw [List.length_append, pkts_length, ← HNN2.out]; omega) (fun x hx => by
      rcases List.mem_append.1 hx with h | h
      · exact Or.inl h
      · obtain ⟨k, hk, rfl⟩ := List.getElem_of_mem h
        rw [pkts_length] at hk
        rw [pkts_get]
        have h2 := HLE.out
        refine Or.inr ⟨?_, by dsimp only; omega⟩
        exact HB.out.2.2.1 _ (by rw [List.getD_eq_getElem?_getD, List.getElem?_eq_getElem (by omega)]; exact List.getElem_mem _)))
    clear hn6 hc6
    obtain ⟨q, hq1, hq2⟩ := py_tail HC6.out HR6.out HF6.out
    have T1 := Lib.hid hq1
    have T2 := Lib.hid hq2
    clear hq1 hq2
    go_wp2_with fail
    refine Calls.mono T1.out ?_
    rintro e wq ⟨rfl, rfl⟩
    go_wp2_with fail
    refine Calls.mono T2.out ?_
    rintro e wt ⟨rfl, hbt⟩
    have HCt := Lib.hid (HC6.out.later hbt)
    have HRt := Lib.hid (HR6.out.later hbt)
    have HFt := Lib.hid (fs_later HF6.out HC6.out.bel.size hbt)
    clear hbt T1 T2
    go_wp2_with fail
    refine Calls.mono (want_any r want wt HCt.out.rcv) ?_
    rintro e wq ⟨rfl, rfl⟩
    go_wp2_with fail
    apply hend
    · exact ⟨i + 1, want, ack, told, v, va, cs, lcs, all, a6, c6, fcs ++ rcs, fl ++ pkts all ack told, by go_num, rfl, by first | rfl | (rw [HNF.out]) | (rw [HNN.out]), HCt, HRt, HFt, HB6⟩
    · simp [intOf]; omega
  · have h5z : ¬ (nf : Int) < (500 : Int) := by omega
    have HB2 := Lib.hid (HB.out.succ hlt (Nat.le_succ _) (fun x hx => Or.inl hx) (Nat.le_succ _) (Nat.le_add_right _ _) (fun x hx => Or.inl hx))
    clear HNN2
    obtain ⟨q, hq1, hq2⟩ := py_tail HC4.out HR4'.out HF4'.out
    have T1 := Lib.hid hq1
    have T2 := Lib.hid hq2
    clear hq1 hq2
    go_wp2_with fail
    refine Calls.mono T1.out ?_
    rintro e wq ⟨rfl, rfl⟩
    go_wp2_with fail
    refine Calls.mono T2.out ?_
    rintro e wt ⟨rfl, hbt⟩
    have HCt := Lib.hid (HC4.out.later hbt)
    have HRt := Lib.hid (HR4'.out.later hbt)
    have HFt := Lib.hid (fs_later HF4'.out HC4.out.bel.size hbt)
    clear hbt T1 T2
    go_wp2_with fail
    refine Calls.mono (want_any r want wt HCt.out.rcv) ?_
    rintro e wq ⟨rfl, rfl⟩
    go_wp2_with fail
    apply hend
    · exact ⟨i + 1, want, ack, told, v, va, cs, lcs, all, fa, fc, fcs, fl, by go_num, rfl, by first | rfl | (rw [HNF.out]) | (rw [HNN.out]), HCt, HRt, HFt, HB2⟩
    · simp [intOf]; omega
end Go.Proofs.Ytnnoampmcghnaaa.Lk
