/-
  A round of LinkPlays, the deed's number 4: the relation is kept. (The loop's body is taken out of the program's own text.)
-/
import Derived.Test.YtnnoampmcghnaaaLkPyBody
namespace Go.Proofs.Ytnnoampmcghnaaa.Lk
open Go.RowKit Go.Proofs.Ytnnoampmcghnaaa.Fl Go.Proofs.Ytnnoampmcghnaaa.Wi Go.Proofs.Ytnnoampmcghnaaa.Fr
set_option linter.unusedVariables false
set_option linter.unusedSimpArgs false
set_option maxHeartbeats 16000000
set_option maxRecDepth 1000000
theorem py_arm4 (w : World) (p r m win N dc gd od : Nat) (wr : World) (i want ack told nf : Nat) (v va : Value) (cs lcs : List Value) (all : List (List UInt8)) (fa : Option Addr) (fc : Nat) (fcs : List Value) (fl : List Pk) (dw dn : Int) (dO : Bool) (db : List UInt8) (xa : Option Addr) (xl xc : Nat)
    (hN4 : N ≤ 400) (hw1 : 1 ≤ win) (hw2 : win ≤ 64) (hpr : p < r) (hrm : r < m) (HC : Hid (Co w p r m win wr v cs va lcs all ack told want fa fc fcs fl)) (HR : Hid (Rf wr m win va ack told)) (HF : Hid (FsV wr (Old w.heap.size) lcs all)) (HB : Hid (PyB i N all want fl)) (HNF : Hid (nf = fl.length)) (hlt : i < N)
    (k1 : -9223372036854775808 ≤ dw) (k2 : dw ≤ 9223372036854775807) (k3 : -9223372036854775808 ≤ dn) (k4 : dn ≤ 9223372036854775807) (hxc : xl ≤ xc) (HXL : Hid (xl = db.length)) (HXB : Hid (BytesAt w (Old w.heap.size) xa db)) (hgd2 : gd < w.heap.size)
    (e0 : wr.cell? ⟨gd, od + i * 4, none⟩ = some (.int .i64 dw)) (e1 : wr.cell? ⟨gd, od + i * 4 + 1, none⟩ = some (.int .i64 dn)) (e2 : wr.cell? ⟨gd, od + i * 4 + 2, none⟩ = some (.bool dO)) (e3 : wr.cell? ⟨gd, od + i * 4 + 3, none⟩ = some (.slice xa xl xc)) (hx200 : xl ≤ 200)
    (hkk : pickN dw 6 = 4) (s2 s3 s4 s13 s14 s15 s16 s17 s18 s19 s20 s21 s22 s23 s24 s25 s26 s27 s28 s29 s30 s31 s32 s33 s34 s35 s36 s37 s38 s39 s40 s41 s42 s43 s44 s45 s46 s47 s48 s49 s50 s51 s52 s53 s54 s55 s56 s57 s58 s59 s60 s61 s62 s63 s64 s65 s66 s67 s68 s69 s70 s71 s72 s73 s74 s75 s76 s77 s78 s79 s80 s81 s82 s83 s84 s85 s86 s87 s88 s89 s90 s91 s92 s93 s94 s95 s96 s97 s98 s99 s100 s101 s102 s103 s104 s105 s106 s107 s108 s109 s110 s111 s112 s113 s114 s115 s116 s117 s118 s119 s120 s121 s122 s123 s124 s125 s126 s127 s128 s129 s130 s131 s132 s133 s134 s135 s136 s137 s138 s139 s140 s141 s142 s143 s144 s145 s146 s147 s148 s149 s150 s151 s152 s153 s154 s155 s156 s157 s158 s159 s160 s161 s162 s163 s164 s165 s166 s167 s168 s169 s170 s171 s172 s173 s174 s175 s176 s177 s178 s179 s180 s181 s182 s183 s184 s185 s186 s187 s188 s189 s190 s191 s192 s193 s194 s195 s196 s197 s198 s199 s200 s201 s202 s203 s204 s205 s206 s207 s208 s209 s210 s211 s212 s213 s214 s215 s216 s217 s218 s219 s220 s221 s222 s223 s224 s225 s226 s227 s228 s229 s230 s231 s232 s233 s234 s235 s236 s237 s238 s239 s240 s241 s242 s243 s244 s245 s246 s247 s248 : Value) (X K0 : Act → World → Prop) (R0 : Ending → World → Prop)
    (hend : ∀ (t4 t10 t11 t12 t13 t14 t15 t16 t17 t18 t19 t20 t21 t22 t23 t78 t79 t80 t81 t82 t83 t84 t85 t86 t87 t88 t89 t90 t91 t92 t93 t94 t95 t96 t97 t98 t99 t100 t101 t102 t103 t104 t105 t106 t107 t108 t109 t110 t111 t112 t113 t114 t115 t116 t117 t118 t119 t120 t121 t122 t123 t124 t125 t126 t127 t128 t129 t130 t131 t132 t133 t134 t135 t136 t137 t138 t139 t140 t141 t142 t143 t144 t145 t146 t147 t148 t149 t150 t151 t152 t153 t154 t155 t156 t157 t158 t159 t160 t161 t162 t163 t164 t165 t166 t167 t168 t169 t170 t171 t172 t173 t174 t175 t176 t177 t178 t179 t180 t181 t182 t183 t184 t185 t186 t187 t188 t189 t190 t191 t192 t193 t194 t195 t196 t197 t198 t199 t200 t201 t202 t203 t204 t205 t206 t207 t208 t209 t210 t211 t212 t213 t214 t215 t216 t217 t218 t219 t220 t221 t222 t223 t224 t225 t226 t227 t228 t229 t230 t231 t232 t233 t234 t235 t236 t237 t238 t239 t240 t241 t242 t243 t244 t245 t246 t247 : Value) (w' : World), PyR w p r m win N t12 t10 t11 w' → N - (intOf t12).toNat < N - i → X { tmps := #[.int .i64 (win : Int), .slice (some ⟨gd, od, none⟩) N dc, s2, s3, t4, .bool true, .pointer (some ⟨p, 0, none⟩), .nilIface, .pointer (some ⟨r, 0, none⟩), .pointer (some ⟨m, 0, none⟩), t10, t11, t12, t13, t14, t15, t16, t17, t18, t19, t20, t21, t22, t23, s24, s25, s26, s27, s28, s29, s30, s31, s32, s33, s34, s35, s36, s37, s38, s39, s40, s41, s42, s43, s44, s45, s46, s47, s48, s49, s50, s51, s52, s53, s54, s55, s56, s57, s58, s59, s60, s61, s62, s63, s64, s65, s66, s67, s68, s69, s70, s71, s72, s73, s74, s75, s76, s77, t78, t79, t80, t81, t82, t83, t84, t85, t86, t87, t88, t89, t90, t91, t92, t93, t94, t95, t96, t97, t98, t99, t100, t101, t102, t103, t104, t105, t106, t107, t108, t109, t110, t111, t112, t113, t114, t115, t116, t117, t118, t119, t120, t121, t122, t123, t124, t125, t126, t127, t128, t129, t130, t131, t132, t133, t134, t135, t136, t137, t138, t139, t140, t141, t142, t143, t144, t145, t146, t147, t148, t149, t150, t151, t152, t153, t154, t155, t156, t157, t158, t159, t160, t161, t162, t163, t164, t165, t166, t167, t168, t169, t170, t171, t172, t173, t174, t175, t176, t177, t178, t179, t180, t181, t182, t183, t184, t185, t186, t187, t188, t189, t190, t191, t192, t193, t194, t195, t196, t197, t198, t199, t200, t201, t202, t203, t204, t205, t206, t207, t208, t209, t210, t211, t212, t213, t214, t215, t216, t217, t218, t219, t220, t221, t222, t223, t224, t225, t226, t227, t228, t229, t230, t231, t232, t233, t234, t235, t236, t237, t238, t239, t240, t241, t242, t243, t244, t245, t246, t247, s248], defers := [] } w') :
    Code.wp Try.prog bodyPy (Exit.then X (Exit.inBlock 0 (Exit.then K0 (bodyPost Try.prog Try.f3 R0)))) { tmps := #[.int .i64 (win : Int), .slice (some ⟨gd, od, none⟩) N dc, s2, s3, s4, .bool true, .pointer (some ⟨p, 0, none⟩), .nilIface, .pointer (some ⟨r, 0, none⟩), .pointer (some ⟨m, 0, none⟩), .int .u64 (want : Int), .slice fa nf fc, .int .i64 (i : Int), s13, s14, s15, s16, s17, s18, s19, s20, s21, s22, s23, s24, s25, s26, s27, s28, s29, s30, s31, s32, s33, s34, s35, s36, s37, s38, s39, s40, s41, s42, s43, s44, s45, s46, s47, s48, s49, s50, s51, s52, s53, s54, s55, s56, s57, s58, s59, s60, s61, s62, s63, s64, s65, s66, s67, s68, s69, s70, s71, s72, s73, s74, s75, s76, s77, s78, s79, s80, s81, s82, s83, s84, s85, s86, s87, s88, s89, s90, s91, s92, s93, s94, s95, s96, s97, s98, s99, s100, s101, s102, s103, s104, s105, s106, s107, s108, s109, s110, s111, s112, s113, s114, s115, s116, s117, s118, s119, s120, s121, s122, s123, s124, s125, s126, s127, s128, s129, s130, s131, s132, s133, s134, s135, s136, s137, s138, s139, s140, s141, s142, s143, s144, s145, s146, s147, s148, s149, s150, s151, s152, s153, s154, s155, s156, s157, s158, s159, s160, s161, s162, s163, s164, s165, s166, s167, s168, s169, s170, s171, s172, s173, s174, s175, s176, s177, s178, s179, s180, s181, s182, s183, s184, s185, s186, s187, s188, s189, s190, s191, s192, s193, s194, s195, s196, s197, s198, s199, s200, s201, s202, s203, s204, s205, s206, s207, s208, s209, s210, s211, s212, s213, s214, s215, s216, s217, s218, s219, s220, s221, s222, s223, s224, s225, s226, s227, s228, s229, s230, s231, s232, s233, s234, s235, s236, s237, s238, s239, s240, s241, s242, s243, s244, s245, s246, s247, s248], defers := [] } wr := by
  have q4 := nee_nil
  have q5 := nee_88
  have hlz : (i : Int) < (N : Int) := by omega
  have h200 : ¬ (200 : Int) < (xl : Int) := by omega
  obtain ⟨W1, hW1⟩ : ∃ W0 : World, W0 = wr.alloc (.cells #[.int .i64 dw, .int .i64 dn, .bool dO, .slice xa xl xc] 40) := ⟨_, rfl⟩
  obtain ⟨xb, hxb⟩ : ∃ xb, xb = wr.heap.size := ⟨_, rfl⟩
  have XB := Lib.hid (show Bq W1 xb 40 #[.int .i64 dw, .int .i64 dn, .bool dO, .slice xa xl xc] by rw [hW1, hxb]; exact Bq.new _ _ _)
  have hbw : Below wr.heap.size wr W1 := by rw [hW1]; exact below_alloc _ _
  have HC1 := Lib.hid (HC.out.later hbw)
  have HR1 := Lib.hid (HR.out.later hbw)
  have HF1 := Lib.hid (fs_later HF.out HC.out.bel.size hbw)
  have HXM := Lib.hid (show m < xb by rw [hxb]; exact HC.out.hmz)
  have HXV := Lib.hid (show ∀ g, v.ownBlock = some g → g < xb from fun g hg => by rw [hxb]; exact (HC.out.snd.own hg).2)
  have HXA := Lib.hid (show ∀ g, va.ownBlock = some g → g < xb from fun g hg => by rw [hxb]; exact (HC.out.row.lt hg).2)
  have HXB1 := Lib.hid (show BytesAt W1 (Old w.heap.size) xa db from HXB.out.far fun g hg => ⟨hg, HC1.out.bel.block g hg⟩)
  have c3 := XB.out.c4.2.2.2
  have HW1 := Lib.hid hW1
  have HXE := Lib.hid hxb
  clear hW1 hbw HC HR HF hxb
  have CPK := Lib.hid (fun W => pick_any dw 6 k1 k2 (by omega) (by omega) W)
  rw [hkk] at CPK
  clear hkk
  conv => arg 2; whnf
  go_wp2_with fail
  rw [← HW1.out, ← HXE.out]
  go_wp2_with fail
  refine Calls.mono (CPK.out W1) ?_
  rintro e wq ⟨rfl, rfl⟩
  have hN400 : i < 400 := by omega
  obtain ⟨q, hq⟩ : ∃ q, q = all.length - ack := ⟨_, rfl⟩
  have HQ := Lib.hid hq
  have HLE := Lib.hid (show ack ≤ told ∧ told ≤ all.length ∧ told ≤ ack + win ∧ all.length ≤ 100000 ∧ all.length ≤ i ∧ fl.length ≤ 64 * i ∧ want ≤ i from ⟨HC1.out.snd.hat, HC1.out.snd.htl, HC1.out.snd.htw, HC1.out.snd.hln, HB.out.2.1, HB.out.2.2.2.2.1, HB.out.2.2.2.1⟩)
  clear hq
  by_cases h0 : nf = 0
  · have h0z : (nf : Int) = 0 := by omega
    have HB2 := Lib.hid (HB.out.succ hlt (Nat.le_succ _) (fun x hx => Or.inl hx) (Nat.le_succ _) (Nat.le_add_right _ _) (fun x hx => Or.inl hx))
    go_wp2_with fail
    apply hend
    · exact ⟨i + 1, want, ack, told, v, va, cs, lcs, all, fa, fc, fcs, fl, by go_num, rfl, by rw [← HNF.out, h0], HC1, HR1, HF1, HB2⟩
    · simp [intOf]; omega
  · have h0z : ¬ (nf : Int) = 0 := by omega
    have CPN := Lib.hid (fun W => pick_any dn nf k3 k4 (by omega) (by have := HNF.out; have := HLE.out; omega) W)
    obtain ⟨k, hk⟩ : ∃ k, k = pickN dn nf := ⟨_, rfl⟩
    have hkl : k < nf := by rw [hk]; exact pickN_lt _ (by omega)
    rw [← hk] at CPN
    have HK := Lib.hid hkl
    clear hk
    have c1' := XB.out.c4.2.1
    go_wp2_with fail
    refine Calls.mono (CPN.out W1) ?_
    rintro e wq ⟨rfl, rfl⟩
    obtain ⟨gf, of, efa, hgf, hcf⟩ := HC1.out.fcel (by rw [HC1.out.fpk.1, ← HNF.out]; omega)
    obtain ⟨ba, bc, y1, y2, hbc, hby⟩ := HC1.out.fpk.2 k (by rw [← HNF.out]; exact hkl)
    have hqb := HB.out.2.2.2.2.2 _ (List.getElem_mem (show k < fl.length by rw [← HNF.out]; exact hkl))
    obtain ⟨sq, hsq⟩ : ∃ x, x = (fl[k]'(by rw [← HNF.out]; exact hkl)).1 := ⟨_, rfl⟩
    obtain ⟨bb, hbb⟩ : ∃ x, x = (fl[k]'(by rw [← HNF.out]; exact hkl)).2 := ⟨_, rfl⟩
    rw [← hsq, ← hbb] at hqb
    rw [← hsq] at y1
    rw [← hbb] at y2 hbc hby
    have z1 := hcf _ _ y1
    have z2 := hcf _ _ y2
    rw [← Nat.add_assoc] at z2
    obtain ⟨bl, hbl⟩ : ∃ x, x = bb.length := ⟨_, rfl⟩
    rw [← hbl] at z2 hbc hqb
    have HBL := Lib.hid hbl
    have HBY := Lib.hid hby
    have HSQ := Lib.hid hqb
    obtain ⟨W2, hW2⟩ : ∃ W0 : World, W0 = W1.alloc (.cells #[.int .u64 (sq : Int), .slice ba bl bc] 49) := ⟨_, rfl⟩
    obtain ⟨pb, hpb⟩ : ∃ x, x = W1.heap.size := ⟨_, rfl⟩
    have hbw : Below W1.heap.size W1 W2 := by rw [hW2]; exact below_alloc _ _
    have HC2 := Lib.hid (HC1.out.later hbw)
    have HR2 := Lib.hid (HR1.out.later hbw)
    have HF2 := Lib.hid (fs_later HF1.out HC1.out.bel.size hbw)
    have HBY2 := Lib.hid (show BytesAt W2 (Dt W2 p r m v va) ba bb from HBY.out.far fun g hg => ⟨hg.keep hbw.size (Nxt.refl _ _) (Nxt.refl _ _), hbw.block g hg.1⟩)
    have PB := Lib.hid (show Bq W2 pb 49 #[.int .u64 (sq : Int), .slice ba bl bc] by rw [hW2, hpb]; exact Bq.new _ _ _)
    have PBN := Lib.hid (show pb ≠ r by have := HC1.out.rcv.lt; omega)
    have XB2 := Lib.hid (XB.out.later hbw)
    have c0' := XB2.out.c4.1
    have cX : (W1.alloc (.cells #[.int .u64 (sq : Int), .slice ba bl bc] 49)).cell? ⟨xb, 0, none⟩ = some (.int .i64 dw) := by rw [← hW2]; exact c0'
    have p0' : W2.cell? ⟨pb, 0, none⟩ = some (.int .u64 (sq : Int)) := by have h := PB.out; unfold Bq at h; simp [World.cell?, h]
    have p1' : W2.cell? ⟨pb, 1, none⟩ = some (.slice ba bl bc) := by have h := PB.out; unfold Bq at h; simp [World.cell?, h]
    have HW2 := Lib.hid hW2
    have HPE := Lib.hid hpb
    have hgk : gf < W1.heap.size := hgf.1
    subst efa
    clear y1 y2 hcf hsq hbb hbl hbc hby hqb hW2 hpb hbw hgf c3
    go_wp2_with fail
    rw [← HW2.out, ← HPE.out]
    clear z1 z2 c1' cX
    try go_wp2_with fail
    refine Calls.mono (CPK.out W2) ?_
    rintro e wq ⟨rfl, rfl⟩
    clear CPK CPN c0'
    have OF := Lib.hid (show OP ((W2.alloc (.cells #[] 49)).drew) W2.heap.size (.slice (some ⟨W2.heap.size, 0, none⟩) 0 0) 0 [] from OP.fresh W2)
    have BF := Lib.hid (below_alloc W2 (.cells #[] 49))
    have BD := Lib.hid (show Below W2.heap.size W2 ((W2.alloc (.cells #[] 49)).drew) from ⟨BF.out.os, BF.out.tape, BF.out.output, BF.out.size, BF.out.block⟩)
    have SF := Lib.hid ((HC2.out.later BD.out).fcel.front fc (k * 2))
    have LF := Lib.hid (show (fcs.take (k * 2)).length = k * 2 by rw [List.length_take, HC2.out.fpk.1, ← HNF.out]; have := HK.out; omega)
    have OO := Lib.hid (show ∀ u ∈ fcs, u.oneCell' = true from HC2.out.fpk.one')
    have hkf := HK.out
    have u8 : IntKind.i64.wrap ((k : Int) + 1) = ((k + 1 : Nat) : Int) := by rw [IntWalk.i64_in _ (by have := HLE.out; have := HNF.out; omega)]; omega
    have hkc : k ≤ fc := by have := HC2.out.fle; have := HNF.out; omega
    have q8 := fun W => run_frontP (some ⟨gf, of, none⟩) nf fc k hkc W
    have q9 := fun W => run_restP (some ⟨gf, of, none⟩) nf fc (k + 1) (by omega) W
    obtain ⟨kz, hkz⟩ : ∃ kz : Int, kz = ((k + 1 : Nat) : Int) := ⟨_, rfl⟩
    rw [← hkz] at u8 q9
    have LL := Lib.hid (show (fcs.drop ((k + 1) * 2)).length = (nf - (k + 1)) * 2 by rw [List.length_drop, HC2.out.fpk.1, ← HNF.out]; omega)
    have hfl9 : nf ≤ 64 * 400 := by have := HLE.out; have := HNF.out; omega
    clear hkz hkc
    go_wp2_with fail
    go_region_law (first
      | (refine step_append_pk rfl _ _ rfl W2.heap.size (.slice (some ⟨W2.heap.size, 0, none⟩) 0 0) 0 [] rfl OF.out (frontP (some ⟨gf, of, none⟩) fc) k fc (fcs.take (k * 2)) LF.out rfl SF.out (fun u hu => OO.out u (List.mem_of_mem_take hu)) (by omega) BD.out.size ?_
         intro v5 U2 hrow5 hg5 hat5
         obtain ⟨a5, n5, c5, e5⟩ := own_slice hrow5
         subst e5
         have O5 := Lib.hid hrow5
         have BE := Lib.hid (show Below W2.heap.size W2 U2 from below_grown BD.out BD.out.size hg5 (fun k hk => (OF.out.lt hk).1))
         have SE := Lib.hid (show CeAt U2 (Dt U2 p r m v va) (restP (some ⟨gf, of, none⟩) fc (k + 1)) (fcs.drop ((k + 1) * 2)) from (HC2.out.later BE.out).fcel.drop (n := nf) (by rw [HC2.out.fpk.1, HNF.out]) (by rw [HNF.out]; exact HC2.out.fle) (by omega))
         clear hrow5 hg5 hat5)
      | (refine step_append_pk rfl _ _ rfl W2.heap.size (.slice a5 n5 c5) (0 + k) ([] ++ fcs.take (k * 2)) rfl O5.out (restP (some ⟨gf, of, none⟩) fc (k + 1)) (nf - (k + 1)) (fc - (k + 1)) (fcs.drop ((k + 1) * 2)) LL.out rfl SE.out (fun u hu => OO.out u (List.mem_of_mem_drop hu)) (by omega) BE.out.size ?_
         intro v6 U3 hrow6 hg6 hat6
         obtain ⟨a6, n6, c6, e6⟩ := own_slice hrow6
         subst e6
         have O6 := Lib.hid hrow6
         have BG := Lib.hid (show Below W2.heap.size W2 U3 from below_grown BE.out BE.out.size hg6 (fun k hk => (O5.out.lt hk).1))
         clear hrow6 hg6 hat6))
    all_goals
      obtain ⟨hn6, hc6⟩ := HC2.out.flewN (nfl := fl.take k ++ fl.drop (k + 1)) BG.out O6.out (by rw [List.nil_append]; exact (HC2.out.fpk.pre k).app (HC2.out.fpk.drop (k + 1))) (by rw [List.length_append, List.length_take, List.length_drop, ← HNF.out]; omega)
      have HC6 := Lib.hid hc6
      have HNN := Lib.hid hn6
      have HR6 := Lib.hid (HR2.out.later BG.out)
      have HF6 := Lib.hid (fs_later HF2.out HC2.out.bel.size BG.out)
      have HB6 := Lib.hid (show PyB (i + 1) N all want (fl.take k ++ fl.drop (k + 1)) from HB.out.succ hlt (Nat.le_succ _) (fun x hx => Or.inl hx) (by omega) (by rw [List.length_append, List.length_take, List.length_drop]; omega) (fun x hx => by
        rcases List.mem_append.1 hx with h | h
        · exact Or.inl (List.mem_of_mem_take h)
        · exact Or.inl (List.mem_of_mem_drop h)))
      clear hn6 hc6 q8 q9 u8
      obtain ⟨q, hq1, hq2⟩ := py_tail HC6.out HR6.out HF6.out
      have T1 := Lib.hid hq1
      have T2 := Lib.hid hq2
      clear hq1 hq2
      go_wp2_with fail
      refine Calls.mono T1.out ?_
      rintro e wq ⟨rfl, rfl⟩
      go_wp2_with fail
      refine Calls.mono T2.out ?_
      rintro e wt ⟨rfl, hbt⟩
      have HCt := Lib.hid (HC6.out.later hbt)
      have HRt := Lib.hid (HR6.out.later hbt)
      have HFt := Lib.hid (fs_later HF6.out HC6.out.bel.size hbt)
      clear hbt T1 T2
      go_wp2_with fail
      refine Calls.mono (want_any r want wt HCt.out.rcv) ?_
      rintro e wq ⟨rfl, rfl⟩
      go_wp2_with fail
      apply hend
      · exact ⟨i + 1, want, ack, told, v, va, cs, lcs, all, a6, c6, fcs.take (k * 2) ++ fcs.drop ((k + 1) * 2), fl.take k ++ fl.drop (k + 1), by go_num, rfl, by first | rfl | (rw [HNF.out]) | (rw [HNN.out]), HCt, HRt, HFt, HB6⟩
      · simp [intOf]; omega
end Go.Proofs.Ytnnoampmcghnaaa.Lk
