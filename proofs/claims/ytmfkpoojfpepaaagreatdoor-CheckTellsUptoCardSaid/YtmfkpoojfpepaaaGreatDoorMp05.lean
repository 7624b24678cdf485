/-
  Contract of the document's answer one, where a name begins. Memory that was there is left as it was.
-/
import Derived.Test.YtmfkpoojfpepaaaGreatDoorMp04
import Derived.Maps.AppendAt
import Derived.OwnWalk
import Derived.LaidEql
import Derived.Test.YtmfkpoojfpepaaaGreatDoorMp03
/-
  Contract of first of package token: the token that a text begins with. Memory that was there is left as it was.
-/
namespace Go.Proofs.YtmfkpoojfpepaaaGreatDoor.Tk
open Go.RowKit
set_option linter.unusedVariables false
set_option linter.unusedSimpArgs false

set_option maxHeartbeats 2000000 in
theorem first_any (s : ByteArray) (hs : s.size ≤ 1048576) (c : UInt8) (r : List UInt8) (hL : s.data.toList = c :: r) (w : World) (hE : LaidE w) :
    Calls Tryz.prog 89 #[.string s] w fun e w' => e = .returned (lexV 44 (lex (c :: r))) ∧ Below w.heap.size w w' := by
  have HL := Lib.hid hL
  have hsl : s.size = r.length + 1 := by rw [Lib.size_eq, hL]; rfl
  have h0s : 0 < s.size := by omega
  have h0z : (0 : Int) < (s.size : Int) := by omega
  have HSL := Lib.hid hsl
  have hb0 : s[0] = c := by
    have := Lib.data_getElem? s 0 h0s
    rw [hL] at this
    simpa using this.symm
  have K0 := Lib.hid (Blk.new w (.int .i64 0) (.int .i64 0) (.int .i64 0) (.string ⟨#[]⟩) 110)
  have B0 := Lib.hid ((Below.refl w.heap.size w).alloc (Nat.le_refl _) (.cells #[.int .i64 0, .int .i64 0, .int .i64 0, .string ⟨#[]⟩] 110))
  have E0 := Lib.hid (hE.later B0.out)
  have HLT := Lib.hid (fun W => letter_any c W)
  have HDT := Lib.hid (fun W => digit_any c W)
  clear hL hsl hE
  rw [lex_cons]
  by_cases h1 : low c = true
  · rw [if_pos h1]
    have H1 := Lib.hid h1; clear h1
    have HN := Lib.hid (fun W (hW : LaidE W) => name_any s hs W)
    try rw [HL.out] at HN
    cases ho : nameL (c :: r) with
    | none =>
      rw [ho] at HN
      clear ho
      simp only [lexV] at HN
      go_enter Tryz.func89, Tryz.ntmps89
      go_wp2_with fail
      try rw [hb0]
      refine (HLT.out _).mono ?_
      rintro e w1 ⟨rfl, rfl⟩
      rw [H1.out]
      go_wp2_with fail
      refine (HN.out _ E0.out).mono ?_
      rintro e w2 ⟨rfl, hb2⟩
      have B2 := Lib.hid (B0.out.trans (hb2.mono (by simp)))
      obtain ⟨c0, c1, c2, c3, cf, cl⟩ := K0.out.later hb2
      clear hb2
      go_wp2_with fail
      refine bodyPost_ret (v := lexV 44 none) (by simp [results, Tryz.results89, go_sem, lexV, *]) rfl ⟨rfl, ?_⟩
      exact set4 B2.out (Nat.le_refl _) _ _ _ _
    | some x =>
      rw [ho] at HN
      clear ho
      simp only [lexV] at HN
      go_enter Tryz.func89, Tryz.ntmps89
      go_wp2_with fail
      try rw [hb0]
      refine (HLT.out _).mono ?_
      rintro e w1 ⟨rfl, rfl⟩
      rw [H1.out]
      go_wp2_with fail
      refine (HN.out _ E0.out).mono ?_
      rintro e w2 ⟨rfl, hb2⟩
      have B2 := Lib.hid (B0.out.trans (hb2.mono (by simp)))
      obtain ⟨c0, c1, c2, c3, cf, cl⟩ := K0.out.later hb2
      clear hb2
      go_wp2_with fail
      refine bodyPost_ret (v := lexV 44 (some x)) (by simp [results, Tryz.results89, go_sem, lexV, *]) rfl ⟨rfl, ?_⟩
      exact set4 B2.out (Nat.le_refl _) _ _ _ _
  · rw [if_neg h1]
    have H1 := Lib.hid (show low c = false by simpa using h1); clear h1
    by_cases h2 : dig c = true
    · rw [h2, Bool.true_or, if_pos rfl]
      have H3 := Lib.hid (show ¬ c.toNat = 45 by simp only [dig, Bool.and_eq_true, decide_eq_true_eq] at h2; omega)
      have H2 := Lib.hid h2; clear h2
      have HN := Lib.hid (fun W (hW : LaidE W) => number_plain s hs c r HL.out H3.out W hW)
      try rw [HL.out] at HN
      cases ho : numL (c :: r) with
      | none =>
        rw [ho] at HN
        clear ho
        simp only [lexV] at HN
        go_enter Tryz.func89, Tryz.ntmps89
        go_wp2_with fail
        try rw [hb0]
        refine (HLT.out _).mono ?_
        rintro e w1 ⟨rfl, rfl⟩
        rw [H1.out]
        go_wp2_with fail
        refine (HDT.out _).mono ?_
        rintro e w1 ⟨rfl, rfl⟩
        rw [H2.out]
        go_wp2_with fail
        refine (HN.out _ E0.out).mono ?_
        rintro e w2 ⟨rfl, hb2⟩
        have B2 := Lib.hid (B0.out.trans (hb2.mono (by simp)))
        obtain ⟨c0, c1, c2, c3, cf, cl⟩ := K0.out.later hb2
        clear hb2
        go_wp2_with fail
        refine bodyPost_ret (v := lexV 44 none) (by simp [results, Tryz.results89, go_sem, lexV, *]) rfl ⟨rfl, ?_⟩
        exact set4 B2.out (Nat.le_refl _) _ _ _ _
      | some x =>
        rw [ho] at HN
        clear ho
        simp only [lexV] at HN
        go_enter Tryz.func89, Tryz.ntmps89
        go_wp2_with fail
        try rw [hb0]
        refine (HLT.out _).mono ?_
        rintro e w1 ⟨rfl, rfl⟩
        rw [H1.out]
        go_wp2_with fail
        refine (HDT.out _).mono ?_
        rintro e w1 ⟨rfl, rfl⟩
        rw [H2.out]
        go_wp2_with fail
        refine (HN.out _ E0.out).mono ?_
        rintro e w2 ⟨rfl, hb2⟩
        have B2 := Lib.hid (B0.out.trans (hb2.mono (by simp)))
        obtain ⟨c0, c1, c2, c3, cf, cl⟩ := K0.out.later hb2
        clear hb2
        go_wp2_with fail
        refine bodyPost_ret (v := lexV 44 (some x)) (by simp [results, Tryz.results89, go_sem, lexV, *]) rfl ⟨rfl, ?_⟩
        exact set4 B2.out (Nat.le_refl _) _ _ _ _
    · have h2f : dig c = false := by simpa using h2
      rw [h2f, Bool.false_or]
      have H2 := Lib.hid h2f; clear h2 h2f
      by_cases h3 : c.toNat = 45
      · rw [if_pos (show (c.toNat == 45) = true by rw [h3]; rfl)]
        have h3z : ((c.toNat : Nat) : Int) = 45 := by omega
        rw [h3z] at HLT HDT
        have H3 := Lib.hid h3; clear h3
        have HN := Lib.hid (fun W (hW : LaidE W) => number_minus s hs c r HL.out H3.out W hW)
        try rw [HL.out] at HN
        cases ho : numL (c :: r) with
        | none =>
          rw [ho] at HN
          clear ho
          simp only [lexV] at HN
          go_enter Tryz.func89, Tryz.ntmps89
          go_wp2_with fail
          try rw [hb0]
          refine (HLT.out _).mono ?_
          rintro e w1 ⟨rfl, rfl⟩
          rw [H1.out]
          go_wp2_with fail
          refine (HDT.out _).mono ?_
          rintro e w1 ⟨rfl, rfl⟩
          rw [H2.out]
          go_wp2_with fail
          refine (HN.out _ E0.out).mono ?_
          rintro e w2 ⟨rfl, hb2⟩
          have B2 := Lib.hid (B0.out.trans (hb2.mono (by simp)))
          obtain ⟨c0, c1, c2, c3, cf, cl⟩ := K0.out.later hb2
          clear hb2
          go_wp2_with fail
          refine bodyPost_ret (v := lexV 44 none) (by simp [results, Tryz.results89, go_sem, lexV, *]) rfl ⟨rfl, ?_⟩
          exact set4 B2.out (Nat.le_refl _) _ _ _ _
        | some x =>
          rw [ho] at HN
          clear ho
          simp only [lexV] at HN
          go_enter Tryz.func89, Tryz.ntmps89
          go_wp2_with fail
          try rw [hb0]
          refine (HLT.out _).mono ?_
          rintro e w1 ⟨rfl, rfl⟩
          rw [H1.out]
          go_wp2_with fail
          refine (HDT.out _).mono ?_
          rintro e w1 ⟨rfl, rfl⟩
          rw [H2.out]
          go_wp2_with fail
          refine (HN.out _ E0.out).mono ?_
          rintro e w2 ⟨rfl, hb2⟩
          have B2 := Lib.hid (B0.out.trans (hb2.mono (by simp)))
          obtain ⟨c0, c1, c2, c3, cf, cl⟩ := K0.out.later hb2
          clear hb2
          go_wp2_with fail
          refine bodyPost_ret (v := lexV 44 (some x)) (by simp [results, Tryz.results89, go_sem, lexV, *]) rfl ⟨rfl, ?_⟩
          exact set4 B2.out (Nat.le_refl _) _ _ _ _
      · rw [if_neg (fun h => h3 (eq_of_beq h))]
        have h3z : ¬ ((c.toNat : Nat) : Int) = 45 := by omega
        have H3 := Lib.hid h3; clear h3
        by_cases h4 : c.toNat = 34
        · rw [if_pos (show (c.toNat == 34) = true by rw [h4]; rfl)]
          have h4z : ((c.toNat : Nat) : Int) = 34 := by omega
          rw [h4z] at HLT HDT
          clear h4 h3z
          have HN := Lib.hid (fun W (hW : LaidE W) => text_any s hs c r HL.out W)
          try rw [HL.out] at HN
          cases ho : textL r with
          | none =>
            rw [ho] at HN
            clear ho
            simp only [lexV] at HN
            go_enter Tryz.func89, Tryz.ntmps89
            go_wp2_with fail
            try rw [hb0]
            refine (HLT.out _).mono ?_
            rintro e w1 ⟨rfl, rfl⟩
            rw [H1.out]
            go_wp2_with fail
            refine (HDT.out _).mono ?_
            rintro e w1 ⟨rfl, rfl⟩
            rw [H2.out]
            go_wp2_with fail
            refine (HN.out _ E0.out).mono ?_
            rintro e w2 ⟨rfl, hb2⟩
            have B2 := Lib.hid (B0.out.trans (hb2.mono (by simp)))
            obtain ⟨c0, c1, c2, c3, cf, cl⟩ := K0.out.later hb2
            clear hb2
            go_wp2_with fail
            refine bodyPost_ret (v := lexV 44 none) (by simp [results, Tryz.results89, go_sem, lexV, *]) rfl ⟨rfl, ?_⟩
            exact set4 B2.out (Nat.le_refl _) _ _ _ _
          | some x =>
            rw [ho] at HN
            clear ho
            simp only [lexV] at HN
            go_enter Tryz.func89, Tryz.ntmps89
            go_wp2_with fail
            try rw [hb0]
            refine (HLT.out _).mono ?_
            rintro e w1 ⟨rfl, rfl⟩
            rw [H1.out]
            go_wp2_with fail
            refine (HDT.out _).mono ?_
            rintro e w1 ⟨rfl, rfl⟩
            rw [H2.out]
            go_wp2_with fail
            refine (HN.out _ E0.out).mono ?_
            rintro e w2 ⟨rfl, hb2⟩
            have B2 := Lib.hid (B0.out.trans (hb2.mono (by simp)))
            obtain ⟨c0, c1, c2, c3, cf, cl⟩ := K0.out.later hb2
            clear hb2
            go_wp2_with fail
            refine bodyPost_ret (v := lexV 44 (some x)) (by simp [results, Tryz.results89, go_sem, lexV, *]) rfl ⟨rfl, ?_⟩
            exact set4 B2.out (Nat.le_refl _) _ _ _ _
        · rw [if_neg (fun h => h4 (eq_of_beq h))]
          have h4z : ¬ ((c.toNat : Nat) : Int) = 34 := by omega
          clear h4
          have HN := Lib.hid (fun W (hW : LaidE W) => sign_any s h0s W)
          try rw [HL.out] at HN
          cases ho : signL (c :: r) with
          | none =>
            rw [ho] at HN
            clear ho
            simp only [lexV] at HN
            go_enter Tryz.func89, Tryz.ntmps89
            go_wp2_with fail
            try rw [hb0]
            refine (HLT.out _).mono ?_
            rintro e w1 ⟨rfl, rfl⟩
            rw [H1.out]
            go_wp2_with fail
            refine (HDT.out _).mono ?_
            rintro e w1 ⟨rfl, rfl⟩
            rw [H2.out]
            go_wp2_with fail
            refine (HN.out _ E0.out).mono ?_
            rintro e w2 ⟨rfl, hb2⟩
            have B2 := Lib.hid (B0.out.trans (hb2.mono (by simp)))
            obtain ⟨c0, c1, c2, c3, cf, cl⟩ := K0.out.later hb2
            clear hb2
            go_wp2_with fail
            refine bodyPost_ret (v := lexV 44 none) (by simp [results, Tryz.results89, go_sem, lexV, *]) rfl ⟨rfl, ?_⟩
            exact set4 B2.out (Nat.le_refl _) _ _ _ _
          | some x =>
            rw [ho] at HN
            clear ho
            simp only [lexV] at HN
            go_enter Tryz.func89, Tryz.ntmps89
            go_wp2_with fail
            try rw [hb0]
            refine (HLT.out _).mono ?_
            rintro e w1 ⟨rfl, rfl⟩
            rw [H1.out]
            go_wp2_with fail
            refine (HDT.out _).mono ?_
            rintro e w1 ⟨rfl, rfl⟩
            rw [H2.out]
            go_wp2_with fail
            refine (HN.out _ E0.out).mono ?_
            rintro e w2 ⟨rfl, hb2⟩
            have B2 := Lib.hid (B0.out.trans (hb2.mono (by simp)))
            obtain ⟨c0, c1, c2, c3, cf, cl⟩ := K0.out.later hb2
            clear hb2
            go_wp2_with fail
            refine bodyPost_ret (v := lexV 44 (some x)) (by simp [results, Tryz.results89, go_sem, lexV, *]) rfl ⟨rfl, ?_⟩
            exact set4 B2.out (Nat.le_refl _) _ _ _ _
end Go.Proofs.YtmfkpoojfpepaaaGreatDoor.Tk
/-
  Tokens as a call keeps them: four cells a token, in a row of the call's own. No program here.
-/
namespace Go.Proofs.YtmfkpoojfpepaaaGreatDoor.Tk
open Go.RowKit
set_option linter.unusedVariables false

def cellT (t : Tok) : List Value := [.int .i64 t.kind, .int .i64 (t.pos : Nat), .int .i64 t.num, .string ⟨t.str.toArray⟩]
def cellsT (ts : List Tok) : List Value := ts.flatMap cellT
theorem cellsT_app (ts : List Tok) (t : Tok) : cellsT (ts ++ [t]) = cellsT ts ++ cellT t := by unfold cellsT; simp
theorem cellsT_get : ∀ (ts : List Tok) (k : Nat) (h : k < ts.length) (j : Nat), j < 4 → (cellsT ts)[k * 4 + j]? = (cellT ts[k])[j]?
  | [], _, h, _, _ => by simp at h
  | t :: ts, 0, _, j, hj => by
    have e : cellsT (t :: ts) = cellT t ++ cellsT ts := rfl
    rw [e, Nat.zero_mul, Nat.zero_add, List.getElem?_append_left (by simpa [cellT] using hj)]
    rfl
  | t :: ts, k + 1, h, j, hj => by
    have := cellsT_get ts k (by simpa using h) j hj
    have e : cellsT (t :: ts) = cellT t ++ cellsT ts := rfl
    rw [e, List.getElem?_append_right (by simp [cellT]; omega), show (k + 1) * 4 + j - (cellT t).length = k * 4 + j by simp [cellT]; omega, this]
    rfl
theorem own4_lt {W : World} {base n : Nat} {t : TypeId} {v : Value} {xs : List Value} (h : W.ownsRow base t 4 v n xs) {g : Nat} (hg : v.ownBlock = some g) : g < W.heap.size ∧ base ≤ g := by
  rcases h.2 with ⟨rfl, _⟩ | ⟨g', cap, cur, rfl, hb, hh, _⟩
  · simp [Value.ownBlock] at hg
  · simp [Value.ownBlock] at hg
    subst hg
    exact ⟨(Array.getElem?_eq_some_iff.1 hh).1, hb⟩
theorem own4_later {W w1 : World} {base n : Nat} {t : TypeId} {v : Value} {xs : List Value} (h : W.ownsRow base t 4 v n xs) (hb : Below W.heap.size W w1) : w1.ownsRow base t 4 v n xs :=
  h.kept (row := none) ⟨hb.os, hb.tape, hb.output, hb.size, fun k hk _ => hb.block k hk⟩ (by cases v.ownBlock <;> simp)
theorem own4_below {W w1 v : World} {n : Nat} {t : TypeId} {u : Value} {xs : List Value} (hB : Below v.heap.size v W) (h : W.ownsRow v.heap.size t 4 u n xs) (hg : W.grownBy w1 u.ownBlock) : Below v.heap.size v w1 :=
  hB.grown hg hB.size fun k hk => (own4_lt h hk).2
theorem own4_wide {W : World} {base base' n : Nat} {t : TypeId} {v : Value} {xs : List Value} (h : W.ownsRow base t 4 v n xs) (hb : base' ≤ base) : W.ownsRow base' t 4 v n xs := by
  rcases h with ⟨h1, h2 | ⟨g, cap, cur, e, h3, h4⟩⟩
  · exact ⟨h1, Or.inl h2⟩
  · exact ⟨h1, Or.inr ⟨g, cap, cur, e, by omega, h4⟩⟩
theorem news4 (W : World) (x y z u : Value) (t : TypeId) : ∀ j v, ([x, y, z, u] : List Value)[j]? = some v → (W.alloc (.cells #[x, y, z, u] t)).cell? ((⟨W.heap.size, 0, none⟩ : Addr).add j) = some v := by
  intro j v hj
  match j, hj with
  | 0, hj => simp at hj; subst hj; simp [Addr.add, go_sem]
  | 1, hj => simp at hj; subst hj; simp [Addr.add, go_sem]
  | 2, hj => simp at hj; subst hj; simp [Addr.add, go_sem]
  | 3, hj => simp at hj; subst hj; simp [Addr.add, go_sem]
  | j + 4, hj => simp at hj
theorem one4 (a b c : Int) (s : ByteArray) : ∀ u ∈ ([.int .i64 a, .int .i64 b, .int .i64 c, .string s] : List Value), u.oneCell' = true := by
  intro u hu
  simp at hu
  rcases hu with rfl | rfl | rfl | rfl <;> rfl
theorem info_cut {P : Program} {t : TypeId} {z : Value} {s b : Nat} (h : (P.info? t).map (fun i => (i.zero, i.size, i.bytes)) = some (some z, s, b)) : ∃ i, P.info? t = some i ∧ i.zero = some z ∧ i.size = s ∧ i.bytes = b := by
  cases e : P.info? t with
  | none => rw [e] at h; simp at h
  | some i => rw [e] at h; simp at h; exact ⟨i, rfl, h.1, h.2.1, h.2.2⟩
def nOf : Value → Nat | .int _ n => n.toNat | _ => 0

theorem str_bound {s : ByteArray} {a n : Nat} {l : List UInt8} (hq : (s.extract a s.size).data.toList = l) (h5 : s.size ≤ 500) (h : n ≤ l.length) : n ≤ 1048576 := by
  have h9 : l.length = (s.extract a s.size).size := by rw [Lib.size_eq, hq]
  simp only [ByteArray.size_extract] at h9
  omega
/-- Between the rounds of a cut's loop: so far ts has been cut. -/
def CutR (w : World) (t : TypeId) (L : List UInt8) (va vl : Value) (wr : World) : Prop :=
  ∃ (a : Nat) (ts : List Tok), va = .int .i64 a ∧ a ≤ L.length ∧ Hid (cutAt 0 L = (cutAt a (L.drop a)).map (ts ++ ·)) ∧ ts.length ≤ a ∧ wr.ownsRow w.heap.size t 4 vl ts.length (cellsT ts) ∧ Below w.heap.size w wr
/-- What is told of a cut. -/
def CutEnd (w w' : World) (t : TypeId) (bad good : Value) (e : Ending) : Option (List Tok) → Prop
  | none => e = .returned (.tuple #[.slice none 0 0, bad])
  | some ts => ∃ u, e = .returned (.tuple #[u, good]) ∧ w'.ownsRow w.heap.size t 4 u ts.length (cellsT ts)
theorem cut_step {L : List UInt8} {a : Nat} {ts : List Tok} {c : UInt8} {r : List UInt8} {x : Lx} (h : cutAt 0 L = (cutAt a (L.drop a)).map (ts ++ ·)) (hL : L.drop a = c :: r) (hc : ¬ c.toNat = 32) (hx : lex (c :: r) = some x) :
    a + x.size ≤ L.length ∧ 1 ≤ x.size ∧ cutAt 0 L = (cutAt (a + x.size) (L.drop (a + x.size))).map ((ts ++ [⟨x.kind, a, x.num, x.str⟩]) ++ ·) := by
  have hz := lex_size hx
  have hl : (L.drop a).length = (c :: r).length := by rw [hL]
  rw [List.length_drop] at hl
  refine ⟨by omega, hz.1, ?_⟩
  rw [h, hL, cutAt_some hc a r hx, Option.map_map, ← hL, List.drop_drop]
  congr 1
  funext us
  simp
theorem cut_space {L : List UInt8} {a : Nat} {ts : List Tok} {c : UInt8} {r : List UInt8} (h : cutAt 0 L = (cutAt a (L.drop a)).map (ts ++ ·)) (hL : L.drop a = c :: r) (hc : c.toNat = 32) :
    cutAt 0 L = (cutAt (a + 1) (L.drop (a + 1))).map (ts ++ ·) := by
  have hr : L.drop (a + 1) = r := by rw [← List.drop_drop, hL]; rfl
  rw [h, hL, cutAt_space hc, hr]
theorem cut_bad {L : List UInt8} {a : Nat} {ts : List Tok} {c : UInt8} {r : List UInt8} (h : cutAt 0 L = (cutAt a (L.drop a)).map (ts ++ ·)) (hL : L.drop a = c :: r) (hc : ¬ c.toNat = 32) (hx : lex (c :: r) = none) : cutAt 0 L = none := by
  rw [h, hL, cutAt_none hc a r hx]
  rfl
theorem cut_all {L : List UInt8} {a : Nat} {ts : List Tok} (h : cutAt 0 L = (cutAt a (L.drop a)).map (ts ++ ·)) (ha : a = L.length) : cutAt 0 L = some ts := by
  rw [h, ha, List.drop_length, cutAt_nil]
  simp
end Go.Proofs.YtmfkpoojfpepaaaGreatDoor.Tk
/-
  Contract of token.Cut: all tokens of a text, in a slice of the call's own, or why it has none. Memory that was there is left as it was.
-/
namespace Go.Proofs.YtmfkpoojfpepaaaGreatDoor.Tk
open Go.RowKit
set_option linter.unusedVariables false
set_option linter.unusedSimpArgs false

theorem neq_lex_nil (w : World) : (binOp .neq 34 (.iface 44 (.int .i64 2)) .nilIface).run Tryz.prog w = .ok (.bool true) w := by kernel_rfl
theorem neq_nil_nil (w : World) : (binOp .neq 34 .nilIface .nilIface).run Tryz.prog w = .ok (.bool false) w := by kernel_rfl
theorem infoTok : (Tryz.prog.info? 110).map (fun i => (i.zero, i.size, i.bytes)) = some (some (.agg #[.int .i64 0, .int .i64 0, .int .i64 0, .string ⟨#[]⟩]), 4, 40) := by kernel_rfl

theorem clone_any (s : ByteArray) (hs : s.size ≤ 1048576) (w : World) : Calls Tryz.prog 21 #[.string s] w fun e w' => e = .returned (.string s) ∧ Below w.heap.size w w' := by
  go_enter Tryz.func21, Tryz.ntmps21
  go_wp2_with fail
  refine (Tryz.stringslite_Clone s _ (by omega)).mono ?_
  rintro e w1 ⟨rfl, hb⟩
  go_wp2_with fail
  go_ret
  exact ⟨rfl, hb⟩
theorem cut_large (s : ByteArray) (hs : 500 < s.size) (w : World) : Calls Tryz.prog 87 #[.string s] w fun e w' => e = .returned (.tuple #[.slice none 0 0, .iface 44 (.int .i64 5)]) ∧ w = w' := by
  have hz : (500 : Int) < (s.size : Int) := by omega
  go_enter Tryz.func87, Tryz.ntmps87
  go_wp2_with fail
  exact bodyPost_ret (v := .tuple #[.slice none 0 0, .iface 44 (.int .i64 5)]) (by simp [results, Tryz.results87, go_sem]) rfl ⟨rfl, rfl⟩

set_option maxRecDepth 100000 in
set_option maxHeartbeats 4000000 in
theorem cut_any (s : ByteArray) (hs : s.size ≤ 500) (w : World) (hE : LaidE w) :
    Calls Tryz.prog 87 #[.string s] w fun e w' => CutEnd w w' 110 (.iface 44 (.int .i64 2)) .nilIface e (cutAt 0 s.data.toList) ∧ Below w.heap.size w w' := by
  have q1 := neq_lex_nil
  have q2 := neq_nil_nil
  have hz : ¬ (500 : Int) < (s.size : Int) := by omega
  have HS := Lib.hid (Lib.size_eq s)
  have H5 := Lib.hid hs
  have HE := Lib.hid hE
  obtain ⟨i0, hi, hz0, hz1, hz2⟩ := info_cut infoTok
  clear hs hE
  go_enter Tryz.func87, Tryz.ntmps87
  go_wp2_with fail
  go_loopw [5, 4] (fun va vl wr => CutR w 110 s.data.toList va vl wr) (fun va _ _ => s.size - nOf va)
  case atStart => exact ⟨0, [], rfl, Nat.zero_le _, Lib.hid (by simp), Nat.le_refl _, World.ownsRow_nil _ _ _ _, Below.refl _ _⟩
  case round =>
    obtain ⟨a, ts, rfl, ha, hC, ht, hO, hB⟩ := hrel
    have HA := Lib.hid ha
    have HT := Lib.hid ht
    have HO := Lib.hid hO
    have HB := Lib.hid hB
    clear ha ht hO hB
    by_cases hlt : a < s.size
    · have hlz : (a : Int) < (s.size : Int) := by omega
      have hlz2 : (a : Int) ≤ (s.size : Int) := by omega
      obtain ⟨c, hc⟩ : ∃ c, s[a] = c := ⟨_, rfl⟩
      obtain ⟨r, hr⟩ : ∃ r, s.data.toList.drop a = c :: r := by
        have h1 := Lib.data_getElem? s a hlt
        rw [hc] at h1
        obtain ⟨h2, h3⟩ := List.getElem?_eq_some_iff.1 h1
        exact ⟨_, by rw [List.drop_eq_getElem_cons h2, h3]⟩
      have HR := Lib.hid hr
      clear hr
      by_cases h32 : c.toNat = 32
      · have h32z : ((c.toNat : Nat) : Int) = 32 := by omega
        have HN := Lib.hid (cut_space hC.out HR.out h32)
        clear h32
        go_wp2_with fail
        go_roundw
        case rel => exact ⟨a + 1, ts, by go_num, by have := HS.out; omega, HN, by have := HT.out; omega, HO.out, HB.out⟩
        case measure => simp [nOf]; omega
      · have h32z : ¬ ((c.toNat : Nat) : Int) = 32 := by omega
        have HQ := Lib.hid (show (s.extract a s.size).data.toList = c :: r by rw [Lib.extract_to_end, HR.out])
        have CF := Lib.hid (fun W (hW : LaidE W) => first_any (s.extract a s.size) (by have := H5.out; simp only [ByteArray.size_extract]; omega) c r HQ.out W hW)
        have EW := Lib.hid (HE.out.later HB.out)
        have H32 := Lib.hid h32
        clear h32
        cases hx : lex (c :: r) with
        | none =>
          rw [hx] at CF
          have HN := Lib.hid (cut_bad hC.out HR.out H32.out hx)
          clear hx
          simp only [lexV] at CF
          go_wp2_with fail
          refine (CF.out _ EW.out).mono ?_
          rintro e w1 ⟨rfl, hb1⟩
          have B1 := Lib.hid (HB.out.trans (hb1.mono HB.out.size))
          clear hb1
          go_wp2_with fail
          refine bodyPost_ret (v := .tuple #[.slice none 0 0, .iface 44 (.int .i64 2)]) (by simp [results, Tryz.results87, go_sem]) rfl ⟨?_, ?_⟩
          · rw [HN.out]; exact rfl
          · exact B1.out.alloc B1.out.size _
        | some x =>
          rw [hx] at CF
          have HN := Lib.hid (cut_step hC.out HR.out H32.out hx)
          have HX := Lib.hid (lex_str hx)
          clear hx
          simp only [lexV] at CF
          go_wp2_with fail
          refine (CF.out _ EW.out).mono ?_
          rintro e w1 ⟨rfl, hb1⟩
          have B1 := Lib.hid (HB.out.trans (hb1.mono HB.out.size))
          have O1 := Lib.hid (own4_later HO.out hb1)
          obtain ⟨k, hk⟩ : ∃ k, k = x.kind := ⟨_, rfl⟩
          obtain ⟨n, hn⟩ : ∃ n, n = x.num := ⟨_, rfl⟩
          obtain ⟨str, hstr⟩ : ∃ str : ByteArray, str = ⟨x.str.toArray⟩ := ⟨_, rfl⟩
          obtain ⟨z, hz⟩ : ∃ z, z = x.size := ⟨_, rfl⟩
          rw [← hk, ← hn, ← hstr, ← hz]
          have HZ := Lib.hid (show a + z ≤ 500 by have := HN.out.1; have := HS.out; have := H5.out; omega)
          have hw : wrap64 ((a : Int) + (z : Int)) = ((a + z : Nat) : Int) := by have := HZ.out; unfold wrap64; omega
          have hwz : (a : Int) + (z : Int) = ((a + z : Nat) : Int) := by omega
          have HW := Lib.hid (And.intro hw hwz)
          have HSTR := Lib.hid (show str.size ≤ 1048576 by rw [hstr, bytes_size]; exact str_bound HQ.out H5.out HX.out)
          have HTOK := Lib.hid (show cellT ⟨x.kind, a, x.num, x.str⟩ = [.int .i64 k, .int .i64 (a : Nat), .int .i64 n, .string str] by rw [hk, hn, hstr]; rfl)
          have HZ2 := Lib.hid hz
          clear hb1 hk hn hstr hz hw hwz
          go_wp2_with fail
          refine (clone_any str HSTR.out _).mono ?_
          rintro e w2 ⟨rfl, hb2⟩
          have B2 := Lib.hid ((B1.out.alloc B1.out.size (.cells #[.int .i64 k, .int .i64 (a : Nat), .int .i64 n, .string str] 110)).trans (hb2.mono (by have := B1.out.size; simp; omega)))
          have G2 := Lib.hid ((((Below.refl w1.heap.size w1).alloc (Nat.le_refl _) (.cells #[.int .i64 k, .int .i64 (a : Nat), .int .i64 n, .string str] 110)).trans (hb2.mono (by simp))).setCell (p := ⟨w1.heap.size, 3, none⟩) (Nat.le_refl _) (.string str))
          obtain ⟨c0, c1, c2, c3, cf, cl⟩ := (Blk.new w1 (.int .i64 k) (.int .i64 (a : Nat)) (.int .i64 n) (.string str) 110).later hb2
          have OW := Lib.hid ((own4_later O1.out G2.out).alloc (.cells #[.int .i64 k, .int .i64 (a : Nat), .int .i64 n, .string str] 110))
          have BW := Lib.hid ((B2.out.setCell (p := ⟨w1.heap.size, 3, none⟩) B1.out.size (.string str)).alloc (by have := B2.out.size; simpa using this) (.cells #[.int .i64 k, .int .i64 (a : Nat), .int .i64 n, .string str] 110))
          have NW := Lib.hid (news4 (w2.setCell ⟨w1.heap.size, 3, none⟩ (.string str)) (.int .i64 k) (.int .i64 (a : Nat)) (.int .i64 n) (.string str) 110)
          rw [show (w2.setCell ⟨w1.heap.size, 3, none⟩ (.string str)).heap.size = w2.heap.size by simp] at NW
          obtain ⟨m, hm⟩ : ∃ m, m = ts.length := ⟨_, rfl⟩
          rw [← hm] at OW
          have HM := Lib.hid hm
          have HMB := Lib.hid (show m + 1 ≤ 501 by have := HT.out; have := HZ.out; omega)
          clear hb2 hm
          go_wp2_with (first | (at_builtin; refine wpList_append_own_at _ rfl _ _ 107 rfl w.heap.size 110 i0 (.agg #[.int .i64 0, .int .i64 0, .int .i64 0, .string ⟨#[]⟩]) 4 40 Tryz.underlying107 hi hz0 hz1 hz2 rfl (by decide) _ _ _ rfl OW.out ⟨w2.heap.size, 0, none⟩ 1 1 [.int .i64 k, .int .i64 (a : Nat), .int .i64 n, .string str] rfl rfl NW.out (one4 k _ n str) (by have := HMB.out; unfold maxLen; omega) (by have := HMB.out; omega) BW.out.size ?_))
          intro v1 w3 hown hgrow _ _
          have HBn := Lib.hid (own4_below BW.out OW.out hgrow)
          have HOn := Lib.hid (show w3.ownsRow w.heap.size 110 4 v1 (ts ++ [(⟨x.kind, a, x.num, x.str⟩ : Tok)]).length (cellsT (ts ++ [(⟨x.kind, a, x.num, x.str⟩ : Tok)])) by
            rw [cellsT_app, HTOK.out, List.length_append, ← HM.out]; exact hown)
          clear hgrow hown
          go_wp2
          go_roundw
          case rel => first | exact ⟨a + z, ts ++ [(⟨x.kind, a, x.num, x.str⟩ : Tok)], by first | exact congrArg (Value.int .i64) HW.out.1 | exact congrArg (Value.int .i64) HW.out.2, by rw [HZ2.out]; exact HN.out.1, by rw [HZ2.out]; exact HN.out.2.2, by have := HT.out; have := HN.out.2.1; rw [← HZ2.out] at this; simp; omega, HOn.out, HBn.out⟩ | ((repeat apply Exists.intro); exact ⟨⟨a + z, ts ++ [(⟨x.kind, a, x.num, x.str⟩ : Tok)], by first | exact congrArg (Value.int .i64) HW.out.1 | exact congrArg (Value.int .i64) HW.out.2, by rw [HZ2.out]; exact HN.out.1, by rw [HZ2.out]; exact HN.out.2.2, by have := HT.out; have := HN.out.2.1; rw [← HZ2.out] at this; simp; omega, HOn.out, HBn.out⟩, rfl⟩)
          case measure =>
            have h9 := HN.out.2.1
            rw [← HZ2.out] at h9
            have h8 := HW.out.1
            simp [nOf, h8]
            omega
    · have hlz : ¬ (a : Int) < (s.size : Int) := by omega
      have HN := Lib.hid (cut_all hC.out (by have := HS.out; have := HA.out; omega))
      go_wp2_with fail
      refine bodyPost_ret (v := .tuple #[_, .nilIface]) (by simp [results, Tryz.results87, go_sem]; rfl) rfl ⟨?_, HB.out⟩
      rw [HN.out]
      exact ⟨_, rfl, HO.out⟩
end Go.Proofs.YtmfkpoojfpepaaaGreatDoor.Tk
/-
  A slice that holds tokens, to be read. No program here.
-/
namespace Go.Proofs.YtmfkpoojfpepaaaGreatDoor.Tk
open Go.RowKit
set_option linter.unusedVariables false

theorem cut_few : ∀ (n a : Nat) (l : List UInt8) (ts : List Tok), l.length ≤ n → cutAt a l = some ts → ts.length ≤ l.length
  | n, a, [], ts, _, h => by
    rw [cutAt_nil] at h
    cases h
    simp
  | 0, a, c :: r, ts, hn, _ => by simp at hn
  | n + 1, a, c :: r, ts, hn, h => by
    simp only [List.length_cons] at hn
    by_cases hc : c.toNat = 32
    · rw [cutAt_space hc] at h
      have := cut_few n (a + 1) r ts (by omega) h
      simp only [List.length_cons]
      omega
    · cases hx : lex (c :: r) with
      | none => rw [cutAt_none hc a r hx] at h; cases h
      | some x =>
        have hz := lex_size hx
        rw [cutAt_some hc a r hx] at h
        obtain ⟨us, hu, rfl⟩ := Option.map_eq_some_iff.1 h
        have hl : ((c :: r).drop x.size).length = (c :: r).length - x.size := by simp
        have := cut_few n (a + x.size) _ us (by rw [hl]; simp only [List.length_cons]; omega) hu
        simp only [List.length_cons] at hl ⊢ this
        omega
/-- v is a slice that holds ts; its block was there below z. -/
def TksAt (W : World) (z : Nat) (a : Option Addr) (ts : List Tok) : Prop :=
  z ≤ W.heap.size ∧ (0 < ts.length → ∃ g, a = some ⟨g, 0, none⟩ ∧ g < z ∧ ∀ (k : Nat) (h : k < ts.length), W.cell? ⟨g, k * 4, none⟩ = some (.int .i64 ts[k].kind) ∧ W.cell? ⟨g, k * 4 + 1, none⟩ = some (.int .i64 (ts[k].pos : Nat)) ∧
    W.cell? ⟨g, k * 4 + 2, none⟩ = some (.int .i64 ts[k].num) ∧ W.cell? ⟨g, k * 4 + 3, none⟩ = some (.string ⟨ts[k].str.toArray⟩))
theorem TksAt.later {W V : World} {z : Nat} {a : Option Addr} {ts : List Tok} (h : TksAt W z a ts) (hB : Below z W V) : TksAt V z a ts := by
  refine ⟨Nat.le_trans h.1 hB.size, fun h0 => ?_⟩
  obtain ⟨g, e, hg, hc⟩ := h.2 h0
  refine ⟨g, e, hg, fun k hk => ?_⟩
  obtain ⟨c0, c1, c2, c3⟩ := hc k hk
  exact ⟨(hB.cell (p := ⟨g, _, none⟩) hg).trans c0, (hB.cell (p := ⟨g, _, none⟩) hg).trans c1, (hB.cell (p := ⟨g, _, none⟩) hg).trans c2, (hB.cell (p := ⟨g, _, none⟩) hg).trans c3⟩
theorem TksAt.wide {W : World} {z z' : Nat} {a : Option Addr} {ts : List Tok} (h : TksAt W z a ts) (h1 : z ≤ z') (h2 : z' ≤ W.heap.size) : TksAt W z' a ts := by
  refine ⟨h2, fun h0 => ?_⟩
  obtain ⟨g, e, hg, hc⟩ := h.2 h0
  exact ⟨g, e, by omega, hc⟩
theorem s_same {p q r t b : Prop} (h : p ∧ q ∧ r ∧ t ∧ b) : b := h.2.2.2.2
theorem own_tks {W : World} {base : Nat} {t : TypeId} {v : Value} {ts : List Tok} (h : W.ownsRow base t 4 v ts.length (cellsT ts)) : ∃ a cap, v = .slice a ts.length cap ∧ TksAt W W.heap.size a ts := by
  have h2 := h
  rcases h.2 with ⟨rfl, e⟩ | ⟨g, cap, cur, rfl, _, hh, _⟩
  · refine ⟨none, 0, by rw [e], Nat.le_refl _, fun h0 => by omega⟩
  · refine ⟨_, cap, rfl, Nat.le_refl _, fun _ => ⟨g, rfl, (Array.getElem?_eq_some_iff.1 hh).1, fun k hk => ?_⟩⟩
    have d := fun (j : Nat) (hj : j < 4) => (h2.cellAt (k * 4 + j) (by omega)).trans (cellsT_get ts k hk j hj)
    exact ⟨by have q := d 0 (by omega); revert q; simp [cellT], by have q := d 1 (by omega); revert q; simp [cellT], by have q := d 2 (by omega); revert q; simp [cellT], by have q := d 3 (by omega); revert q; simp [cellT]⟩
end Go.Proofs.YtmfkpoojfpepaaaGreatDoor.Tk
/-
  A text from a place on, byte by byte; what is told of the token at a place. No program here.
-/
namespace Go.Proofs.YtmfkpoojfpepaaaGreatDoor.Tk
open Go.RowKit
set_option linter.unusedVariables false

theorem at_len {s : ByteArray} {a : Nat} {c : UInt8} {r : List UInt8} (hL : s.data.toList.drop a = c :: r) : a + (r.length + 1) = s.size := by
  have : (s.data.toList.drop a).length = (c :: r).length := by rw [hL]
  rw [List.length_drop, ← Lib.size_eq] at this
  simp only [List.length_cons] at this
  omega
theorem byte_at {s : ByteArray} {f p k : Nat} {D : List UInt8} (hD : s.data.toList.drop f = D) (hp : p = f + k) (h : p < s.size) : D[k]? = some s[p] := by
  rw [← hD, List.getElem?_drop, ← hp]
  exact Lib.data_getElem? s p h
theorem at_byte {s : ByteArray} {a : Nat} {c : UInt8} {r : List UInt8} (hL : s.data.toList.drop a = c :: r) (h : a < s.size) : s[a] = c := by
  have := byte_at hL (show a = a + 0 from rfl) h
  simpa using this.symm
theorem piece_at {s : ByteArray} {f p k : Nat} {D : List UInt8} (hD : s.data.toList.drop f = D) (hp : p = f + k) : s.extract f p = ⟨(D.take k).toArray⟩ := by
  rw [piece, hD, hp]
  congr 3
  omega
theorem piece_list {s : ByteArray} {f p k : Nat} {D : List UInt8} (hD : s.data.toList.drop f = D) (hp : p = f + k) : (s.extract f p).toList = D.take k := by
  rw [piece_at hD hp, Lib.toList_data]
theorem grown {p : UInt8 → Bool} {l : List UInt8} {k : Nat} {c : UInt8} (h : ∀ (j : Nat) (c : UInt8), j < k → l[j]? = some c → p c = true) (hc : l[k]? = some c) (hp : p c = true) : ∀ (j : Nat) (c : UInt8), j < k + 1 → l[j]? = some c → p c = true := by
  intro j d hj hd
  by_cases e : j = k
  · subst e
    rw [hc] at hd
    cases hd
    exact hp
  · exact h j d (by omega) hd
def natOf : Value → Nat | .int _ n => n.toNat | _ => 0
/-- Between the rounds: so far k bytes of D, which begins at f, are all of one sort. -/
def OneR (P : UInt8 → Bool) (D : List UInt8) (f : Nat) (v : World) (va : Value) (wr : World) : Prop :=
  ∃ p k : Nat, va = .int .i64 (p : Nat) ∧ Hid (p = f + k ∧ k ≤ D.length) ∧ Hid (∀ (j : Nat) (c : UInt8), j < k → D[j]? = some c → P c = true) ∧ v = wr
/-- What is told of the token at a. -/
def OneEnd (a : Nat) (e : Ending) : Option Lx → Prop
  | none => ∃ (k p n : Int) (str : ByteArray) (z : Int), e = .returned (.tuple #[.agg #[.int .i64 k, .int .i64 p, .int .i64 n, .string str], .int .i64 z, .bool false])
  | some x => e = .returned (.tuple #[.agg #[.int .i64 x.kind, .int .i64 (a : Nat), .int .i64 x.num, .string ⟨x.str.toArray⟩], .int .i64 ((a + x.size : Nat) : Int), .bool true])
/-- What is told of a number at a. -/
def NumEnd (a : Nat) (e : Ending) : Option Lx → Prop
  | none => ∃ n z : Int, e = .returned (.tuple #[.int .i64 n, .int .i64 z, .bool false])
  | some x => e = .returned (.tuple #[.int .i64 x.num, .int .i64 ((a + x.size : Nat) : Int), .bool true])
theorem wrap_small (n : Nat) (h : n ≤ 1000000) : wrap64 (n : Int) = (n : Int) := by unfold wrap64; omega
theorem wrap_succ (n : Nat) (h : n ≤ 1000000) : wrap64 ((n : Int) + 1) = ((n + 1 : Nat) : Int) := by unfold wrap64; omega
theorem wrap_sub {p f k : Nat} (h : p = f + k) (hk : k ≤ 1000000) : wrap64 ((p : Int) - (f : Int)) = (k : Int) := by unfold wrap64; omega
theorem sub_is {p f k : Nat} (h : p = f + k) : (p : Int) - (f : Int) = (k : Int) := by omega
theorem beq_no {p f : Nat} (h : p ≠ f) : ((p : Int) == (f : Int)) = false := by rw [beq_eq_false_iff_ne]; omega
theorem beq_yes {p f : Nat} (h : p = f) : ((p : Int) == (f : Int)) = true := by rw [h]; simp
theorem i64_small (n : Nat) (h : n ≤ 1000000) : IntKind.i64.wrap (n : Int) = (n : Int) := IntWalk.i64_in _ (by omega)
theorem i64_succ (n : Nat) (h : n ≤ 1000000) : IntKind.i64.wrap ((n : Int) + 1) = (n : Int) + 1 := IntWalk.i64_in _ (by omega)
theorem num_x2 {d : UInt8} {d1 : Int} (h : 48 ≤ d.toNat ∧ d.toNat ≤ 57) (e : d1 = ((d.toNat : Nat) : Int) - 48) : IntKind.u8.wrap (((d.toNat : Nat) : Int) - 48) = d1 := by rw [IntKind.wrap_u8]; omega
theorem num_x3 {d : UInt8} {d1 : Int} (h : 48 ≤ d.toNat ∧ d.toNat ≤ 57) (e : d1 = ((d.toNat : Nat) : Int) - 48) : IntKind.u64.wrap d1 = d1 := by rw [IntKind.wrap_u64]; omega
theorem num_x4 {d : UInt8} {d1 p1 : Int} {q1 nn : Nat} (h : 48 ≤ d.toNat ∧ d.toNat ≤ 57) (e : d1 = ((d.toNat : Nat) : Int) - 48) (ep : p1 = (10 * (nn : Int)) % 18446744073709551616) (eq : q1 = (10 * nn + (d.toNat - 48)) % 18446744073709551616) :
    IntKind.u64.wrap (p1 + d1) = (q1 : Int) := by rw [IntKind.wrap_u64, eq, ep, e]; omega
theorem num_case (nn : Nat) (d : Nat) : 922337203685477580 < nn ∨ (nn = 922337203685477580 ∧ 56 < d) ∨ (nn = 922337203685477580 ∧ ¬ 56 < d) ∨ nn < 922337203685477580 := by omega
theorem int_gt {n m : Nat} (h : n < m) : (n : Int) < (m : Int) := by omega
theorem int_ngt {n m : Nat} (h : ¬ n < m) : ¬ (n : Int) < (m : Int) := by omega
theorem neg_facts {nn : Nat} {m1 : Int} (h1 : 1 ≤ nn) (h2 : nn ≤ 9223372036854775808) (e : m1 = (nn : Int) - 1) :
    IntKind.u64.wrap ((nn : Int) - 1) = m1 ∧ IntKind.i64.wrap m1 = m1 ∧ wrap64 m1 = m1 ∧ wrap64 (-m1) = -m1 ∧ wrap64 (-m1 - 1) = -(nn : Int) :=
  ⟨by rw [IntKind.wrap_u64]; omega, IntWalk.i64_in _ (by omega), by unfold wrap64; omega, by unfold wrap64; omega, by unfold wrap64; omega⟩
theorem pos_facts {nn : Nat} (h : nn < 9223372036854775808) : IntKind.i64.wrap (nn : Int) = (nn : Int) ∧ wrap64 (nn : Int) = (nn : Int) := ⟨IntWalk.i64_in _ (by omega), by unfold wrap64; omega⟩
theorem low_not {c : UInt8} (h : low c = true) : dig c = false := by
  simp only [low, dig, Bool.and_eq_true, decide_eq_true_eq, Bool.and_eq_false_iff, decide_eq_false_iff_not] at h ⊢
  omega
end Go.Proofs.YtmfkpoojfpepaaaGreatDoor.Tk
namespace Go.Proofs.YtmfkpoojfpepaaaGreatDoor.Tk
open Go.RowKit
set_option linter.unusedVariables false
set_option linter.unusedSimpArgs false

set_option maxRecDepth 100000 in
set_option maxHeartbeats 8000000 in
theorem oneName (s : ByteArray) (hs : s.size ≤ 500) (a : Nat) (c : UInt8) (r : List UInt8) (hL : s.data.toList.drop a = c :: r) (h1 : low c = true) (w : World) :
    Calls Tryz.prog 58 #[.string s, .int .i64 (a : Nat)] w fun e w' => OneEnd a e (nameL (c :: r)) ∧ Below w.heap.size w w' := by
  have hlen := at_len hL
  have halt : a < s.size := by omega
  have haz : (a : Int) < (s.size : Int) := by omega
  have hb0 := at_byte hL halt
  have HL := Lib.hid hL
  have HLEN := Lib.hid hlen
  have H5 := Lib.hid hs
  clear hL hlen hs
  have H1 := Lib.hid h1
  have H2 := Lib.hid (low_not h1)
  obtain ⟨D, hD⟩ : ∃ D, D = c :: r := ⟨_, rfl⟩
  have HD := Lib.hid (show s.data.toList.drop a = D by rw [hD]; exact HL.out)
  have HDL := Lib.hid (show a + D.length = s.size by rw [hD]; exact HLEN.out)
  rw [← hD]
  clear h1 hD
  go_enter Tryz.func58, Tryz.ntmps58
  go_wp2_with fail
  refine (refLow_any c _).mono ?_
  rintro e w1 ⟨rfl, rfl⟩
  rw [H1.out]
  go_wp2_with fail
  refine (refDigit_any c _).mono ?_
  rintro e w1 ⟨rfl, rfl⟩
  rw [H2.out]
  go_wp2_with fail
  go_loopw [8] (fun va wr => OneR nmB D a (w.alloc (.cells #[.int .i64 0, .int .i64 0, .int .i64 0, .string ⟨#[]⟩] 82)) va wr) (fun va _ => s.size - natOf va)
  case atStart => exact ⟨a, 0, rfl, Lib.hid ⟨rfl, Nat.zero_le _⟩, Lib.hid (fun j c h => absurd h (Nat.not_lt_zero _)), rfl⟩
  case round =>
    obtain ⟨p, k, rfl, hpk, hall, rfl⟩ := hrel
    by_cases hlt : p < s.size
    · have hlz : (p : Int) < (s.size : Int) := by omega
      have HDK0 := byte_at HD.out hpk.out.1 hlt
      obtain ⟨d, hd⟩ : ∃ d, s[p] = d := ⟨_, rfl⟩
      rw [hd] at HDK0
      have HDK := Lib.hid HDK0
      clear HDK0
      obtain ⟨x, hx⟩ : ∃ x, low d = x := ⟨_, rfl⟩
      have HLW := Lib.hid hx
      obtain ⟨y, hy⟩ : ∃ y, dig d = y := ⟨_, rfl⟩
      have HDG := Lib.hid hy
      have HN0 : nmB d = (x || y) := by rw [nmB, hx, hy]
      clear hx hy
      cases x
      · cases y
        · have hrun := run_eq nmB D k hpk.out.2 hall.out (fun e he => by have := HDK.out.symm.trans he; cases this; exact HN0)
          clear HN0
          have hk := hpk.out
          have hk6 : k ≤ 1000000 := by have := H5.out; have := HDL.out; omega
          have HKZ := Lib.hid (And.intro (wrap_sub hk.1 hk6) (wrap_small k hk6))
          have hkz2 : (p : Int) - (a : Int) = (k : Int) := sub_is hk.1
          have hap : (a : Int) ≤ (p : Int) := by omega
          have hps : (p : Int) ≤ (s.size : Int) := by have := HDL.out; omega
          have HPL := Lib.hid (piece_list HD.out hk.1)
          have HPA := Lib.hid (piece_at HD.out hk.1)
          have HKP := Lib.hid hk.1
          have HRUN := Lib.hid hrun
          have HLK := Lib.hid (show (D.take k).length = k by have := hk.2; simp; omega)
          clear hk hrun
          by_cases h20 : k ≤ 20
          · have z20 : (k : Int) ≤ 20 := by omega
            have HN := Lib.hid (show nameL D = some ⟨if wordB (D.take k) then 2 else 1, 0, D.take k, k⟩ by unfold nameL; rw [HRUN.out, if_pos h20])
            clear h20
            by_cases e0 : ((s.extract a p).toList == [97, 110, 100]) = true
            · have HW := Lib.hid (show wordB (D.take k) = true by unfold wordB; rw [← HPL.out, e0]; simp)
              have hkz := HKZ.out.1
              have hkz3 := HKZ.out.2
              go_wp2_with fail
              refine (refLow_any d _).mono ?_
              rintro e w1 ⟨rfl, rfl⟩
              rw [HLW.out]
              go_wp2_with fail
              refine (refDigit_any d _).mono ?_
              rintro e w1 ⟨rfl, rfl⟩
              rw [HDG.out]
              go_wp2_with fail
              refine bodyPost_ret (v := .tuple #[.agg #[.int .i64 2, .int .i64 (a : Nat), .int .i64 0, .string (s.extract a p)], .int .i64 (p : Nat), .bool true]) (by simp [results, Tryz.results58, go_sem, *]) rfl ⟨?_, ?_⟩
              · rw [HN.out, HW.out, HPA.out, HKP.out]
                exact rfl
              · exact ((Below.refl _ _).alloc (Nat.le_refl _) _).alloc (by simp) _
            · have e0 := Lib.hid (show ((s.extract a p).toList == [97, 110, 100]) = false by simpa using e0)
              by_cases e1 : ((s.extract a p).toList == [111, 114]) = true
              · have HW := Lib.hid (show wordB (D.take k) = true by unfold wordB; rw [← HPL.out, e0.out, e1]; simp)
                have y0 := e0.out
                have hkz := HKZ.out.1
                have hkz3 := HKZ.out.2
                go_wp2_with fail
                refine (refLow_any d _).mono ?_
                rintro e w1 ⟨rfl, rfl⟩
                rw [HLW.out]
                go_wp2_with fail
                refine (refDigit_any d _).mono ?_
                rintro e w1 ⟨rfl, rfl⟩
                rw [HDG.out]
                go_wp2_with fail
                refine bodyPost_ret (v := .tuple #[.agg #[.int .i64 2, .int .i64 (a : Nat), .int .i64 0, .string (s.extract a p)], .int .i64 (p : Nat), .bool true]) (by simp [results, Tryz.results58, go_sem, *]) rfl ⟨?_, ?_⟩
                · rw [HN.out, HW.out, HPA.out, HKP.out]
                  exact rfl
                · exact ((Below.refl _ _).alloc (Nat.le_refl _) _).alloc (by simp) _
              · have e1 := Lib.hid (show ((s.extract a p).toList == [111, 114]) = false by simpa using e1)
                by_cases e2 : ((s.extract a p).toList == [110, 111, 116]) = true
                · have HW := Lib.hid (show wordB (D.take k) = true by unfold wordB; rw [← HPL.out, e0.out, e1.out, e2]; simp)
                  have y0 := e0.out
                  have y1 := e1.out
                  have hkz := HKZ.out.1
                  have hkz3 := HKZ.out.2
                  go_wp2_with fail
                  refine (refLow_any d _).mono ?_
                  rintro e w1 ⟨rfl, rfl⟩
                  rw [HLW.out]
                  go_wp2_with fail
                  refine (refDigit_any d _).mono ?_
                  rintro e w1 ⟨rfl, rfl⟩
                  rw [HDG.out]
                  go_wp2_with fail
                  refine bodyPost_ret (v := .tuple #[.agg #[.int .i64 2, .int .i64 (a : Nat), .int .i64 0, .string (s.extract a p)], .int .i64 (p : Nat), .bool true]) (by simp [results, Tryz.results58, go_sem, *]) rfl ⟨?_, ?_⟩
                  · rw [HN.out, HW.out, HPA.out, HKP.out]
                    exact rfl
                  · exact ((Below.refl _ _).alloc (Nat.le_refl _) _).alloc (by simp) _
                · have e2 := Lib.hid (show ((s.extract a p).toList == [110, 111, 116]) = false by simpa using e2)
                  by_cases e3 : ((s.extract a p).toList == [105, 110]) = true
                  · have HW := Lib.hid (show wordB (D.take k) = true by unfold wordB; rw [← HPL.out, e0.out, e1.out, e2.out, e3]; simp)
                    have y0 := e0.out
                    have y1 := e1.out
                    have y2 := e2.out
                    have hkz := HKZ.out.1
                    have hkz3 := HKZ.out.2
                    go_wp2_with fail
                    refine (refLow_any d _).mono ?_
                    rintro e w1 ⟨rfl, rfl⟩
                    rw [HLW.out]
                    go_wp2_with fail
                    refine (refDigit_any d _).mono ?_
                    rintro e w1 ⟨rfl, rfl⟩
                    rw [HDG.out]
                    go_wp2_with fail
                    refine bodyPost_ret (v := .tuple #[.agg #[.int .i64 2, .int .i64 (a : Nat), .int .i64 0, .string (s.extract a p)], .int .i64 (p : Nat), .bool true]) (by simp [results, Tryz.results58, go_sem, *]) rfl ⟨?_, ?_⟩
                    · rw [HN.out, HW.out, HPA.out, HKP.out]
                      exact rfl
                    · exact ((Below.refl _ _).alloc (Nat.le_refl _) _).alloc (by simp) _
                  · have e3 := Lib.hid (show ((s.extract a p).toList == [105, 110]) = false by simpa using e3)
                    by_cases e4 : ((s.extract a p).toList == [116, 114, 117, 101]) = true
                    · have HW := Lib.hid (show wordB (D.take k) = true by unfold wordB; rw [← HPL.out, e0.out, e1.out, e2.out, e3.out, e4]; simp)
                      have y0 := e0.out
                      have y1 := e1.out
                      have y2 := e2.out
                      have y3 := e3.out
                      have hkz := HKZ.out.1
                      have hkz3 := HKZ.out.2
                      go_wp2_with fail
                      refine (refLow_any d _).mono ?_
                      rintro e w1 ⟨rfl, rfl⟩
                      rw [HLW.out]
                      go_wp2_with fail
                      refine (refDigit_any d _).mono ?_
                      rintro e w1 ⟨rfl, rfl⟩
                      rw [HDG.out]
                      go_wp2_with fail
                      refine bodyPost_ret (v := .tuple #[.agg #[.int .i64 2, .int .i64 (a : Nat), .int .i64 0, .string (s.extract a p)], .int .i64 (p : Nat), .bool true]) (by simp [results, Tryz.results58, go_sem, *]) rfl ⟨?_, ?_⟩
                      · rw [HN.out, HW.out, HPA.out, HKP.out]
                        exact rfl
                      · exact ((Below.refl _ _).alloc (Nat.le_refl _) _).alloc (by simp) _
                    · have e4 := Lib.hid (show ((s.extract a p).toList == [116, 114, 117, 101]) = false by simpa using e4)
                      have HW := Lib.hid (show wordB (D.take k) = false by unfold wordB; rw [← HPL.out, e0.out, e1.out, e2.out, e3.out, e4.out]; rfl)
                      have y0 := e0.out
                      have y1 := e1.out
                      have y2 := e2.out
                      have y3 := e3.out
                      have y4 := e4.out
                      have hkz := HKZ.out.1
                      have hkz3 := HKZ.out.2
                      go_wp2_with fail
                      refine (refLow_any d _).mono ?_
                      rintro e w1 ⟨rfl, rfl⟩
                      rw [HLW.out]
                      go_wp2_with fail
                      refine (refDigit_any d _).mono ?_
                      rintro e w1 ⟨rfl, rfl⟩
                      rw [HDG.out]
                      go_wp2_with fail
                      refine bodyPost_ret (v := .tuple #[.agg #[.int .i64 1, .int .i64 (a : Nat), .int .i64 0, .string (s.extract a p)], .int .i64 (p : Nat), .bool true]) (by simp [results, Tryz.results58, go_sem, *]) rfl ⟨?_, ?_⟩
                      · rw [HN.out, HW.out, HPA.out, HKP.out]
                        exact rfl
                      · exact ((Below.refl _ _).alloc (Nat.le_refl _) _).alloc (by simp) _
          · have z20 : ¬ (k : Int) ≤ 20 := by omega
            have HN := Lib.hid (show nameL D = none by unfold nameL; rw [HRUN.out, if_neg h20])
            have y0 : ((s.extract a p).toList == [97, 110, 100]) = false := by rw [HPL.out, beq_eq_false_iff_ne]; intro e; have := HLK.out; rw [e] at this; simp at this; omega
            have y1 : ((s.extract a p).toList == [111, 114]) = false := by rw [HPL.out, beq_eq_false_iff_ne]; intro e; have := HLK.out; rw [e] at this; simp at this; omega
            have y2 : ((s.extract a p).toList == [110, 111, 116]) = false := by rw [HPL.out, beq_eq_false_iff_ne]; intro e; have := HLK.out; rw [e] at this; simp at this; omega
            have y3 : ((s.extract a p).toList == [105, 110]) = false := by rw [HPL.out, beq_eq_false_iff_ne]; intro e; have := HLK.out; rw [e] at this; simp at this; omega
            have y4 : ((s.extract a p).toList == [116, 114, 117, 101]) = false := by rw [HPL.out, beq_eq_false_iff_ne]; intro e; have := HLK.out; rw [e] at this; simp at this; omega
            clear h20
            have hkz := HKZ.out.1
            have hkz3 := HKZ.out.2
            go_wp2_with fail
            refine (refLow_any d _).mono ?_
            rintro e w1 ⟨rfl, rfl⟩
            rw [HLW.out]
            go_wp2_with fail
            refine (refDigit_any d _).mono ?_
            rintro e w1 ⟨rfl, rfl⟩
            rw [HDG.out]
            go_wp2_with fail
            refine bodyPost_ret (v := .tuple #[.agg #[.int .i64 1, .int .i64 (a : Nat), .int .i64 0, .string (s.extract a p)], .int .i64 (p : Nat), .bool false]) (by simp [results, Tryz.results58, go_sem, *]) rfl ⟨?_, ?_⟩
            · rw [HN.out]
              exact ⟨1, (a : Nat), 0, _, (p : Nat), rfl⟩
            · exact ((Below.refl _ _).alloc (Nat.le_refl _) _).alloc (by simp) _
        · have HN := Lib.hid (show nmB d = true from HN0)
          clear HN0
          go_wp2_with fail
          refine (refLow_any d _).mono ?_
          rintro e w1 ⟨rfl, rfl⟩
          rw [HLW.out]
          go_wp2_with fail
          refine (refDigit_any d _).mono ?_
          rintro e w1 ⟨rfl, rfl⟩
          rw [HDG.out]
          have HX5 := Lib.hid (wrap_succ p (by have := H5.out; omega))
          go_wp2_with fail
          go_roundw
          case rel => exact ⟨p + 1, k + 1, by first | exact congrArg (Value.int .i64) HX5.out | go_num, Lib.hid ⟨by have := hpk.out; omega, by have := hpk.out; have := HDL.out; omega⟩, Lib.hid (grown hall.out HDK.out HN.out), rfl⟩
          case measure => (simp [natOf, HX5.out]; omega)
      · have HN := Lib.hid (show nmB d = true from HN0)
        clear HN0
        go_wp2_with fail
        refine (refLow_any d _).mono ?_
        rintro e w1 ⟨rfl, rfl⟩
        rw [HLW.out]
        have HX5 := Lib.hid (wrap_succ p (by have := H5.out; omega))
        go_wp2_with fail
        go_roundw
        case rel => exact ⟨p + 1, k + 1, by first | exact congrArg (Value.int .i64) HX5.out | go_num, Lib.hid ⟨by have := hpk.out; omega, by have := hpk.out; have := HDL.out; omega⟩, Lib.hid (grown hall.out HDK.out HN.out), rfl⟩
        case measure => (simp [natOf, HX5.out]; omega)
    · have hlz : ¬ (p : Int) < (s.size : Int) := by omega
      have hrun := run_eq nmB D k hpk.out.2 hall.out (fun e he => by have h1 := (List.getElem?_eq_some_iff.1 he).1; have := hpk.out; have := HDL.out; omega)
      have hk := hpk.out
      have hk6 : k ≤ 1000000 := by have := H5.out; have := HDL.out; omega
      have HKZ := Lib.hid (And.intro (wrap_sub hk.1 hk6) (wrap_small k hk6))
      have hkz2 : (p : Int) - (a : Int) = (k : Int) := sub_is hk.1
      have hap : (a : Int) ≤ (p : Int) := by omega
      have hps : (p : Int) ≤ (s.size : Int) := by have := HDL.out; omega
      have HPL := Lib.hid (piece_list HD.out hk.1)
      have HPA := Lib.hid (piece_at HD.out hk.1)
      have HKP := Lib.hid hk.1
      have HRUN := Lib.hid hrun
      have HLK := Lib.hid (show (D.take k).length = k by have := hk.2; simp; omega)
      clear hk hrun
      by_cases h20 : k ≤ 20
      · have z20 : (k : Int) ≤ 20 := by omega
        have HN := Lib.hid (show nameL D = some ⟨if wordB (D.take k) then 2 else 1, 0, D.take k, k⟩ by unfold nameL; rw [HRUN.out, if_pos h20])
        clear h20
        by_cases e0 : ((s.extract a p).toList == [97, 110, 100]) = true
        · have HW := Lib.hid (show wordB (D.take k) = true by unfold wordB; rw [← HPL.out, e0]; simp)
          have hkz := HKZ.out.1
          have hkz3 := HKZ.out.2
          go_wp2_with fail
          refine bodyPost_ret (v := .tuple #[.agg #[.int .i64 2, .int .i64 (a : Nat), .int .i64 0, .string (s.extract a p)], .int .i64 (p : Nat), .bool true]) (by simp [results, Tryz.results58, go_sem, *]) rfl ⟨?_, ?_⟩
          · rw [HN.out, HW.out, HPA.out, HKP.out]
            exact rfl
          · exact ((Below.refl _ _).alloc (Nat.le_refl _) _).alloc (by simp) _
        · have e0 := Lib.hid (show ((s.extract a p).toList == [97, 110, 100]) = false by simpa using e0)
          by_cases e1 : ((s.extract a p).toList == [111, 114]) = true
          · have HW := Lib.hid (show wordB (D.take k) = true by unfold wordB; rw [← HPL.out, e0.out, e1]; simp)
            have y0 := e0.out
            have hkz := HKZ.out.1
            have hkz3 := HKZ.out.2
            go_wp2_with fail
            refine bodyPost_ret (v := .tuple #[.agg #[.int .i64 2, .int .i64 (a : Nat), .int .i64 0, .string (s.extract a p)], .int .i64 (p : Nat), .bool true]) (by simp [results, Tryz.results58, go_sem, *]) rfl ⟨?_, ?_⟩
            · rw [HN.out, HW.out, HPA.out, HKP.out]
              exact rfl
            · exact ((Below.refl _ _).alloc (Nat.le_refl _) _).alloc (by simp) _
          · have e1 := Lib.hid (show ((s.extract a p).toList == [111, 114]) = false by simpa using e1)
            by_cases e2 : ((s.extract a p).toList == [110, 111, 116]) = true
            · have HW := Lib.hid (show wordB (D.take k) = true by unfold wordB; rw [← HPL.out, e0.out, e1.out, e2]; simp)
              have y0 := e0.out
              have y1 := e1.out
              have hkz := HKZ.out.1
              have hkz3 := HKZ.out.2
              go_wp2_with fail
              refine bodyPost_ret (v := .tuple #[.agg #[.int .i64 2, .int .i64 (a : Nat), .int .i64 0, .string (s.extract a p)], .int .i64 (p : Nat), .bool true]) (by simp [results, Tryz.results58, go_sem, *]) rfl ⟨?_, ?_⟩
              · rw [HN.out, HW.out, HPA.out, HKP.out]
                exact rfl
              · exact ((Below.refl _ _).alloc (Nat.le_refl _) _).alloc (by simp) _
            · have e2 := Lib.hid (show ((s.extract a p).toList == [110, 111, 116]) = false by simpa using e2)
              by_cases e3 : ((s.extract a p).toList == [105, 110]) = true
              · have HW := Lib.hid (show wordB (D.take k) = true by unfold wordB; rw [← HPL.out, e0.out, e1.out, e2.out, e3]; simp)
                have y0 := e0.out
                have y1 := e1.out
                have y2 := e2.out
                have hkz := HKZ.out.1
                have hkz3 := HKZ.out.2
                go_wp2_with fail
                refine bodyPost_ret (v := .tuple #[.agg #[.int .i64 2, .int .i64 (a : Nat), .int .i64 0, .string (s.extract a p)], .int .i64 (p : Nat), .bool true]) (by simp [results, Tryz.results58, go_sem, *]) rfl ⟨?_, ?_⟩
                · rw [HN.out, HW.out, HPA.out, HKP.out]
                  exact rfl
                · exact ((Below.refl _ _).alloc (Nat.le_refl _) _).alloc (by simp) _
              · have e3 := Lib.hid (show ((s.extract a p).toList == [105, 110]) = false by simpa using e3)
                by_cases e4 : ((s.extract a p).toList == [116, 114, 117, 101]) = true
                · have HW := Lib.hid (show wordB (D.take k) = true by unfold wordB; rw [← HPL.out, e0.out, e1.out, e2.out, e3.out, e4]; simp)
                  have y0 := e0.out
                  have y1 := e1.out
                  have y2 := e2.out
                  have y3 := e3.out
                  have hkz := HKZ.out.1
                  have hkz3 := HKZ.out.2
                  go_wp2_with fail
                  refine bodyPost_ret (v := .tuple #[.agg #[.int .i64 2, .int .i64 (a : Nat), .int .i64 0, .string (s.extract a p)], .int .i64 (p : Nat), .bool true]) (by simp [results, Tryz.results58, go_sem, *]) rfl ⟨?_, ?_⟩
                  · rw [HN.out, HW.out, HPA.out, HKP.out]
                    exact rfl
                  · exact ((Below.refl _ _).alloc (Nat.le_refl _) _).alloc (by simp) _
                · have e4 := Lib.hid (show ((s.extract a p).toList == [116, 114, 117, 101]) = false by simpa using e4)
                  have HW := Lib.hid (show wordB (D.take k) = false by unfold wordB; rw [← HPL.out, e0.out, e1.out, e2.out, e3.out, e4.out]; rfl)
                  have y0 := e0.out
                  have y1 := e1.out
                  have y2 := e2.out
                  have y3 := e3.out
                  have y4 := e4.out
                  have hkz := HKZ.out.1
                  have hkz3 := HKZ.out.2
                  go_wp2_with fail
                  refine bodyPost_ret (v := .tuple #[.agg #[.int .i64 1, .int .i64 (a : Nat), .int .i64 0, .string (s.extract a p)], .int .i64 (p : Nat), .bool true]) (by simp [results, Tryz.results58, go_sem, *]) rfl ⟨?_, ?_⟩
                  · rw [HN.out, HW.out, HPA.out, HKP.out]
                    exact rfl
                  · exact ((Below.refl _ _).alloc (Nat.le_refl _) _).alloc (by simp) _
      · have z20 : ¬ (k : Int) ≤ 20 := by omega
        have HN := Lib.hid (show nameL D = none by unfold nameL; rw [HRUN.out, if_neg h20])
        have y0 : ((s.extract a p).toList == [97, 110, 100]) = false := by rw [HPL.out, beq_eq_false_iff_ne]; intro e; have := HLK.out; rw [e] at this; simp at this; omega
        have y1 : ((s.extract a p).toList == [111, 114]) = false := by rw [HPL.out, beq_eq_false_iff_ne]; intro e; have := HLK.out; rw [e] at this; simp at this; omega
        have y2 : ((s.extract a p).toList == [110, 111, 116]) = false := by rw [HPL.out, beq_eq_false_iff_ne]; intro e; have := HLK.out; rw [e] at this; simp at this; omega
        have y3 : ((s.extract a p).toList == [105, 110]) = false := by rw [HPL.out, beq_eq_false_iff_ne]; intro e; have := HLK.out; rw [e] at this; simp at this; omega
        have y4 : ((s.extract a p).toList == [116, 114, 117, 101]) = false := by rw [HPL.out, beq_eq_false_iff_ne]; intro e; have := HLK.out; rw [e] at this; simp at this; omega
        clear h20
        have hkz := HKZ.out.1
        have hkz3 := HKZ.out.2
        go_wp2_with fail
        refine bodyPost_ret (v := .tuple #[.agg #[.int .i64 1, .int .i64 (a : Nat), .int .i64 0, .string (s.extract a p)], .int .i64 (p : Nat), .bool false]) (by simp [results, Tryz.results58, go_sem, *]) rfl ⟨?_, ?_⟩
        · rw [HN.out]
          exact ⟨1, (a : Nat), 0, _, (p : Nat), rfl⟩
        · exact ((Below.refl _ _).alloc (Nat.le_refl _) _).alloc (by simp) _
end Go.Proofs.YtmfkpoojfpepaaaGreatDoor.Tk
