/-
  Readers of bytes, as steps on an error's number and what is left: what they come to, and that it is what the formats tell. No program here.
-/
import Derived.Test.YtnnoampmcghnaaaWiPlain
namespace Go.Proofs.Ytnnoampmcghnaaa.Wi
open Go.Proofs.Ytnnoampmcghnaaa.Fl
set_option linter.unusedVariables false
set_option linter.unusedSimpArgs false

abbrev St := Nat × List UInt8
/-- A number of at most so much. -/
def numS (most : Nat) (s : St) : Nat × St :=
  if s.1 = 0 then (match rdN most 0 0 s.2 with | .bad n => (0, (n, s.2)) | .got v r => (v, (0, r))) else (0, s)
def thenS {α β : Type} (f : St → α × St) (g : α → St → β × St) (s : St) : (α × β) × St := (((f s).1, (g (f s).1 (f s).2).1), (g (f s).1 (f s).2).2)
def mapS {α β : Type} (f : St → α × St) (h : α → β) (s : St) : β × St := (h (f s).1, (f s).2)
def fewS : St → Int × St := mapS (numS 2147483647) (fun u => (u : Int))
def signS : St → Int × St := mapS (numS 18446744073709551615) zag
/-- A text of at most so many bytes. -/
def textS (most : Nat) (s : St) : List UInt8 × St :=
  if (numS most s).2.2.length < (numS most s).1 then ([], (if (numS most s).2.1 = 0 then 6 else (numS most s).2.1, (numS most s).2.2))
  else ((numS most s).2.2.take (numS most s).1, ((numS most s).2.1, (numS most s).2.2.drop (numS most s).1))
def valS (k : Nat) : St → (Bool × Int × List UInt8) × St :=
  if k = 1 then mapS (textS 200) (fun t => (true, 0, t)) else mapS signS (fun n => (false, n, []))
def attS : St → Att × St := mapS (thenS (textS 200) (fun _ => thenS (numS 1) valS)) (fun p => ⟨p.1, p.2.2.1, p.2.2.2.1, p.2.2.2.2⟩)
/-- So many attributes, whether they come or not. -/
def attsC : Nat → St → List Att × St
  | 0, s => ([], s)
  | n + 1, s => mapS (thenS attS (fun _ => attsC n)) (fun p => p.1 :: p.2) s
/-- So many attributes, while there is no error. -/
def attsR : Nat → St → List Att × St
  | 0, s => ([], s)
  | n + 1, s => if s.1 = 0 then mapS (thenS attS (fun _ => attsR n)) (fun p => p.1 :: p.2) s else ([], s)
def evS' (atts : Nat → St → List Att × St) : St → Ev × St :=
  mapS (thenS fewS (fun _ => thenS (numS 4294967295) (fun _ => thenS signS (fun _ => thenS signS (fun _ => mapS (thenS (numS 16) atts) Prod.snd))))) (fun p => ⟨p.1, p.2.1, p.2.2.1, p.2.2.2.1, p.2.2.2.2⟩)
def insS : St → Msg × St :=
  mapS (thenS fewS (fun _ => thenS fewS (fun _ => thenS fewS (fun _ => thenS signS (fun _ => thenS signS (fun _ => thenS signS (fun _ => thenS signS (fun _ => textS 500))))))))
    (fun p => ⟨1, p.1, p.2.1, p.2.2.1, p.2.2.2.1, p.2.2.2.2.1, p.2.2.2.2.2.1, p.2.2.2.2.2.2.1, p.2.2.2.2.2.2.2, ev0⟩)
def retS : St → Msg × St := mapS (thenS fewS (fun _ => fewS)) (fun p => ⟨2, p.1, p.2, 0, 0, 0, 0, 0, [], ev0⟩)
def notS (atts : Nat → St → List Att × St) : St → Msg × St := mapS (thenS fewS (fun _ => evS' atts)) (fun p => ⟨4, p.1, 0, 0, 0, 0, 0, 0, [], p.2⟩)
def eveS (k : Int) (atts : Nat → St → List Att × St) : St → Msg × St := mapS (evS' atts) (fun e => ⟨k, 0, 0, 0, 0, 0, 0, 0, [], e⟩)

/-- A step does as the format tells; where there is an error already it leaves all. -/
def Sim {α : Type} (f : St → α × St) (G : List UInt8 → Got α) : Prop :=
  (∀ e l, e ≠ 0 → (f (e, l)).2 = (e, l)) ∧ (∀ l n, G l = .bad n → n ≠ 0 ∧ (f (0, l)).2.1 = n) ∧ (∀ l a r, G l = .got a r → f (0, l) = (a, (0, r)))
theorem sim_num (most : Nat) (hm : most < 18446744073709551616) : Sim (numS most) (numF most hm).get := by
  refine ⟨fun e l h => ?_, fun l n h => ?_, fun l a r h => ?_⟩
  · unfold numS; rw [if_neg h]
  · have h1 : rdN most 0 0 l = .bad n := h
    refine ⟨?_, by unfold numS; simp [h1]⟩
    rcases rdN_bads most l 0 0 n h1 with h2 | h2 <;> omega
  · have h1 : rdN most 0 0 l = .got a r := h
    unfold numS; simp [h1]
theorem sim_then {α β : Type} {f : St → α × St} {g : α → St → β × St} {A : Fmt α} {B : α → Fmt β} (hf : Sim f A.get) (hg : ∀ a, Sim (g a) (B a).get) : Sim (thenS f g) (bindF A B).get := by
  refine ⟨fun e l h => ?_, fun l n h => ?_, fun l p r h => ?_⟩
  · unfold thenS
    simp only [hf.1 e l h, (hg _).1 e l h]
  · have h1 : bindG (A.get l) (fun a r => bindG ((B a).get r) (fun b t => .got (a, b) t)) = .bad n := h
    cases ha : A.get l with
    | bad m =>
      rw [ha] at h1
      cases h1
      obtain ⟨h2, h3⟩ := hf.2.1 l n ha
      refine ⟨h2, ?_⟩
      obtain ⟨v, ⟨e, t⟩, hv⟩ : ∃ v t, f (0, l) = (v, t) := ⟨_, _, rfl⟩
      rw [hv] at h3
      have h3' : e = n := h3
      unfold thenS
      simp only [hv]
      rw [(hg v).1 e t (by omega)]
      exact h3'
    | got a t =>
      rw [ha] at h1
      simp only [bindG] at h1
      cases hb : (B a).get t with
      | bad m =>
        rw [hb] at h1
        cases h1
        obtain ⟨h2, h3⟩ := (hg a).2.1 t n hb
        refine ⟨h2, ?_⟩
        unfold thenS
        simp only [hf.2.2 l a t ha]
        exact h3
      | got b u => rw [hb] at h1; cases h1
  · have h1 : bindG (A.get l) (fun a r => bindG ((B a).get r) (fun b t => .got (a, b) t)) = .got p r := h
    cases ha : A.get l with
    | bad m => rw [ha] at h1; cases h1
    | got a t =>
      rw [ha] at h1
      simp only [bindG] at h1
      cases hb : (B a).get t with
      | bad m => rw [hb] at h1; cases h1
      | got b u =>
        rw [hb] at h1
        cases h1
        unfold thenS
        simp only [hf.2.2 l a t ha, (hg a).2.2 t b r hb]
theorem sim_map {α β : Type} {f : St → α × St} {A : Fmt α} {h : α → β} {g : β → α} {hg : ∀ a, A.ok a → g (h a) = a} (hf : Sim f A.get) : Sim (mapS f h) (mapF A h g hg).get := by
  refine ⟨fun e l he => ?_, fun l n hb => ?_, fun l p r hb => ?_⟩
  · unfold mapS; simp only [hf.1 e l he]
  · have h1 : bindG (A.get l) (fun a r => .got (h a) r) = .bad n := hb
    cases ha : A.get l with
    | bad m =>
      rw [ha] at h1
      cases h1
      obtain ⟨h2, h3⟩ := hf.2.1 l n ha
      exact ⟨h2, h3⟩
    | got a t => rw [ha] at h1; cases h1
  · have h1 : bindG (A.get l) (fun a r => .got (h a) r) = .got p r := hb
    cases ha : A.get l with
    | bad m => rw [ha] at h1; cases h1
    | got a t =>
      rw [ha] at h1
      cases h1
      unfold mapS
      simp only [hf.2.2 l a r ha]
theorem sim_text (most : Nat) (hm : most < 18446744073709551616) : Sim (textS most) (textF most hm).get := by
  have hn := sim_num most hm
  refine ⟨fun e l h => ?_, fun l n h => ?_, fun l p r h => ?_⟩
  · have h1 := hn.1 e l h
    have h2 : numS most (e, l) = (0, (e, l)) := by unfold numS; rw [if_neg h]
    unfold textS
    simp only [h2, Nat.not_lt_zero, if_false, List.drop_zero]
  · have h1 : bindG (bindG ((numF most hm).get l) (fun a r => bindG ((rawF a).get r) (fun b t => .got (a, b) t))) (fun a r => .got a.2 r) = .bad n := h
    cases ha : (numF most hm).get l with
    | bad m =>
      rw [ha] at h1
      cases h1
      obtain ⟨h2, h3⟩ := hn.2.1 l n ha
      refine ⟨h2, ?_⟩
      unfold textS
      split
      · rw [if_neg (by rw [h3]; exact h2)]; exact h3
      · exact h3
    | got a t =>
      rw [ha] at h1
      have h1' : bindG (bindG (if t.length < a then .bad 6 else .got (t.take a) (t.drop a)) (fun b t => .got (a, b) t)) (fun a r => Got.got a.2 r) = .bad n := h1
      have h4 := hn.2.2 l a t ha
      split at h1'
      · next hlt =>
        cases h1'
        refine ⟨by omega, ?_⟩
        unfold textS
        simp only [h4]
        rw [if_pos hlt]
        rfl
      · cases h1'
  · have h1 : bindG (bindG ((numF most hm).get l) (fun a r => bindG ((rawF a).get r) (fun b t => .got (a, b) t))) (fun a r => .got a.2 r) = .got p r := h
    cases ha : (numF most hm).get l with
    | bad m => rw [ha] at h1; cases h1
    | got a t =>
      rw [ha] at h1
      have h1' : bindG (bindG (if t.length < a then .bad 6 else .got (t.take a) (t.drop a)) (fun b t => .got (a, b) t)) (fun a r => Got.got a.2 r) = .got p r := h1
      have h4 := hn.2.2 l a t ha
      split at h1'
      · cases h1'
      · next hlt =>
        cases h1'
        unfold textS
        simp only [h4]
        rw [if_neg hlt]
theorem sim_few : Sim fewS fewF.get := sim_map (sim_num _ _)
theorem sim_sign : Sim signS signF.get := sim_map (sim_num _ _)
theorem sim_val (k : Nat) : Sim (valS k) (valF k).get := by
  unfold valS valF
  split
  · exact sim_map (sim_text 200 _)
  · exact sim_map sim_sign
theorem sim_att : Sim attS attF.get := sim_map (sim_then (sim_text 200 _) fun _ => sim_then (sim_num 1 _) sim_val)
theorem sim_attsC : ∀ n, Sim (attsC n) (timesF attF n).get
  | 0 => by
    refine ⟨fun _ _ _ => rfl, ?_, ?_⟩
    · intro l n h
      cases h
    · intro l a r h
      cases h
      rfl
  | n + 1 => by
    have h := sim_then sim_att (fun _ : Att => sim_attsC n)
    refine ⟨fun e l he => ?_, fun l m hb => ?_, fun l p r hb => ?_⟩
    · exact h.1 e l he
    · have h1 : bindG (attF.get l) (fun a r => bindG (listG attF.get n r) (fun t s => .got (a :: t) s)) = .bad m := hb
      refine h.2.1 l m ?_
      show bindG (attF.get l) (fun a r => bindG (listG attF.get n r) (fun b t => .got (a, b) t)) = .bad m
      cases ha : attF.get l with
      | bad q => rw [ha] at h1; cases h1; rfl
      | got a t =>
        rw [ha] at h1
        simp only [bindG] at h1 ⊢
        cases hb2 : listG attF.get n t with
        | bad q => rw [hb2] at h1; cases h1; rfl
        | got b u => rw [hb2] at h1; cases h1
    · have h1 : bindG (attF.get l) (fun a r => bindG (listG attF.get n r) (fun t s => .got (a :: t) s)) = .got p r := hb
      cases ha : attF.get l with
      | bad q => rw [ha] at h1; cases h1
      | got a t =>
        rw [ha] at h1
        simp only [bindG] at h1
        cases hb2 : listG attF.get n t with
        | bad q => rw [hb2] at h1; cases h1
        | got b u =>
          rw [hb2] at h1
          cases h1
          have h2 := h.2.2 l (a, b) r (by
            show bindG (attF.get l) (fun a r => bindG (listG attF.get n r) (fun b t => .got (a, b) t)) = .got (a, b) r
            rw [ha]
            simp only [bindG]
            rw [hb2])
          show mapS (thenS attS (fun _ => attsC n)) (fun p => p.1 :: p.2) (0, l) = _
          unfold mapS
          rw [h2]
theorem sim_attsR : ∀ n, Sim (attsR n) (timesF attF n).get
  | 0 => by
    refine ⟨fun _ _ _ => rfl, ?_, ?_⟩
    · intro l n h
      cases h
    · intro l a r h
      cases h
      rfl
  | n + 1 => by
    have h := sim_then sim_att (fun _ : Att => sim_attsR n)
    have e0 : ∀ l, attsR (n + 1) (0, l) = mapS (thenS attS (fun _ => attsR n)) (fun p => p.1 :: p.2) (0, l) := fun l => rfl
    refine ⟨fun e l he => ?_, fun l m hb => ?_, fun l p r hb => ?_⟩
    · rw [attsR, if_neg he]
    · have h1 : bindG (attF.get l) (fun a r => bindG (listG attF.get n r) (fun t s => .got (a :: t) s)) = .bad m := hb
      rw [e0]
      refine h.2.1 l m ?_
      show bindG (attF.get l) (fun a r => bindG (listG attF.get n r) (fun b t => .got (a, b) t)) = .bad m
      cases ha : attF.get l with
      | bad q => rw [ha] at h1; cases h1; rfl
      | got a t =>
        rw [ha] at h1
        simp only [bindG] at h1 ⊢
        cases hb2 : listG attF.get n t with
        | bad q => rw [hb2] at h1; cases h1; rfl
        | got b u => rw [hb2] at h1; cases h1
    · have h1 : bindG (attF.get l) (fun a r => bindG (listG attF.get n r) (fun t s => .got (a :: t) s)) = .got p r := hb
      cases ha : attF.get l with
      | bad q => rw [ha] at h1; cases h1
      | got a t =>
        rw [ha] at h1
        simp only [bindG] at h1
        cases hb2 : listG attF.get n t with
        | bad q => rw [hb2] at h1; cases h1
        | got b u =>
          rw [hb2] at h1
          cases h1
          have h2 := h.2.2 l (a, b) r (by
            show bindG (attF.get l) (fun a r => bindG (listG attF.get n r) (fun b t => .got (a, b) t)) = .got (a, b) r
            rw [ha]
            simp only [bindG]
            rw [hb2])
          rw [e0]
          unfold mapS
          rw [h2]
theorem sim_ev {atts : Nat → St → List Att × St} (h : ∀ n, Sim (atts n) (timesF attF n).get) : Sim (evS' atts) evF.get :=
  sim_map (sim_then sim_few fun _ => sim_then (sim_num _ _) fun _ => sim_then sim_sign fun _ => sim_then sim_sign fun _ => sim_map (sim_then (sim_num _ _) h))
theorem sim_ins : Sim insS insF.get :=
  sim_map (sim_then sim_few fun _ => sim_then sim_few fun _ => sim_then sim_few fun _ => sim_then sim_sign fun _ => sim_then sim_sign fun _ => sim_then sim_sign fun _ => sim_then sim_sign fun _ => sim_text _ _)
theorem sim_ret : Sim retS retF.get := sim_map (sim_then sim_few fun _ => sim_few)
theorem sim_not {atts : Nat → St → List Att × St} (h : ∀ n, Sim (atts n) (timesF attF n).get) : Sim (notS atts) notF.get := sim_map (sim_then sim_few fun _ => sim_ev h)
theorem sim_eve {atts : Nat → St → List Att × St} (h : ∀ n, Sim (atts n) (timesF attF n).get) : Sim (eveS 3 atts) eveF.get := sim_map (sim_ev h)

/-- A message as package wire's reader tells it. -/
def msgC (s : St) : Msg × St :=
  if (numS 4 s).1 = 1 then insS (numS 4 s).2 else if (numS 4 s).1 = 2 then retS (numS 4 s).2 else if (numS 4 s).1 = 3 then eveS 3 attsC (numS 4 s).2 else if (numS 4 s).1 = 4 then notS attsC (numS 4 s).2 else (⟨((numS 4 s).1 : Int), 0, 0, 0, 0, 0, 0, 0, [], ev0⟩, (numS 4 s).2)
/-- A message as the document's reader tells it. -/
def stR (s : St) : St := if (numS 4 s).2.1 = 0 ∧ (numS 4 s).1 = 0 then (7, (numS 4 s).2.2) else (numS 4 s).2
def msgR (s : St) : Msg × St :=
  if (numS 4 s).1 = 1 then insS (stR s) else if (numS 4 s).1 = 2 then retS (stR s) else if (numS 4 s).1 = 4 then notS attsR (stR s) else eveS ((numS 4 s).1 : Int) attsR (stR s)
/-- What is told at the end. -/
def endS (p : Msg × St) : Nat × Msg :=
  if p.2.1 = 0 then (if p.2.2.length = 0 ∧ msgB p.1 = true then (0, p.1) else (7, msg0)) else (p.2.1, msg0)
theorem end_sim {f : St → Msg × St} {G : List UInt8 → Got Msg} (h : Sim f G) (l : List UInt8) : endS (f (0, l)) = match G l with | .bad n => (n, msg0) | .got m r => if r.length = 0 ∧ msgB m = true then (0, m) else (7, msg0) := by
  cases hg : G l with
  | bad n =>
    obtain ⟨h1, h2⟩ := h.2.1 l n hg
    unfold endS
    rw [h2, if_neg h1]
  | got m r =>
    rw [h.2.2 l m r hg]
    rfl
theorem end_err {f : St → Msg × St} {G : List UInt8 → Got Msg} (h : Sim f G) {e : Nat} (he : e ≠ 0) (l : List UInt8) : endS (f (e, l)) = (e, msg0) := by
  unfold endS
  rw [h.1 e l he, if_neg he]
theorem kind_0 (l : List UInt8) (k : Int) (x : Ev) (s v h x1 y1 x2 y2 : Int) (f : List UInt8) (hk : k = 0) : msgB ⟨k, s, v, h, x1, y1, x2, y2, f, x⟩ = false := by
  subst hk
  unfold msgB
  simp
theorem eve_sticky (k : Int) (e : Nat) (l : List UInt8) (he : e ≠ 0) : (eveS k attsR (e, l)).2 = (e, l) := by
  unfold eveS mapS
  exact (sim_ev sim_attsR).1 e l he
theorem msgF_get (l : List UInt8) : msgF.get l = match (numF 4 (by decide)).get l with | .bad n => .bad n | .got k r => if k = 0 then .bad 7 else (bodyF k).get r := by
  show bindG (bindG (bindG ((numF 4 (by decide)).get l) (fun a r => if (!(a == 0)) = true then .got a r else .bad 7)) (fun a r => bindG ((bodyF a).get r) (fun b t => .got (a, b) t))) (fun a r => .got a.2 r) = _
  cases h : (numF 4 (by decide)).get l with
  | bad n => rfl
  | got k r =>
    simp only [bindG]
    by_cases hk : k = 0
    · subst hk
      rfl
    · rw [if_pos (by simp [hk]), if_neg hk]
      simp only
      cases (bodyF k).get r <;> rfl
theorem end_C (l : List UInt8) : endS (msgC (0, l)) = readM l := by
  unfold readM
  rw [msgF_get]
  have hn := sim_num 4 (by decide)
  cases h : (numF 4 (by decide)).get l with
  | bad n =>
    obtain ⟨h1, h2⟩ := hn.2.1 l n h
    have h0 : (numS 4 (0, l)).1 = 0 := by
      have h3 : rdN 4 0 0 l = .bad n := h
      unfold numS
      simp [h3]
    unfold msgC endS
    rw [h0]
    simp only [Nat.zero_ne_one, if_false, show ¬ (0 : Nat) = 2 by decide, show ¬ (0 : Nat) = 3 by decide, show ¬ (0 : Nat) = 4 by decide]
    rw [h2, if_neg h1]
  | got k r =>
    have hk4 : k ≤ 4 := ((numF 4 (by decide)).forth l k r h).1
    have h2 := hn.2.2 l k r h
    unfold msgC
    rw [h2]
    simp only
    by_cases h1 : k = 1
    · subst h1; exact end_sim sim_ins r
    · by_cases h2 : k = 2
      · subst h2; exact end_sim sim_ret r
      · by_cases h3 : k = 3
        · subst h3; exact end_sim (sim_eve sim_attsC) r
        · by_cases h4 : k = 4
          · subst h4; exact end_sim (sim_not sim_attsC) r
          · obtain rfl : k = 0 := by omega
            simp only [h1, h2, h3, h4, if_false, if_true]
            unfold endS
            rw [if_pos rfl, kind_0 r ((0 : Nat) : Int) _ _ _ _ _ _ _ _ _ rfl]
            simp
theorem end_R (l : List UInt8) : endS (msgR (0, l)) = readM l := by
  unfold readM
  rw [msgF_get]
  have hn := sim_num 4 (by decide)
  cases h : (numF 4 (by decide)).get l with
  | bad n =>
    obtain ⟨h1, h2⟩ := hn.2.1 l n h
    have h0 : (numS 4 (0, l)).1 = 0 := by
      have h3 : rdN 4 0 0 l = .bad n := h
      unfold numS
      simp [h3]
    have hst : stR (0, l) = (n, (numS 4 (0, l)).2.2) := by
      unfold stR
      rw [h2, if_neg (fun h => h1 h.1)]
      rw [← h2]
    unfold msgR
    rw [h0, hst]
    simp only [Nat.zero_ne_one, if_false, show ¬ (0 : Nat) = 2 by decide, show ¬ (0 : Nat) = 4 by decide]
    unfold endS
    rw [eve_sticky _ n _ h1, if_neg h1]
  | got k r =>
    have hk4 : k ≤ 4 := ((numF 4 (by decide)).forth l k r h).1
    have h2 := hn.2.2 l k r h
    by_cases h0 : k = 0
    · subst h0
      have hst : stR (0, l) = (7, r) := by unfold stR; rw [h2]; simp
      unfold msgR
      rw [h2, hst]
      simp only [Nat.zero_ne_one, if_false, show ¬ (0 : Nat) = 2 by decide, show ¬ (0 : Nat) = 4 by decide, if_true]
      unfold endS
      rw [eve_sticky _ 7 _ (by decide), if_neg (show ¬ (7 : Nat) = 0 by decide)]
    · have hst : stR (0, l) = (0, r) := by unfold stR; rw [h2]; simp [h0]
      unfold msgR
      rw [h2, hst]
      simp only
      by_cases h1 : k = 1
      · subst h1; exact end_sim sim_ins r
      · by_cases h2 : k = 2
        · subst h2; exact end_sim sim_ret r
        · by_cases h4 : k = 4
          · subst h4; exact end_sim (sim_not sim_attsR) r
          · obtain rfl : k = 3 := by omega
            exact end_sim (sim_eve sim_attsR) r
/-- Values are in range. -/
theorem numS_le (most : Nat) (s : St) : (numS most s).1 ≤ most := by
  unfold numS
  split
  · split
    · exact Nat.zero_le _
    · next h => exact (rdN_forth most _ _ _ _ _ h).1
  · exact Nat.zero_le _
/-- What is left is an end of what was left. -/
theorem numS_suffix (most : Nat) (s : St) : ∃ k, k ≤ s.2.length ∧ (numS most s).2.2 = s.2.drop k := by
  unfold numS
  split
  · split
    · exact ⟨0, Nat.zero_le _, rfl⟩
    · next v r h =>
      obtain ⟨n, -, hl, -⟩ := (rdN_forth most _ _ _ _ _ h).2
      exact ⟨(numL n).length, by rw [hl, List.length_append]; omega, by rw [hl, List.drop_left]⟩
  · exact ⟨0, Nat.zero_le _, rfl⟩
end Go.Proofs.Ytnnoampmcghnaaa.Wi
