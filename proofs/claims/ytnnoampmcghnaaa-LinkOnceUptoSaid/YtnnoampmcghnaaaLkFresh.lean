/-
  Contracts of the sender's Fresh and Again. All else is left as it was.
-/
import Derived.Test.YtnnoampmcghnaaaLkPks
import Derived.Deep.RegionLaw
import Derived.IntWalk
namespace Go.Proofs.Ytnnoampmcghnaaa.Lk
open Go.RowKit Go.Proofs.Ytnnoampmcghnaaa.Fl Go.Proofs.Ytnnoampmcghnaaa.Wi Go.Proofs.Ytnnoampmcghnaaa.Fr
set_option linter.unusedVariables false
set_option linter.unusedSimpArgs false
set_option maxHeartbeats 4000000
set_option maxRecDepth 100000
/-- How many are told behind Fresh. -/
def toldF (win len ack : Nat) : Nat := ack + min win (len - ack)
theorem Sn.toldF {W : World} {S : Nat → Prop} {p win : Nat} {v : Value} {cs : List Value} {all : List (List UInt8)} {ack told : Nat} (h : Sn W S p win v cs all ack told) : told ≤ toldF win all.length ack ∧ ack ≤ toldF win all.length ack ∧ toldF win all.length ack ≤ all.length ∧ toldF win all.length ack ≤ ack + win := by
  have := h.hat; have := h.htl; have := h.htw
  unfold Lk.toldF
  omega
/-- What a call leaves alone that makes memory only. -/
theorem Sn.later {W V : World} {S : Nat → Prop} {p win : Nat} {v : Value} {cs : List Value} {all : List (List UInt8)} {ack told : Nat} (h : Sn W S p win v cs all ack told) (hb : Below W.heap.size W V) : Sn V S p win v cs all ack told :=
  h.keep (hb.block p h.lt) (fun g hg => hb.block g (h.own hg).2) (fun g hg => ⟨hg, hb.block g (h.dis g hg).1⟩) (fun g hg => by obtain ⟨h1, h2, h3⟩ := h.dis g hg; exact ⟨Nat.lt_of_lt_of_le h1 hb.size, h2, h3⟩)
theorem again_any {S : Nat → Prop} {p win : Nat} {v : Value} {cs : List Value} {all : List (List UInt8)} {ack told : Nat} (w : World) (h : Sn w S p win v cs all ack told) (hl : ∀ x ∈ all, x.length ≤ 100000000) :
    Calls Try.prog 14 #[.pointer (some ⟨p, 0, none⟩)] w fun e w' => ∃ a n c, e = .returned (.slice a n c) ∧ n = told - ack ∧ n ≤ c ∧ (∃ rcs, CeAt w' (Nd w w') a rcs ∧ PkV w' (Nd w w') rcs (pkts all ack told)) ∧ Sn w' S p win v cs all ack told ∧ Below w.heap.size w w' := by
  obtain ⟨-, -, -, c3⟩ := h.cells
  have H := Lib.hid h
  have HC := Lib.hid (pks_any 0 (told - ack) w h (Nat.zero_le _) (by have := h.htl; omega) hl)
  clear h hl
  go_enter Try.func14, Try.ntmps14
  go_wp2_with fail
  refine HC.out.mono ?_
  rintro e w1 ⟨a, n, c, rfl, h1, h2, rcs, h3, h4, h5⟩
  have H1 := Lib.hid h1
  have H2 := Lib.hid h2
  have H3 := Lib.hid h3
  have H4 := Lib.hid h4
  have H5 := Lib.hid h5
  clear h1 h2 h3 h4 h5
  go_wp2_with fail
  go_ret
  have hh := H.out.hat
  have h4 := H4.out
  rw [Nat.add_zero, show ack + (told - ack) = told by omega] at h4
  exact ⟨a, n, c, rfl, by rw [H1.out]; omega, H2.out, ⟨rcs, H3.out, h4⟩, H.out.later H5.out, H5.out⟩
theorem fresh_any {S : Nat → Prop} {p win : Nat} {v : Value} {cs : List Value} {all : List (List UInt8)} {ack told : Nat} (w : World) (h : Sn w S p win v cs all ack told) (hl : ∀ x ∈ all, x.length ≤ 100000000) (tl : Nat) (htl : tl = toldF win all.length ack) :
    Calls Try.prog 11 #[.pointer (some ⟨p, 0, none⟩)] w fun e w' => ∃ a n c, e = .returned (.slice a n c) ∧ n = tl - told ∧ n ≤ c ∧ (∃ rcs, CeAt w' (Nd w w') a rcs ∧ PkV w' (Nd w w') rcs (pkts all told tl)) ∧ Sn w' S p win v cs all ack tl ∧ Lv (fun g => g = p) w w' := by
  obtain ⟨c0, c1, -, c3⟩ := h.cells
  have f3 := h.bq.fr 3
  obtain ⟨t1, t2, t3, t4⟩ := h.toldF
  rw [← htl] at t1 t2 t3 t4
  have hm : mn (win : Int) ((all.length - ack : Nat) : Int) = ((tl - ack : Nat) : Int) := by
    unfold mn
    rw [htl]
    unfold Lk.toldF
    split <;> omega
  obtain ⟨V, hV⟩ : ∃ V : World, V = (w.setCell ⟨p, 3, none⟩ (.int .i64 ((tl - ack : Nat) : Int))).drew := ⟨_, rfl⟩
  have HSn := Lib.hid (show Sn V S p win v cs all ack tl by
    rw [hV]
    refine ⟨?_, h.row.keep (V := (w.setCell _ _).drew) fun g hg => Below.heap_setCell _ _ _ _ (by have := (h.own hg).1; show g ≠ p; omega), h.dat.far fun g hg => ⟨hg, Below.heap_setCell _ _ _ _ (h.dis g hg).2.1⟩, fun g hg => ?_, t2, t3, t4, h.hw1, h.hw2, h.hln⟩
    · have := h.bq.set 3 (.int .i64 ((tl - ack : Nat) : Int))
      show Bq (w.setCell ⟨p, 3, none⟩ (.int .i64 ((tl - ack : Nat) : Int))) p _ _
      simpa using this
    · have := h.dis g hg
      simpa [World.setCell] using this)
  have c4 : V.cell? ⟨p, 3, none⟩ = some (.int .i64 ((tl - ack : Nat) : Int)) := HSn.out.cells.2.2.2
  have HC := Lib.hid (pks_any (told - ack) (tl - ack) V HSn.out (by omega) (by omega) hl)
  have H := Lib.hid h
  have HLv := Lib.hid (show Lv (fun g => g = p) w V by rw [hV]; exact ((Lv.refl (fun g => g = p) w).set p 3 _ (Or.inl rfl)).drew)
  have hZ : Hid (V.heap.size = w.heap.size) := by show V.heap.size = w.heap.size; rw [hV]; simp [World.setCell]
  obtain ⟨ga, gn, gk, rfl⟩ := own_slice h.row
  obtain ⟨hgn, -⟩ := h.row.cells
  have hgl : gn = all.length - ack := by rw [hgn, h.len]
  rw [← hgl] at hm
  have hn1 := run_mn Try.prog
  have HV := Lib.hid hV
  have HT := Lib.hid (show told ≤ tl ∧ ack ≤ told ∧ ack ≤ tl from ⟨t1, h.hat, t2⟩)
  clear h hl hgn hgl hV htl t1 t2 t3 t4
  obtain ⟨x, hx⟩ : ∃ x : Int, x = ((tl - ack : Nat) : Int) := ⟨_, rfl⟩
  rw [← hx] at hm c4 HC HV
  clear hx
  go_enter Try.func11, Try.ntmps11
  go_wp2_with fail
  go_region
  all_goals
    rw [← HV.out]
    go_wp2_with fail
    refine HC.out.mono ?_
    rintro e w1 ⟨a, n, c, rfl, h1, h2, rcs, h3, h4, h5⟩
    have H1 := Lib.hid h1
    have H2 := Lib.hid h2
    have H3 := Lib.hid h3
    have H4 := Lib.hid h4
    have H5 := Lib.hid h5
    clear h1 h2 h3 h4 h5
    go_wp2_with fail
    go_ret
    have h4 := H4.out
    have hT := HT.out
    rw [show ack + (told - ack) = told by omega, show ack + (tl - ack) = tl by omega] at h4
    have hn : ∀ g, Nd V w1 g → Nd w w1 g := fun g hg => ⟨by have := hg.1; rw [hZ] at this; exact this, hg.2⟩
    exact ⟨a, n, c, rfl, by rw [H1.out]; omega, H2.out, ⟨rcs, H3.out.far fun g hg => ⟨hn g hg, rfl⟩, h4.far fun g hg => ⟨hn g hg, rfl⟩⟩, HSn.out.later H5.out, HLv.out.below H5.out⟩
end Go.Proofs.Ytnnoampmcghnaaa.Lk
