/-
  Contract of the document's writer of a message, of any message that may be.
-/
import Derived.Test.YtndgbdbjmogioaaWiPutR
namespace Go.Proofs.Ytndgbdbjmogioaa.Wi
open Go.RowKit Go.Proofs.Ytndgbdbjmogioaa.Fl
set_option linter.unusedVariables false

/-- Of any message that may be. -/
theorem putR_any (m : Msg) (hm : msgB m = true) (hr : evR m.ev) (sf : ByteArray) (hf : sf.data.toList = m.flt) (a : Option Addr) (c : Nat) (w : World) (hA : AttsAt w (Old w.heap.size) a m.ev.attrs) (hl : (putM m).length ≤ 1000000) :
    Calls Try.prog 13 #[.agg #[.int .i64 m.kind, .int .i64 m.sub, .int .i64 m.ver, .int .i64 m.home, .int .i64 m.x1, .int .i64 m.y1, .int .i64 m.x2, .int .i64 m.y2, .string sf, .int .i64 m.ev.pub, .int .u32 (m.ev.seq : Nat), .int .i64 m.ev.x, .int .i64 m.ev.y, .slice a m.ev.attrs.length c]] w fun x w' => PutREnd m w w' x := by
  obtain ⟨k, s, vr, hm', x1, y1, x2, y2, fl, e⟩ := m
  simp only at hr hf hA ⊢
  unfold msgB at hm
  simp only [Bool.and_eq_true, decide_eq_true_eq] at hm
  obtain ⟨⟨⟨⟨h1, h2⟩, h3⟩, h4⟩, h⟩ := hm
  obtain ⟨sn, rfl, hsn⟩ := few_nat h1
  obtain ⟨vn, rfl, hvn⟩ := few_nat h2
  obtain ⟨hn, rfl, hhn⟩ := few_nat h3
  split at h
  · next hk =>
    subst hk
    rw [Bool.and_eq_true] at h
    exact putR_1 x1 y1 x2 y2 sn vn hn hsn hvn hhn fl sf e a c w hf h4 (coord_rng h.1) hl
  · split at h
    · next hk =>
      subst hk
      exact putR_2 x1 y1 x2 y2 hn sn vn hsn hvn fl sf e a c w hl
    · split at h
      · next hk =>
        subst hk
        rw [Bool.and_eq_true] at h
        exact putR_3 x1 y1 x2 y2 sn vn hn fl sf e a c w h.2 hr hA hl
      · split at h
        · next hk =>
          subst hk
          rw [Bool.and_eq_true] at h
          exact putR_4 x1 y1 x2 y2 vn hn sn hsn fl sf e a c w h.2 hr hA hl
        · cases h
end Go.Proofs.Ytndgbdbjmogioaa.Wi
