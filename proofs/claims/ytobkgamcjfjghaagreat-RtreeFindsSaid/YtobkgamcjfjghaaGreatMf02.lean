/-
  Contracts of Meet of layer 2 (rect), for any rectangles, and of the document's answers Join and Meet, for coordinates that may be. Memory that was there is left as it was.
-/
import Derived.Test.YtobkgamcjfjghaaGreatMf01
import Derived.Deep.RegionHeld3
import Derived.IntWalk
import Derived.Deep.MidRow
import Derived.Outline
/-
  Cells that are known stay known behind whatever only makes memory: longer lists than in Keep, and new blocks of four cells. No program here.
-/
namespace Go.Proofs.YtobkgamcjfjghaaGreat.Kp
open Go.RowKit

variable {w W w1 : World} {N : Nat} {a0 a1 a2 a3 a4 a5 a6 a7 a8 a9 a10 a11 a12 a13 a14 a15 a16 a17 a18 a19 a20 a21 a22 a23 a24 a25 : Addr} {v0 v1 v2 v3 v4 v5 v6 v7 v8 v9 v10 v11 v12 v13 v14 v15 v16 v17 v18 v19 v20 v21 v22 v23 v24 v25 : Value}

theorem keep16 (hb : Below W.heap.size W w1) (h : W.cell? a0 = some v0 ∧ W.cell? a1 = some v1 ∧ W.cell? a2 = some v2 ∧ W.cell? a3 = some v3 ∧ W.cell? a4 = some v4 ∧ W.cell? a5 = some v5 ∧ W.cell? a6 = some v6 ∧ W.cell? a7 = some v7 ∧ W.cell? a8 = some v8 ∧ W.cell? a9 = some v9 ∧ W.cell? a10 = some v10 ∧ W.cell? a11 = some v11 ∧ W.cell? a12 = some v12 ∧ W.cell? a13 = some v13 ∧ W.cell? a14 = some v14 ∧ W.cell? a15 = some v15 ∧ N ≤ W.heap.size ∧ Below N w W) :
    w1.cell? a0 = some v0 ∧ w1.cell? a1 = some v1 ∧ w1.cell? a2 = some v2 ∧ w1.cell? a3 = some v3 ∧ w1.cell? a4 = some v4 ∧ w1.cell? a5 = some v5 ∧ w1.cell? a6 = some v6 ∧ w1.cell? a7 = some v7 ∧ w1.cell? a8 = some v8 ∧ w1.cell? a9 = some v9 ∧ w1.cell? a10 = some v10 ∧ w1.cell? a11 = some v11 ∧ w1.cell? a12 = some v12 ∧ w1.cell? a13 = some v13 ∧ w1.cell? a14 = some v14 ∧ w1.cell? a15 = some v15 ∧ N ≤ w1.heap.size ∧ Below N w w1 := two hb (two hb (two hb (two hb (two hb (two hb (two hb (two hb (ends hb)))))))) h
theorem drew16 (h : W.cell? a0 = some v0 ∧ W.cell? a1 = some v1 ∧ W.cell? a2 = some v2 ∧ W.cell? a3 = some v3 ∧ W.cell? a4 = some v4 ∧ W.cell? a5 = some v5 ∧ W.cell? a6 = some v6 ∧ W.cell? a7 = some v7 ∧ W.cell? a8 = some v8 ∧ W.cell? a9 = some v9 ∧ W.cell? a10 = some v10 ∧ W.cell? a11 = some v11 ∧ W.cell? a12 = some v12 ∧ W.cell? a13 = some v13 ∧ W.cell? a14 = some v14 ∧ W.cell? a15 = some v15 ∧ N ≤ W.heap.size ∧ Below N w W) :
    W.drew.cell? a0 = some v0 ∧ W.drew.cell? a1 = some v1 ∧ W.drew.cell? a2 = some v2 ∧ W.drew.cell? a3 = some v3 ∧ W.drew.cell? a4 = some v4 ∧ W.drew.cell? a5 = some v5 ∧ W.drew.cell? a6 = some v6 ∧ W.drew.cell? a7 = some v7 ∧ W.drew.cell? a8 = some v8 ∧ W.drew.cell? a9 = some v9 ∧ W.drew.cell? a10 = some v10 ∧ W.drew.cell? a11 = some v11 ∧ W.drew.cell? a12 = some v12 ∧ W.drew.cell? a13 = some v13 ∧ W.drew.cell? a14 = some v14 ∧ W.drew.cell? a15 = some v15 ∧ N ≤ W.drew.heap.size ∧ Below N w W.drew := drewTwo (drewTwo (drewTwo (drewTwo (drewTwo (drewTwo (drewTwo (drewTwo (drewEnds)))))))) h
theorem end16 {p0 p1 p2 p3 p4 p5 p6 p7 p8 p9 p10 p11 p12 p13 p14 p15 p16 : Prop} (h : p0 ∧ p1 ∧ p2 ∧ p3 ∧ p4 ∧ p5 ∧ p6 ∧ p7 ∧ p8 ∧ p9 ∧ p10 ∧ p11 ∧ p12 ∧ p13 ∧ p14 ∧ p15 ∧ p16 ∧ Below N w W) : Below N w W := h.2.2.2.2.2.2.2.2.2.2.2.2.2.2.2.2.2
theorem keep18 (hb : Below W.heap.size W w1) (h : W.cell? a0 = some v0 ∧ W.cell? a1 = some v1 ∧ W.cell? a2 = some v2 ∧ W.cell? a3 = some v3 ∧ W.cell? a4 = some v4 ∧ W.cell? a5 = some v5 ∧ W.cell? a6 = some v6 ∧ W.cell? a7 = some v7 ∧ W.cell? a8 = some v8 ∧ W.cell? a9 = some v9 ∧ W.cell? a10 = some v10 ∧ W.cell? a11 = some v11 ∧ W.cell? a12 = some v12 ∧ W.cell? a13 = some v13 ∧ W.cell? a14 = some v14 ∧ W.cell? a15 = some v15 ∧ W.cell? a16 = some v16 ∧ W.cell? a17 = some v17 ∧ N ≤ W.heap.size ∧ Below N w W) :
    w1.cell? a0 = some v0 ∧ w1.cell? a1 = some v1 ∧ w1.cell? a2 = some v2 ∧ w1.cell? a3 = some v3 ∧ w1.cell? a4 = some v4 ∧ w1.cell? a5 = some v5 ∧ w1.cell? a6 = some v6 ∧ w1.cell? a7 = some v7 ∧ w1.cell? a8 = some v8 ∧ w1.cell? a9 = some v9 ∧ w1.cell? a10 = some v10 ∧ w1.cell? a11 = some v11 ∧ w1.cell? a12 = some v12 ∧ w1.cell? a13 = some v13 ∧ w1.cell? a14 = some v14 ∧ w1.cell? a15 = some v15 ∧ w1.cell? a16 = some v16 ∧ w1.cell? a17 = some v17 ∧ N ≤ w1.heap.size ∧ Below N w w1 := two hb (two hb (two hb (two hb (two hb (two hb (two hb (two hb (two hb (ends hb))))))))) h
theorem drew18 (h : W.cell? a0 = some v0 ∧ W.cell? a1 = some v1 ∧ W.cell? a2 = some v2 ∧ W.cell? a3 = some v3 ∧ W.cell? a4 = some v4 ∧ W.cell? a5 = some v5 ∧ W.cell? a6 = some v6 ∧ W.cell? a7 = some v7 ∧ W.cell? a8 = some v8 ∧ W.cell? a9 = some v9 ∧ W.cell? a10 = some v10 ∧ W.cell? a11 = some v11 ∧ W.cell? a12 = some v12 ∧ W.cell? a13 = some v13 ∧ W.cell? a14 = some v14 ∧ W.cell? a15 = some v15 ∧ W.cell? a16 = some v16 ∧ W.cell? a17 = some v17 ∧ N ≤ W.heap.size ∧ Below N w W) :
    W.drew.cell? a0 = some v0 ∧ W.drew.cell? a1 = some v1 ∧ W.drew.cell? a2 = some v2 ∧ W.drew.cell? a3 = some v3 ∧ W.drew.cell? a4 = some v4 ∧ W.drew.cell? a5 = some v5 ∧ W.drew.cell? a6 = some v6 ∧ W.drew.cell? a7 = some v7 ∧ W.drew.cell? a8 = some v8 ∧ W.drew.cell? a9 = some v9 ∧ W.drew.cell? a10 = some v10 ∧ W.drew.cell? a11 = some v11 ∧ W.drew.cell? a12 = some v12 ∧ W.drew.cell? a13 = some v13 ∧ W.drew.cell? a14 = some v14 ∧ W.drew.cell? a15 = some v15 ∧ W.drew.cell? a16 = some v16 ∧ W.drew.cell? a17 = some v17 ∧ N ≤ W.drew.heap.size ∧ Below N w W.drew := drewTwo (drewTwo (drewTwo (drewTwo (drewTwo (drewTwo (drewTwo (drewTwo (drewTwo (drewEnds))))))))) h
theorem end18 {p0 p1 p2 p3 p4 p5 p6 p7 p8 p9 p10 p11 p12 p13 p14 p15 p16 p17 p18 : Prop} (h : p0 ∧ p1 ∧ p2 ∧ p3 ∧ p4 ∧ p5 ∧ p6 ∧ p7 ∧ p8 ∧ p9 ∧ p10 ∧ p11 ∧ p12 ∧ p13 ∧ p14 ∧ p15 ∧ p16 ∧ p17 ∧ p18 ∧ Below N w W) : Below N w W := h.2.2.2.2.2.2.2.2.2.2.2.2.2.2.2.2.2.2.2
theorem keep20 (hb : Below W.heap.size W w1) (h : W.cell? a0 = some v0 ∧ W.cell? a1 = some v1 ∧ W.cell? a2 = some v2 ∧ W.cell? a3 = some v3 ∧ W.cell? a4 = some v4 ∧ W.cell? a5 = some v5 ∧ W.cell? a6 = some v6 ∧ W.cell? a7 = some v7 ∧ W.cell? a8 = some v8 ∧ W.cell? a9 = some v9 ∧ W.cell? a10 = some v10 ∧ W.cell? a11 = some v11 ∧ W.cell? a12 = some v12 ∧ W.cell? a13 = some v13 ∧ W.cell? a14 = some v14 ∧ W.cell? a15 = some v15 ∧ W.cell? a16 = some v16 ∧ W.cell? a17 = some v17 ∧ W.cell? a18 = some v18 ∧ W.cell? a19 = some v19 ∧ N ≤ W.heap.size ∧ Below N w W) :
    w1.cell? a0 = some v0 ∧ w1.cell? a1 = some v1 ∧ w1.cell? a2 = some v2 ∧ w1.cell? a3 = some v3 ∧ w1.cell? a4 = some v4 ∧ w1.cell? a5 = some v5 ∧ w1.cell? a6 = some v6 ∧ w1.cell? a7 = some v7 ∧ w1.cell? a8 = some v8 ∧ w1.cell? a9 = some v9 ∧ w1.cell? a10 = some v10 ∧ w1.cell? a11 = some v11 ∧ w1.cell? a12 = some v12 ∧ w1.cell? a13 = some v13 ∧ w1.cell? a14 = some v14 ∧ w1.cell? a15 = some v15 ∧ w1.cell? a16 = some v16 ∧ w1.cell? a17 = some v17 ∧ w1.cell? a18 = some v18 ∧ w1.cell? a19 = some v19 ∧ N ≤ w1.heap.size ∧ Below N w w1 := two hb (two hb (two hb (two hb (two hb (two hb (two hb (two hb (two hb (two hb (ends hb)))))))))) h
theorem drew20 (h : W.cell? a0 = some v0 ∧ W.cell? a1 = some v1 ∧ W.cell? a2 = some v2 ∧ W.cell? a3 = some v3 ∧ W.cell? a4 = some v4 ∧ W.cell? a5 = some v5 ∧ W.cell? a6 = some v6 ∧ W.cell? a7 = some v7 ∧ W.cell? a8 = some v8 ∧ W.cell? a9 = some v9 ∧ W.cell? a10 = some v10 ∧ W.cell? a11 = some v11 ∧ W.cell? a12 = some v12 ∧ W.cell? a13 = some v13 ∧ W.cell? a14 = some v14 ∧ W.cell? a15 = some v15 ∧ W.cell? a16 = some v16 ∧ W.cell? a17 = some v17 ∧ W.cell? a18 = some v18 ∧ W.cell? a19 = some v19 ∧ N ≤ W.heap.size ∧ Below N w W) :
    W.drew.cell? a0 = some v0 ∧ W.drew.cell? a1 = some v1 ∧ W.drew.cell? a2 = some v2 ∧ W.drew.cell? a3 = some v3 ∧ W.drew.cell? a4 = some v4 ∧ W.drew.cell? a5 = some v5 ∧ W.drew.cell? a6 = some v6 ∧ W.drew.cell? a7 = some v7 ∧ W.drew.cell? a8 = some v8 ∧ W.drew.cell? a9 = some v9 ∧ W.drew.cell? a10 = some v10 ∧ W.drew.cell? a11 = some v11 ∧ W.drew.cell? a12 = some v12 ∧ W.drew.cell? a13 = some v13 ∧ W.drew.cell? a14 = some v14 ∧ W.drew.cell? a15 = some v15 ∧ W.drew.cell? a16 = some v16 ∧ W.drew.cell? a17 = some v17 ∧ W.drew.cell? a18 = some v18 ∧ W.drew.cell? a19 = some v19 ∧ N ≤ W.drew.heap.size ∧ Below N w W.drew := drewTwo (drewTwo (drewTwo (drewTwo (drewTwo (drewTwo (drewTwo (drewTwo (drewTwo (drewTwo (drewEnds)))))))))) h
theorem end20 {p0 p1 p2 p3 p4 p5 p6 p7 p8 p9 p10 p11 p12 p13 p14 p15 p16 p17 p18 p19 p20 : Prop} (h : p0 ∧ p1 ∧ p2 ∧ p3 ∧ p4 ∧ p5 ∧ p6 ∧ p7 ∧ p8 ∧ p9 ∧ p10 ∧ p11 ∧ p12 ∧ p13 ∧ p14 ∧ p15 ∧ p16 ∧ p17 ∧ p18 ∧ p19 ∧ p20 ∧ Below N w W) : Below N w W := h.2.2.2.2.2.2.2.2.2.2.2.2.2.2.2.2.2.2.2.2.2
theorem keep22 (hb : Below W.heap.size W w1) (h : W.cell? a0 = some v0 ∧ W.cell? a1 = some v1 ∧ W.cell? a2 = some v2 ∧ W.cell? a3 = some v3 ∧ W.cell? a4 = some v4 ∧ W.cell? a5 = some v5 ∧ W.cell? a6 = some v6 ∧ W.cell? a7 = some v7 ∧ W.cell? a8 = some v8 ∧ W.cell? a9 = some v9 ∧ W.cell? a10 = some v10 ∧ W.cell? a11 = some v11 ∧ W.cell? a12 = some v12 ∧ W.cell? a13 = some v13 ∧ W.cell? a14 = some v14 ∧ W.cell? a15 = some v15 ∧ W.cell? a16 = some v16 ∧ W.cell? a17 = some v17 ∧ W.cell? a18 = some v18 ∧ W.cell? a19 = some v19 ∧ W.cell? a20 = some v20 ∧ W.cell? a21 = some v21 ∧ N ≤ W.heap.size ∧ Below N w W) :
    w1.cell? a0 = some v0 ∧ w1.cell? a1 = some v1 ∧ w1.cell? a2 = some v2 ∧ w1.cell? a3 = some v3 ∧ w1.cell? a4 = some v4 ∧ w1.cell? a5 = some v5 ∧ w1.cell? a6 = some v6 ∧ w1.cell? a7 = some v7 ∧ w1.cell? a8 = some v8 ∧ w1.cell? a9 = some v9 ∧ w1.cell? a10 = some v10 ∧ w1.cell? a11 = some v11 ∧ w1.cell? a12 = some v12 ∧ w1.cell? a13 = some v13 ∧ w1.cell? a14 = some v14 ∧ w1.cell? a15 = some v15 ∧ w1.cell? a16 = some v16 ∧ w1.cell? a17 = some v17 ∧ w1.cell? a18 = some v18 ∧ w1.cell? a19 = some v19 ∧ w1.cell? a20 = some v20 ∧ w1.cell? a21 = some v21 ∧ N ≤ w1.heap.size ∧ Below N w w1 := two hb (two hb (two hb (two hb (two hb (two hb (two hb (two hb (two hb (two hb (two hb (ends hb))))))))))) h
theorem drew22 (h : W.cell? a0 = some v0 ∧ W.cell? a1 = some v1 ∧ W.cell? a2 = some v2 ∧ W.cell? a3 = some v3 ∧ W.cell? a4 = some v4 ∧ W.cell? a5 = some v5 ∧ W.cell? a6 = some v6 ∧ W.cell? a7 = some v7 ∧ W.cell? a8 = some v8 ∧ W.cell? a9 = some v9 ∧ W.cell? a10 = some v10 ∧ W.cell? a11 = some v11 ∧ W.cell? a12 = some v12 ∧ W.cell? a13 = some v13 ∧ W.cell? a14 = some v14 ∧ W.cell? a15 = some v15 ∧ W.cell? a16 = some v16 ∧ W.cell? a17 = some v17 ∧ W.cell? a18 = some v18 ∧ W.cell? a19 = some v19 ∧ W.cell? a20 = some v20 ∧ W.cell? a21 = some v21 ∧ N ≤ W.heap.size ∧ Below N w W) :
    W.drew.cell? a0 = some v0 ∧ W.drew.cell? a1 = some v1 ∧ W.drew.cell? a2 = some v2 ∧ W.drew.cell? a3 = some v3 ∧ W.drew.cell? a4 = some v4 ∧ W.drew.cell? a5 = some v5 ∧ W.drew.cell? a6 = some v6 ∧ W.drew.cell? a7 = some v7 ∧ W.drew.cell? a8 = some v8 ∧ W.drew.cell? a9 = some v9 ∧ W.drew.cell? a10 = some v10 ∧ W.drew.cell? a11 = some v11 ∧ W.drew.cell? a12 = some v12 ∧ W.drew.cell? a13 = some v13 ∧ W.drew.cell? a14 = some v14 ∧ W.drew.cell? a15 = some v15 ∧ W.drew.cell? a16 = some v16 ∧ W.drew.cell? a17 = some v17 ∧ W.drew.cell? a18 = some v18 ∧ W.drew.cell? a19 = some v19 ∧ W.drew.cell? a20 = some v20 ∧ W.drew.cell? a21 = some v21 ∧ N ≤ W.drew.heap.size ∧ Below N w W.drew := drewTwo (drewTwo (drewTwo (drewTwo (drewTwo (drewTwo (drewTwo (drewTwo (drewTwo (drewTwo (drewTwo (drewEnds))))))))))) h
theorem end22 {p0 p1 p2 p3 p4 p5 p6 p7 p8 p9 p10 p11 p12 p13 p14 p15 p16 p17 p18 p19 p20 p21 p22 : Prop} (h : p0 ∧ p1 ∧ p2 ∧ p3 ∧ p4 ∧ p5 ∧ p6 ∧ p7 ∧ p8 ∧ p9 ∧ p10 ∧ p11 ∧ p12 ∧ p13 ∧ p14 ∧ p15 ∧ p16 ∧ p17 ∧ p18 ∧ p19 ∧ p20 ∧ p21 ∧ p22 ∧ Below N w W) : Below N w W := h.2.2.2.2.2.2.2.2.2.2.2.2.2.2.2.2.2.2.2.2.2.2.2
theorem keep24 (hb : Below W.heap.size W w1) (h : W.cell? a0 = some v0 ∧ W.cell? a1 = some v1 ∧ W.cell? a2 = some v2 ∧ W.cell? a3 = some v3 ∧ W.cell? a4 = some v4 ∧ W.cell? a5 = some v5 ∧ W.cell? a6 = some v6 ∧ W.cell? a7 = some v7 ∧ W.cell? a8 = some v8 ∧ W.cell? a9 = some v9 ∧ W.cell? a10 = some v10 ∧ W.cell? a11 = some v11 ∧ W.cell? a12 = some v12 ∧ W.cell? a13 = some v13 ∧ W.cell? a14 = some v14 ∧ W.cell? a15 = some v15 ∧ W.cell? a16 = some v16 ∧ W.cell? a17 = some v17 ∧ W.cell? a18 = some v18 ∧ W.cell? a19 = some v19 ∧ W.cell? a20 = some v20 ∧ W.cell? a21 = some v21 ∧ W.cell? a22 = some v22 ∧ W.cell? a23 = some v23 ∧ N ≤ W.heap.size ∧ Below N w W) :
    w1.cell? a0 = some v0 ∧ w1.cell? a1 = some v1 ∧ w1.cell? a2 = some v2 ∧ w1.cell? a3 = some v3 ∧ w1.cell? a4 = some v4 ∧ w1.cell? a5 = some v5 ∧ w1.cell? a6 = some v6 ∧ w1.cell? a7 = some v7 ∧ w1.cell? a8 = some v8 ∧ w1.cell? a9 = some v9 ∧ w1.cell? a10 = some v10 ∧ w1.cell? a11 = some v11 ∧ w1.cell? a12 = some v12 ∧ w1.cell? a13 = some v13 ∧ w1.cell? a14 = some v14 ∧ w1.cell? a15 = some v15 ∧ w1.cell? a16 = some v16 ∧ w1.cell? a17 = some v17 ∧ w1.cell? a18 = some v18 ∧ w1.cell? a19 = some v19 ∧ w1.cell? a20 = some v20 ∧ w1.cell? a21 = some v21 ∧ w1.cell? a22 = some v22 ∧ w1.cell? a23 = some v23 ∧ N ≤ w1.heap.size ∧ Below N w w1 := two hb (two hb (two hb (two hb (two hb (two hb (two hb (two hb (two hb (two hb (two hb (two hb (ends hb)))))))))))) h
theorem drew24 (h : W.cell? a0 = some v0 ∧ W.cell? a1 = some v1 ∧ W.cell? a2 = some v2 ∧ W.cell? a3 = some v3 ∧ W.cell? a4 = some v4 ∧ W.cell? a5 = some v5 ∧ W.cell? a6 = some v6 ∧ W.cell? a7 = some v7 ∧ W.cell? a8 = some v8 ∧ W.cell? a9 = some v9 ∧ W.cell? a10 = some v10 ∧ W.cell? a11 = some v11 ∧ W.cell? a12 = some v12 ∧ W.cell? a13 = some v13 ∧ W.cell? a14 = some v14 ∧ W.cell? a15 = some v15 ∧ W.cell? a16 = some v16 ∧ W.cell? a17 = some v17 ∧ W.cell? a18 = some v18 ∧ W.cell? a19 = some v19 ∧ W.cell? a20 = some v20 ∧ W.cell? a21 = some v21 ∧ W.cell? a22 = some v22 ∧ W.cell? a23 = some v23 ∧ N ≤ W.heap.size ∧ Below N w W) :
    W.drew.cell? a0 = some v0 ∧ W.drew.cell? a1 = some v1 ∧ W.drew.cell? a2 = some v2 ∧ W.drew.cell? a3 = some v3 ∧ W.drew.cell? a4 = some v4 ∧ W.drew.cell? a5 = some v5 ∧ W.drew.cell? a6 = some v6 ∧ W.drew.cell? a7 = some v7 ∧ W.drew.cell? a8 = some v8 ∧ W.drew.cell? a9 = some v9 ∧ W.drew.cell? a10 = some v10 ∧ W.drew.cell? a11 = some v11 ∧ W.drew.cell? a12 = some v12 ∧ W.drew.cell? a13 = some v13 ∧ W.drew.cell? a14 = some v14 ∧ W.drew.cell? a15 = some v15 ∧ W.drew.cell? a16 = some v16 ∧ W.drew.cell? a17 = some v17 ∧ W.drew.cell? a18 = some v18 ∧ W.drew.cell? a19 = some v19 ∧ W.drew.cell? a20 = some v20 ∧ W.drew.cell? a21 = some v21 ∧ W.drew.cell? a22 = some v22 ∧ W.drew.cell? a23 = some v23 ∧ N ≤ W.drew.heap.size ∧ Below N w W.drew := drewTwo (drewTwo (drewTwo (drewTwo (drewTwo (drewTwo (drewTwo (drewTwo (drewTwo (drewTwo (drewTwo (drewTwo (drewEnds)))))))))))) h
theorem end24 {p0 p1 p2 p3 p4 p5 p6 p7 p8 p9 p10 p11 p12 p13 p14 p15 p16 p17 p18 p19 p20 p21 p22 p23 p24 : Prop} (h : p0 ∧ p1 ∧ p2 ∧ p3 ∧ p4 ∧ p5 ∧ p6 ∧ p7 ∧ p8 ∧ p9 ∧ p10 ∧ p11 ∧ p12 ∧ p13 ∧ p14 ∧ p15 ∧ p16 ∧ p17 ∧ p18 ∧ p19 ∧ p20 ∧ p21 ∧ p22 ∧ p23 ∧ p24 ∧ Below N w W) : Below N w W := h.2.2.2.2.2.2.2.2.2.2.2.2.2.2.2.2.2.2.2.2.2.2.2.2.2

/-- A new block of four cells; its number is b. -/
theorem adq0 (h : N ≤ W.heap.size ∧ Below N w W) (b : Nat) (e : W.heap.size = b) (x y z u : Value) (t : TypeId) :
    (W.alloc (.cells #[x, y, z, u] t)).cell? ⟨b, 0, none⟩ = some x ∧ (W.alloc (.cells #[x, y, z, u] t)).cell? ⟨b, 1, none⟩ = some y ∧ (W.alloc (.cells #[x, y, z, u] t)).cell? ⟨b, 2, none⟩ = some z ∧ (W.alloc (.cells #[x, y, z, u] t)).cell? ⟨b, 3, none⟩ = some u ∧ N ≤ (W.alloc (.cells #[x, y, z, u] t)).heap.size ∧ Below N w (W.alloc (.cells #[x, y, z, u] t)) := by
  subst e
  exact ⟨by simp [go_sem], by simp [go_sem], by simp [go_sem], by simp [go_sem], ends (behind ..) h⟩
theorem adq2 (h : W.cell? a0 = some v0 ∧ W.cell? a1 = some v1 ∧ N ≤ W.heap.size ∧ Below N w W) (b : Nat) (e : W.heap.size = b) (x y z u : Value) (t : TypeId) :
    (W.alloc (.cells #[x, y, z, u] t)).cell? a0 = some v0 ∧ (W.alloc (.cells #[x, y, z, u] t)).cell? a1 = some v1 ∧ (W.alloc (.cells #[x, y, z, u] t)).cell? ⟨b, 0, none⟩ = some x ∧ (W.alloc (.cells #[x, y, z, u] t)).cell? ⟨b, 1, none⟩ = some y ∧ (W.alloc (.cells #[x, y, z, u] t)).cell? ⟨b, 2, none⟩ = some z ∧ (W.alloc (.cells #[x, y, z, u] t)).cell? ⟨b, 3, none⟩ = some u ∧ N ≤ (W.alloc (.cells #[x, y, z, u] t)).heap.size ∧ Below N w (W.alloc (.cells #[x, y, z, u] t)) := two (behind ..) (fun h => adq0 h b e x y z u t) h
theorem adq4 (h : W.cell? a0 = some v0 ∧ W.cell? a1 = some v1 ∧ W.cell? a2 = some v2 ∧ W.cell? a3 = some v3 ∧ N ≤ W.heap.size ∧ Below N w W) (b : Nat) (e : W.heap.size = b) (x y z u : Value) (t : TypeId) :
    (W.alloc (.cells #[x, y, z, u] t)).cell? a0 = some v0 ∧ (W.alloc (.cells #[x, y, z, u] t)).cell? a1 = some v1 ∧ (W.alloc (.cells #[x, y, z, u] t)).cell? a2 = some v2 ∧ (W.alloc (.cells #[x, y, z, u] t)).cell? a3 = some v3 ∧ (W.alloc (.cells #[x, y, z, u] t)).cell? ⟨b, 0, none⟩ = some x ∧ (W.alloc (.cells #[x, y, z, u] t)).cell? ⟨b, 1, none⟩ = some y ∧ (W.alloc (.cells #[x, y, z, u] t)).cell? ⟨b, 2, none⟩ = some z ∧ (W.alloc (.cells #[x, y, z, u] t)).cell? ⟨b, 3, none⟩ = some u ∧ N ≤ (W.alloc (.cells #[x, y, z, u] t)).heap.size ∧ Below N w (W.alloc (.cells #[x, y, z, u] t)) := two (behind ..) (two (behind ..) (fun h => adq0 h b e x y z u t)) h
theorem adq6 (h : W.cell? a0 = some v0 ∧ W.cell? a1 = some v1 ∧ W.cell? a2 = some v2 ∧ W.cell? a3 = some v3 ∧ W.cell? a4 = some v4 ∧ W.cell? a5 = some v5 ∧ N ≤ W.heap.size ∧ Below N w W) (b : Nat) (e : W.heap.size = b) (x y z u : Value) (t : TypeId) :
    (W.alloc (.cells #[x, y, z, u] t)).cell? a0 = some v0 ∧ (W.alloc (.cells #[x, y, z, u] t)).cell? a1 = some v1 ∧ (W.alloc (.cells #[x, y, z, u] t)).cell? a2 = some v2 ∧ (W.alloc (.cells #[x, y, z, u] t)).cell? a3 = some v3 ∧ (W.alloc (.cells #[x, y, z, u] t)).cell? a4 = some v4 ∧ (W.alloc (.cells #[x, y, z, u] t)).cell? a5 = some v5 ∧ (W.alloc (.cells #[x, y, z, u] t)).cell? ⟨b, 0, none⟩ = some x ∧ (W.alloc (.cells #[x, y, z, u] t)).cell? ⟨b, 1, none⟩ = some y ∧ (W.alloc (.cells #[x, y, z, u] t)).cell? ⟨b, 2, none⟩ = some z ∧ (W.alloc (.cells #[x, y, z, u] t)).cell? ⟨b, 3, none⟩ = some u ∧ N ≤ (W.alloc (.cells #[x, y, z, u] t)).heap.size ∧ Below N w (W.alloc (.cells #[x, y, z, u] t)) := two (behind ..) (two (behind ..) (two (behind ..) (fun h => adq0 h b e x y z u t))) h
theorem adq8 (h : W.cell? a0 = some v0 ∧ W.cell? a1 = some v1 ∧ W.cell? a2 = some v2 ∧ W.cell? a3 = some v3 ∧ W.cell? a4 = some v4 ∧ W.cell? a5 = some v5 ∧ W.cell? a6 = some v6 ∧ W.cell? a7 = some v7 ∧ N ≤ W.heap.size ∧ Below N w W) (b : Nat) (e : W.heap.size = b) (x y z u : Value) (t : TypeId) :
    (W.alloc (.cells #[x, y, z, u] t)).cell? a0 = some v0 ∧ (W.alloc (.cells #[x, y, z, u] t)).cell? a1 = some v1 ∧ (W.alloc (.cells #[x, y, z, u] t)).cell? a2 = some v2 ∧ (W.alloc (.cells #[x, y, z, u] t)).cell? a3 = some v3 ∧ (W.alloc (.cells #[x, y, z, u] t)).cell? a4 = some v4 ∧ (W.alloc (.cells #[x, y, z, u] t)).cell? a5 = some v5 ∧ (W.alloc (.cells #[x, y, z, u] t)).cell? a6 = some v6 ∧ (W.alloc (.cells #[x, y, z, u] t)).cell? a7 = some v7 ∧ (W.alloc (.cells #[x, y, z, u] t)).cell? ⟨b, 0, none⟩ = some x ∧ (W.alloc (.cells #[x, y, z, u] t)).cell? ⟨b, 1, none⟩ = some y ∧ (W.alloc (.cells #[x, y, z, u] t)).cell? ⟨b, 2, none⟩ = some z ∧ (W.alloc (.cells #[x, y, z, u] t)).cell? ⟨b, 3, none⟩ = some u ∧ N ≤ (W.alloc (.cells #[x, y, z, u] t)).heap.size ∧ Below N w (W.alloc (.cells #[x, y, z, u] t)) := two (behind ..) (two (behind ..) (two (behind ..) (two (behind ..) (fun h => adq0 h b e x y z u t)))) h
theorem adq10 (h : W.cell? a0 = some v0 ∧ W.cell? a1 = some v1 ∧ W.cell? a2 = some v2 ∧ W.cell? a3 = some v3 ∧ W.cell? a4 = some v4 ∧ W.cell? a5 = some v5 ∧ W.cell? a6 = some v6 ∧ W.cell? a7 = some v7 ∧ W.cell? a8 = some v8 ∧ W.cell? a9 = some v9 ∧ N ≤ W.heap.size ∧ Below N w W) (b : Nat) (e : W.heap.size = b) (x y z u : Value) (t : TypeId) :
    (W.alloc (.cells #[x, y, z, u] t)).cell? a0 = some v0 ∧ (W.alloc (.cells #[x, y, z, u] t)).cell? a1 = some v1 ∧ (W.alloc (.cells #[x, y, z, u] t)).cell? a2 = some v2 ∧ (W.alloc (.cells #[x, y, z, u] t)).cell? a3 = some v3 ∧ (W.alloc (.cells #[x, y, z, u] t)).cell? a4 = some v4 ∧ (W.alloc (.cells #[x, y, z, u] t)).cell? a5 = some v5 ∧ (W.alloc (.cells #[x, y, z, u] t)).cell? a6 = some v6 ∧ (W.alloc (.cells #[x, y, z, u] t)).cell? a7 = some v7 ∧ (W.alloc (.cells #[x, y, z, u] t)).cell? a8 = some v8 ∧ (W.alloc (.cells #[x, y, z, u] t)).cell? a9 = some v9 ∧ (W.alloc (.cells #[x, y, z, u] t)).cell? ⟨b, 0, none⟩ = some x ∧ (W.alloc (.cells #[x, y, z, u] t)).cell? ⟨b, 1, none⟩ = some y ∧ (W.alloc (.cells #[x, y, z, u] t)).cell? ⟨b, 2, none⟩ = some z ∧ (W.alloc (.cells #[x, y, z, u] t)).cell? ⟨b, 3, none⟩ = some u ∧ N ≤ (W.alloc (.cells #[x, y, z, u] t)).heap.size ∧ Below N w (W.alloc (.cells #[x, y, z, u] t)) := two (behind ..) (two (behind ..) (two (behind ..) (two (behind ..) (two (behind ..) (fun h => adq0 h b e x y z u t))))) h
theorem adq12 (h : W.cell? a0 = some v0 ∧ W.cell? a1 = some v1 ∧ W.cell? a2 = some v2 ∧ W.cell? a3 = some v3 ∧ W.cell? a4 = some v4 ∧ W.cell? a5 = some v5 ∧ W.cell? a6 = some v6 ∧ W.cell? a7 = some v7 ∧ W.cell? a8 = some v8 ∧ W.cell? a9 = some v9 ∧ W.cell? a10 = some v10 ∧ W.cell? a11 = some v11 ∧ N ≤ W.heap.size ∧ Below N w W) (b : Nat) (e : W.heap.size = b) (x y z u : Value) (t : TypeId) :
    (W.alloc (.cells #[x, y, z, u] t)).cell? a0 = some v0 ∧ (W.alloc (.cells #[x, y, z, u] t)).cell? a1 = some v1 ∧ (W.alloc (.cells #[x, y, z, u] t)).cell? a2 = some v2 ∧ (W.alloc (.cells #[x, y, z, u] t)).cell? a3 = some v3 ∧ (W.alloc (.cells #[x, y, z, u] t)).cell? a4 = some v4 ∧ (W.alloc (.cells #[x, y, z, u] t)).cell? a5 = some v5 ∧ (W.alloc (.cells #[x, y, z, u] t)).cell? a6 = some v6 ∧ (W.alloc (.cells #[x, y, z, u] t)).cell? a7 = some v7 ∧ (W.alloc (.cells #[x, y, z, u] t)).cell? a8 = some v8 ∧ (W.alloc (.cells #[x, y, z, u] t)).cell? a9 = some v9 ∧ (W.alloc (.cells #[x, y, z, u] t)).cell? a10 = some v10 ∧ (W.alloc (.cells #[x, y, z, u] t)).cell? a11 = some v11 ∧ (W.alloc (.cells #[x, y, z, u] t)).cell? ⟨b, 0, none⟩ = some x ∧ (W.alloc (.cells #[x, y, z, u] t)).cell? ⟨b, 1, none⟩ = some y ∧ (W.alloc (.cells #[x, y, z, u] t)).cell? ⟨b, 2, none⟩ = some z ∧ (W.alloc (.cells #[x, y, z, u] t)).cell? ⟨b, 3, none⟩ = some u ∧ N ≤ (W.alloc (.cells #[x, y, z, u] t)).heap.size ∧ Below N w (W.alloc (.cells #[x, y, z, u] t)) := two (behind ..) (two (behind ..) (two (behind ..) (two (behind ..) (two (behind ..) (two (behind ..) (fun h => adq0 h b e x y z u t)))))) h
theorem adq14 (h : W.cell? a0 = some v0 ∧ W.cell? a1 = some v1 ∧ W.cell? a2 = some v2 ∧ W.cell? a3 = some v3 ∧ W.cell? a4 = some v4 ∧ W.cell? a5 = some v5 ∧ W.cell? a6 = some v6 ∧ W.cell? a7 = some v7 ∧ W.cell? a8 = some v8 ∧ W.cell? a9 = some v9 ∧ W.cell? a10 = some v10 ∧ W.cell? a11 = some v11 ∧ W.cell? a12 = some v12 ∧ W.cell? a13 = some v13 ∧ N ≤ W.heap.size ∧ Below N w W) (b : Nat) (e : W.heap.size = b) (x y z u : Value) (t : TypeId) :
    (W.alloc (.cells #[x, y, z, u] t)).cell? a0 = some v0 ∧ (W.alloc (.cells #[x, y, z, u] t)).cell? a1 = some v1 ∧ (W.alloc (.cells #[x, y, z, u] t)).cell? a2 = some v2 ∧ (W.alloc (.cells #[x, y, z, u] t)).cell? a3 = some v3 ∧ (W.alloc (.cells #[x, y, z, u] t)).cell? a4 = some v4 ∧ (W.alloc (.cells #[x, y, z, u] t)).cell? a5 = some v5 ∧ (W.alloc (.cells #[x, y, z, u] t)).cell? a6 = some v6 ∧ (W.alloc (.cells #[x, y, z, u] t)).cell? a7 = some v7 ∧ (W.alloc (.cells #[x, y, z, u] t)).cell? a8 = some v8 ∧ (W.alloc (.cells #[x, y, z, u] t)).cell? a9 = some v9 ∧ (W.alloc (.cells #[x, y, z, u] t)).cell? a10 = some v10 ∧ (W.alloc (.cells #[x, y, z, u] t)).cell? a11 = some v11 ∧ (W.alloc (.cells #[x, y, z, u] t)).cell? a12 = some v12 ∧ (W.alloc (.cells #[x, y, z, u] t)).cell? a13 = some v13 ∧ (W.alloc (.cells #[x, y, z, u] t)).cell? ⟨b, 0, none⟩ = some x ∧ (W.alloc (.cells #[x, y, z, u] t)).cell? ⟨b, 1, none⟩ = some y ∧ (W.alloc (.cells #[x, y, z, u] t)).cell? ⟨b, 2, none⟩ = some z ∧ (W.alloc (.cells #[x, y, z, u] t)).cell? ⟨b, 3, none⟩ = some u ∧ N ≤ (W.alloc (.cells #[x, y, z, u] t)).heap.size ∧ Below N w (W.alloc (.cells #[x, y, z, u] t)) := two (behind ..) (two (behind ..) (two (behind ..) (two (behind ..) (two (behind ..) (two (behind ..) (two (behind ..) (fun h => adq0 h b e x y z u t))))))) h
theorem adq16 (h : W.cell? a0 = some v0 ∧ W.cell? a1 = some v1 ∧ W.cell? a2 = some v2 ∧ W.cell? a3 = some v3 ∧ W.cell? a4 = some v4 ∧ W.cell? a5 = some v5 ∧ W.cell? a6 = some v6 ∧ W.cell? a7 = some v7 ∧ W.cell? a8 = some v8 ∧ W.cell? a9 = some v9 ∧ W.cell? a10 = some v10 ∧ W.cell? a11 = some v11 ∧ W.cell? a12 = some v12 ∧ W.cell? a13 = some v13 ∧ W.cell? a14 = some v14 ∧ W.cell? a15 = some v15 ∧ N ≤ W.heap.size ∧ Below N w W) (b : Nat) (e : W.heap.size = b) (x y z u : Value) (t : TypeId) :
    (W.alloc (.cells #[x, y, z, u] t)).cell? a0 = some v0 ∧ (W.alloc (.cells #[x, y, z, u] t)).cell? a1 = some v1 ∧ (W.alloc (.cells #[x, y, z, u] t)).cell? a2 = some v2 ∧ (W.alloc (.cells #[x, y, z, u] t)).cell? a3 = some v3 ∧ (W.alloc (.cells #[x, y, z, u] t)).cell? a4 = some v4 ∧ (W.alloc (.cells #[x, y, z, u] t)).cell? a5 = some v5 ∧ (W.alloc (.cells #[x, y, z, u] t)).cell? a6 = some v6 ∧ (W.alloc (.cells #[x, y, z, u] t)).cell? a7 = some v7 ∧ (W.alloc (.cells #[x, y, z, u] t)).cell? a8 = some v8 ∧ (W.alloc (.cells #[x, y, z, u] t)).cell? a9 = some v9 ∧ (W.alloc (.cells #[x, y, z, u] t)).cell? a10 = some v10 ∧ (W.alloc (.cells #[x, y, z, u] t)).cell? a11 = some v11 ∧ (W.alloc (.cells #[x, y, z, u] t)).cell? a12 = some v12 ∧ (W.alloc (.cells #[x, y, z, u] t)).cell? a13 = some v13 ∧ (W.alloc (.cells #[x, y, z, u] t)).cell? a14 = some v14 ∧ (W.alloc (.cells #[x, y, z, u] t)).cell? a15 = some v15 ∧ (W.alloc (.cells #[x, y, z, u] t)).cell? ⟨b, 0, none⟩ = some x ∧ (W.alloc (.cells #[x, y, z, u] t)).cell? ⟨b, 1, none⟩ = some y ∧ (W.alloc (.cells #[x, y, z, u] t)).cell? ⟨b, 2, none⟩ = some z ∧ (W.alloc (.cells #[x, y, z, u] t)).cell? ⟨b, 3, none⟩ = some u ∧ N ≤ (W.alloc (.cells #[x, y, z, u] t)).heap.size ∧ Below N w (W.alloc (.cells #[x, y, z, u] t)) := two (behind ..) (two (behind ..) (two (behind ..) (two (behind ..) (two (behind ..) (two (behind ..) (two (behind ..) (two (behind ..) (fun h => adq0 h b e x y z u t)))))))) h
theorem adq18 (h : W.cell? a0 = some v0 ∧ W.cell? a1 = some v1 ∧ W.cell? a2 = some v2 ∧ W.cell? a3 = some v3 ∧ W.cell? a4 = some v4 ∧ W.cell? a5 = some v5 ∧ W.cell? a6 = some v6 ∧ W.cell? a7 = some v7 ∧ W.cell? a8 = some v8 ∧ W.cell? a9 = some v9 ∧ W.cell? a10 = some v10 ∧ W.cell? a11 = some v11 ∧ W.cell? a12 = some v12 ∧ W.cell? a13 = some v13 ∧ W.cell? a14 = some v14 ∧ W.cell? a15 = some v15 ∧ W.cell? a16 = some v16 ∧ W.cell? a17 = some v17 ∧ N ≤ W.heap.size ∧ Below N w W) (b : Nat) (e : W.heap.size = b) (x y z u : Value) (t : TypeId) :
    (W.alloc (.cells #[x, y, z, u] t)).cell? a0 = some v0 ∧ (W.alloc (.cells #[x, y, z, u] t)).cell? a1 = some v1 ∧ (W.alloc (.cells #[x, y, z, u] t)).cell? a2 = some v2 ∧ (W.alloc (.cells #[x, y, z, u] t)).cell? a3 = some v3 ∧ (W.alloc (.cells #[x, y, z, u] t)).cell? a4 = some v4 ∧ (W.alloc (.cells #[x, y, z, u] t)).cell? a5 = some v5 ∧ (W.alloc (.cells #[x, y, z, u] t)).cell? a6 = some v6 ∧ (W.alloc (.cells #[x, y, z, u] t)).cell? a7 = some v7 ∧ (W.alloc (.cells #[x, y, z, u] t)).cell? a8 = some v8 ∧ (W.alloc (.cells #[x, y, z, u] t)).cell? a9 = some v9 ∧ (W.alloc (.cells #[x, y, z, u] t)).cell? a10 = some v10 ∧ (W.alloc (.cells #[x, y, z, u] t)).cell? a11 = some v11 ∧ (W.alloc (.cells #[x, y, z, u] t)).cell? a12 = some v12 ∧ (W.alloc (.cells #[x, y, z, u] t)).cell? a13 = some v13 ∧ (W.alloc (.cells #[x, y, z, u] t)).cell? a14 = some v14 ∧ (W.alloc (.cells #[x, y, z, u] t)).cell? a15 = some v15 ∧ (W.alloc (.cells #[x, y, z, u] t)).cell? a16 = some v16 ∧ (W.alloc (.cells #[x, y, z, u] t)).cell? a17 = some v17 ∧ (W.alloc (.cells #[x, y, z, u] t)).cell? ⟨b, 0, none⟩ = some x ∧ (W.alloc (.cells #[x, y, z, u] t)).cell? ⟨b, 1, none⟩ = some y ∧ (W.alloc (.cells #[x, y, z, u] t)).cell? ⟨b, 2, none⟩ = some z ∧ (W.alloc (.cells #[x, y, z, u] t)).cell? ⟨b, 3, none⟩ = some u ∧ N ≤ (W.alloc (.cells #[x, y, z, u] t)).heap.size ∧ Below N w (W.alloc (.cells #[x, y, z, u] t)) := two (behind ..) (two (behind ..) (two (behind ..) (two (behind ..) (two (behind ..) (two (behind ..) (two (behind ..) (two (behind ..) (two (behind ..) (fun h => adq0 h b e x y z u t))))))))) h
theorem adq20 (h : W.cell? a0 = some v0 ∧ W.cell? a1 = some v1 ∧ W.cell? a2 = some v2 ∧ W.cell? a3 = some v3 ∧ W.cell? a4 = some v4 ∧ W.cell? a5 = some v5 ∧ W.cell? a6 = some v6 ∧ W.cell? a7 = some v7 ∧ W.cell? a8 = some v8 ∧ W.cell? a9 = some v9 ∧ W.cell? a10 = some v10 ∧ W.cell? a11 = some v11 ∧ W.cell? a12 = some v12 ∧ W.cell? a13 = some v13 ∧ W.cell? a14 = some v14 ∧ W.cell? a15 = some v15 ∧ W.cell? a16 = some v16 ∧ W.cell? a17 = some v17 ∧ W.cell? a18 = some v18 ∧ W.cell? a19 = some v19 ∧ N ≤ W.heap.size ∧ Below N w W) (b : Nat) (e : W.heap.size = b) (x y z u : Value) (t : TypeId) :
    (W.alloc (.cells #[x, y, z, u] t)).cell? a0 = some v0 ∧ (W.alloc (.cells #[x, y, z, u] t)).cell? a1 = some v1 ∧ (W.alloc (.cells #[x, y, z, u] t)).cell? a2 = some v2 ∧ (W.alloc (.cells #[x, y, z, u] t)).cell? a3 = some v3 ∧ (W.alloc (.cells #[x, y, z, u] t)).cell? a4 = some v4 ∧ (W.alloc (.cells #[x, y, z, u] t)).cell? a5 = some v5 ∧ (W.alloc (.cells #[x, y, z, u] t)).cell? a6 = some v6 ∧ (W.alloc (.cells #[x, y, z, u] t)).cell? a7 = some v7 ∧ (W.alloc (.cells #[x, y, z, u] t)).cell? a8 = some v8 ∧ (W.alloc (.cells #[x, y, z, u] t)).cell? a9 = some v9 ∧ (W.alloc (.cells #[x, y, z, u] t)).cell? a10 = some v10 ∧ (W.alloc (.cells #[x, y, z, u] t)).cell? a11 = some v11 ∧ (W.alloc (.cells #[x, y, z, u] t)).cell? a12 = some v12 ∧ (W.alloc (.cells #[x, y, z, u] t)).cell? a13 = some v13 ∧ (W.alloc (.cells #[x, y, z, u] t)).cell? a14 = some v14 ∧ (W.alloc (.cells #[x, y, z, u] t)).cell? a15 = some v15 ∧ (W.alloc (.cells #[x, y, z, u] t)).cell? a16 = some v16 ∧ (W.alloc (.cells #[x, y, z, u] t)).cell? a17 = some v17 ∧ (W.alloc (.cells #[x, y, z, u] t)).cell? a18 = some v18 ∧ (W.alloc (.cells #[x, y, z, u] t)).cell? a19 = some v19 ∧ (W.alloc (.cells #[x, y, z, u] t)).cell? ⟨b, 0, none⟩ = some x ∧ (W.alloc (.cells #[x, y, z, u] t)).cell? ⟨b, 1, none⟩ = some y ∧ (W.alloc (.cells #[x, y, z, u] t)).cell? ⟨b, 2, none⟩ = some z ∧ (W.alloc (.cells #[x, y, z, u] t)).cell? ⟨b, 3, none⟩ = some u ∧ N ≤ (W.alloc (.cells #[x, y, z, u] t)).heap.size ∧ Below N w (W.alloc (.cells #[x, y, z, u] t)) := two (behind ..) (two (behind ..) (two (behind ..) (two (behind ..) (two (behind ..) (two (behind ..) (two (behind ..) (two (behind ..) (two (behind ..) (two (behind ..) (fun h => adq0 h b e x y z u t)))))))))) h
end Go.Proofs.YtobkgamcjfjghaaGreat.Kp
/-
  Contracts of May of layer 2 (rect), and of the document's answers Rect and Holds. Memory that was there is left as it was.
-/
namespace Go.Proofs.YtobkgamcjfjghaaGreat.Rc
open Go.RowKit Go.Proofs.YtobkgamcjfjghaaGreat.Pt

theorem rmay_any (x1 y1 x2 y2 : Int) (w : World) : Calls Tryz.prog 24 #[.agg #[.int .i64 x1, .int .i64 y1, .int .i64 x2, .int .i64 y2]] w fun e w' => e = .returned (.bool (rmayB x1 y1 x2 y2)) ∧ Below w.heap.size w w' := by
  have L := Kp.adq0 ⟨Nat.le_refl _, Below.refl w.heap.size w⟩ w.heap.size rfl (.int .i64 x1) (.int .i64 y1) (.int .i64 x2) (.int .i64 y2) 26
  cases h1 : mayB x1 y1
  · rw [show rmayB x1 y1 x2 y2 = false by unfold rmayB; rw [h1]; rfl]
    go_enter Tryz.func24, Tryz.ntmps24
    go_wp2_with (first | (go_at_call 40; refine (low_any _ _ _ _ _).mono ?_; rintro e w1 ⟨rfl, hb1⟩; have K1 := Kp.keep4 hb1 (by assumption); clear hb1) | (go_at_call 41; refine (high_any _ _ _ _ _).mono ?_; rintro e w1 ⟨rfl, hb1⟩; have K1 := Kp.keep4 hb1 (by assumption); clear hb1) | (go_at_call 39; refine (may_any _ _ _).mono ?_; rintro e w1 ⟨rfl, hb1⟩; have K1 := Kp.keep4 hb1 (by assumption); clear hb1) | (go_at_call 42; refine (inOrder_any _ _ _ _ _).mono ?_; rintro e w1 ⟨rfl, hb1⟩; have K1 := Kp.keep4 hb1 (by assumption); clear hb1))
    go_ret
    exact ⟨rfl, Kp.end4 (by assumption)⟩
  cases h2 : mayB x2 y2
  · rw [show rmayB x1 y1 x2 y2 = false by unfold rmayB; rw [h1, h2]; rfl]
    go_enter Tryz.func24, Tryz.ntmps24
    go_wp2_with (first | (go_at_call 40; refine (low_any _ _ _ _ _).mono ?_; rintro e w1 ⟨rfl, hb1⟩; have K1 := Kp.keep4 hb1 (by assumption); clear hb1) | (go_at_call 41; refine (high_any _ _ _ _ _).mono ?_; rintro e w1 ⟨rfl, hb1⟩; have K1 := Kp.keep4 hb1 (by assumption); clear hb1) | (go_at_call 39; refine (may_any _ _ _).mono ?_; rintro e w1 ⟨rfl, hb1⟩; have K1 := Kp.keep4 hb1 (by assumption); clear hb1) | (go_at_call 42; refine (inOrder_any _ _ _ _ _).mono ?_; rintro e w1 ⟨rfl, hb1⟩; have K1 := Kp.keep4 hb1 (by assumption); clear hb1))
    go_ret
    exact ⟨rfl, Kp.end4 (by assumption)⟩
  rw [show rmayB x1 y1 x2 y2 = ordB x1 y1 x2 y2 by unfold rmayB; rw [h1, h2]; rfl]
  go_enter Tryz.func24, Tryz.ntmps24
  go_wp2_with (first | (go_at_call 40; refine (low_any _ _ _ _ _).mono ?_; rintro e w1 ⟨rfl, hb1⟩; have K1 := Kp.keep4 hb1 (by assumption); clear hb1) | (go_at_call 41; refine (high_any _ _ _ _ _).mono ?_; rintro e w1 ⟨rfl, hb1⟩; have K1 := Kp.keep4 hb1 (by assumption); clear hb1) | (go_at_call 39; refine (may_any _ _ _).mono ?_; rintro e w1 ⟨rfl, hb1⟩; have K1 := Kp.keep4 hb1 (by assumption); clear hb1) | (go_at_call 42; refine (inOrder_any _ _ _ _ _).mono ?_; rintro e w1 ⟨rfl, hb1⟩; have K1 := Kp.keep4 hb1 (by assumption); clear hb1))
  go_ret
  exact ⟨rfl, Kp.end4 (by assumption)⟩

theorem refRect_any (x1 y1 x2 y2 : Int) (w : World) : Calls Tryz.prog 11 #[.agg #[.int .i64 x1, .int .i64 y1, .int .i64 x2, .int .i64 y2]] w fun e w' => e = .returned (.bool (rmayB x1 y1 x2 y2)) ∧ Below w.heap.size w w' := by
  have L := Kp.adq0 ⟨Nat.le_refl _, Below.refl w.heap.size w⟩ w.heap.size rfl (.int .i64 x1) (.int .i64 y1) (.int .i64 x2) (.int .i64 y2) 26
  cases h1 : mayB x1 y1
  · rw [show rmayB x1 y1 x2 y2 = false by unfold rmayB; rw [h1]; rfl]
    go_enter Tryz.func11, Tryz.ntmps11
    go_wp2_with (go_at_call 16; refine (refMay_any _ _ _).mono ?_; rintro e w1 ⟨rfl, hb1⟩; have K1 := Kp.keep4 hb1 (by assumption); clear hb1)
    go_ret
    exact ⟨rfl, Kp.end4 (by assumption)⟩
  cases h2 : mayB x2 y2
  · rw [show rmayB x1 y1 x2 y2 = false by unfold rmayB; rw [h1, h2]; rfl]
    go_enter Tryz.func11, Tryz.ntmps11
    go_wp2_with (go_at_call 16; refine (refMay_any _ _ _).mono ?_; rintro e w1 ⟨rfl, hb1⟩; have K1 := Kp.keep4 hb1 (by assumption); clear hb1)
    go_ret
    exact ⟨rfl, Kp.end4 (by assumption)⟩
  rw [show rmayB x1 y1 x2 y2 = ordB x1 y1 x2 y2 by unfold rmayB; rw [h1, h2]; rfl]
  go_enter Tryz.func11, Tryz.ntmps11
  go_wp2_with (go_at_call 16; refine (refMay_any _ _ _).mono ?_; rintro e w1 ⟨rfl, hb1⟩; have K1 := Kp.keep4 hb1 (by assumption); clear hb1)
  all_goals (go_ret; exact ⟨by simp [ordB, *] <;> omega, Kp.end4 (by assumption)⟩)

end Go.Proofs.YtobkgamcjfjghaaGreat.Rc
/-
  Contracts of the functions of layer 2 (rect) that call others, and of their document's answers: May, Holds for any rectangles; Grow, Meet's and Join's document's answers for rectangles that may be. Memory that was there is left as it was.
-/
namespace Go.Proofs.YtobkgamcjfjghaaGreat.Rc
open Go.RowKit Go.Proofs.YtobkgamcjfjghaaGreat.Pt

set_option maxHeartbeats 1000000 in
theorem holds_any (ax1 ay1 ax2 ay2 bx1 by1 bx2 by2 : Int) (w : World) : Calls Tryz.prog 51 #[.agg #[.int .i64 ax1, .int .i64 ay1, .int .i64 ax2, .int .i64 ay2], .agg #[.int .i64 bx1, .int .i64 by1, .int .i64 bx2, .int .i64 by2]] w fun e w' => e = .returned (.bool (holdsB ax1 ay1 ax2 ay2 bx1 by1 bx2 by2)) ∧ Below w.heap.size w w' := by
  have L := Kp.adq4 (Kp.adq0 ⟨Nat.le_refl _, Below.refl w.heap.size w⟩ w.heap.size rfl (.int .i64 ax1) (.int .i64 ay1) (.int .i64 ax2) (.int .i64 ay2) 26) (w.heap.size + 1) (by simp) (.int .i64 bx1) (.int .i64 by1) (.int .i64 bx2) (.int .i64 by2) 26
  cases h1 : inB ax1 ay1 ax2 ay2 bx1 by1
  · rw [show holdsB ax1 ay1 ax2 ay2 bx1 by1 bx2 by2 = false by unfold holdsB; rw [h1]; rfl]
    go_enter Tryz.func51, Tryz.ntmps51
    go_wp2_with fail
    refine wp_region_held_drew (S := (fun W => W.cell? ⟨w.heap.size, 0, none⟩ = some (.int .i64 ax1) ∧ W.cell? ⟨w.heap.size, 1, none⟩ = some (.int .i64 ay1) ∧ W.cell? ⟨w.heap.size, 2, none⟩ = some (.int .i64 ax2) ∧ W.cell? ⟨w.heap.size, 3, none⟩ = some (.int .i64 ay2) ∧ W.cell? ⟨w.heap.size + 1, 0, none⟩ = some (.int .i64 bx1) ∧ W.cell? ⟨w.heap.size + 1, 1, none⟩ = some (.int .i64 by1) ∧ W.cell? ⟨w.heap.size + 1, 2, none⟩ = some (.int .i64 bx2) ∧ W.cell? ⟨w.heap.size + 1, 3, none⟩ = some (.int .i64 by2) ∧ w.heap.size ≤ W.heap.size ∧ Below w.heap.size w W)) (by kernel_rfl) (Kp.drew8 (by assumption)) (fun hHeld => ?_)
    refine wpAnyH_take (i := 0) (v := ?v0) rfl (by kernel_rfl) (by kernel_rfl) (by kernel_rfl) (fun _ _ _ h => h) (Or.inl ⟨by rfl, ?y0⟩) hHeld ?r0
    case y0 => (intro W hSw; simp only [List.getElem_toArray, List.getElem_cons_zero]; go_simp; try (with_reducible rfl))
    simp only [List.getElem_toArray, List.getElem_cons_zero, Act.put, List.setIfInBounds_toArray, List.set_cons_zero, List.set_cons_succ]
    refine wpAnyH_take (i := 1) (v := ?v1) rfl (by kernel_rfl) (by kernel_rfl) (by kernel_rfl) (fun _ _ _ h => h) (Or.inl ⟨by rfl, ?y1⟩) hHeld ?r1
    case y1 => (intro W hSw; simp only [List.getElem_toArray, List.getElem_cons_succ, List.getElem_cons_zero]; go_simp; try (with_reducible rfl))
    simp only [List.getElem_toArray, List.getElem_cons_succ, List.getElem_cons_zero, Act.put, List.setIfInBounds_toArray, List.set_cons_zero, List.set_cons_succ]
    refine wpAnyH_ready (rs := [2]) (by kernel_rfl) (by simp) (AllReadyH.cons rfl (fun K hK => ?_) AllReadyH.nil)
    simp only [List.getElem_toArray, List.getElem_cons_succ, List.getElem_cons_zero]
    go_simp
    (first | (go_at_call 40; refine (low_any _ _ _ _ _).mono ?_; rintro e w1 ⟨rfl, hb1⟩) | (go_at_call 41; refine (high_any _ _ _ _ _).mono ?_; rintro e w1 ⟨rfl, hb1⟩) | (go_at_call 32; refine (in_any _ _ _ _ _ _ _).mono ?_; rintro e w1 ⟨rfl, hb1⟩))
    try go_wp2_with fail
    refine hK.out _ _ (Kp.keep8 (by assumption) (by assumption)) (fun hHeld1 => ?_)
    clear hK K hHeld
    have hHeld := hHeld1; clear hHeld1
    try simp only [List.getElem_toArray, List.getElem_cons_succ, List.getElem_cons_zero, Act.put, List.setIfInBounds_toArray, List.set_cons_zero, List.set_cons_succ]
    refine wpAnyH_ready (rs := [3]) (by kernel_rfl) (by simp) (AllReadyH.cons rfl (fun K hK => ?_) AllReadyH.nil)
    simp only [List.getElem_toArray, List.getElem_cons_succ, List.getElem_cons_zero]
    go_simp
    (first | (go_at_call 40; refine (low_any _ _ _ _ _).mono ?_; rintro e w1 ⟨rfl, hb1⟩) | (go_at_call 41; refine (high_any _ _ _ _ _).mono ?_; rintro e w1 ⟨rfl, hb1⟩) | (go_at_call 32; refine (in_any _ _ _ _ _ _ _).mono ?_; rintro e w1 ⟨rfl, hb1⟩))
    try go_wp2_with fail
    refine hK.out _ _ (Kp.keep8 (by assumption) (by assumption)) (fun hHeld1 => ?_)
    clear hK K hHeld
    have hHeld := hHeld1; clear hHeld1
    try simp only [List.getElem_toArray, List.getElem_cons_succ, List.getElem_cons_zero, Act.put, List.setIfInBounds_toArray, List.set_cons_zero, List.set_cons_succ]
    refine wpAnyH_take (i := 4) (v := ?v4) rfl (by kernel_rfl) (by kernel_rfl) (by kernel_rfl) (fun _ _ _ h => h) (Or.inl ⟨by rfl, ?y4⟩) hHeld ?r4
    case y4 => (intro W hSw; simp only [List.getElem_toArray, List.getElem_cons_succ, List.getElem_cons_zero]; go_simp; try (with_reducible rfl))
    simp only [List.getElem_toArray, List.getElem_cons_succ, List.getElem_cons_zero, Act.put, List.setIfInBounds_toArray, List.set_cons_zero, List.set_cons_succ]
    refine wpAnyH_take (i := 5) (v := undef) rfl (by kernel_rfl) (by kernel_rfl) (by kernel_rfl) (fun _ _ _ h => h) (Or.inr ⟨by rfl, rfl⟩) hHeld ?_
    simp only [List.getElem_toArray, List.getElem_cons_succ, List.getElem_cons_zero, Act.put, List.setIfInBounds_toArray, List.set_cons_zero, List.set_cons_succ]
    refine wpAnyH_take (i := 6) (v := undef) rfl (by kernel_rfl) (by kernel_rfl) (by kernel_rfl) (fun _ _ _ h => h) (Or.inr ⟨by rfl, rfl⟩) hHeld ?_
    simp only [List.getElem_toArray, List.getElem_cons_succ, List.getElem_cons_zero, Act.put, List.setIfInBounds_toArray, List.set_cons_zero, List.set_cons_succ]
    refine wpAnyH_take (i := 7) (v := undef) rfl (by kernel_rfl) (by kernel_rfl) (by kernel_rfl) (fun _ _ _ h => h) (Or.inr ⟨by rfl, rfl⟩) hHeld ?_
    simp only [List.getElem_toArray, List.getElem_cons_succ, List.getElem_cons_zero, Act.put, List.setIfInBounds_toArray, List.set_cons_zero, List.set_cons_succ]
    refine wpAnyH_take (i := 8) (v := undef) rfl (by kernel_rfl) (by kernel_rfl) (by kernel_rfl) (fun _ _ _ h => h) (Or.inr ⟨by rfl, rfl⟩) hHeld ?_
    simp only [List.getElem_toArray, List.getElem_cons_succ, List.getElem_cons_zero, Act.put, List.setIfInBounds_toArray, List.set_cons_zero, List.set_cons_succ]
    refine wpAnyH_take (i := 9) (v := ?v9) rfl (by kernel_rfl) (by kernel_rfl) (by kernel_rfl) (fun _ _ _ h => h) (Or.inl ⟨by rfl, ?y9⟩) hHeld ?r9
    case y9 => (intro W hSw; simp only [List.getElem_toArray, List.getElem_cons_succ, List.getElem_cons_zero]; go_simp; try (with_reducible rfl))
    simp only [List.getElem_toArray, List.getElem_cons_succ, List.getElem_cons_zero, Act.put, List.setIfInBounds_toArray, List.set_cons_zero, List.set_cons_succ]
    refine wpAnyH_take (i := 10) (v := ?v10) rfl (by kernel_rfl) (by kernel_rfl) (by kernel_rfl) (fun _ _ _ h => h) (Or.inl ⟨by rfl, ?y10⟩) hHeld ?r10
    case y10 => (intro W hSw; simp only [List.getElem_toArray, List.getElem_cons_succ, List.getElem_cons_zero]; go_simp; try (with_reducible rfl))
    simp only [List.getElem_toArray, List.getElem_cons_succ, List.getElem_cons_zero, Act.put, List.setIfInBounds_toArray, List.set_cons_zero, List.set_cons_succ]
    refine wpAnyH_done (by kernel_rfl) ?_ _
    go_wp2_with fail
    go_ret
    exact ⟨rfl, Kp.end8 (by assumption)⟩
  rw [show holdsB ax1 ay1 ax2 ay2 bx1 by1 bx2 by2 = inB ax1 ay1 ax2 ay2 bx2 by2 by unfold holdsB; rw [h1]; rfl]
  go_enter Tryz.func51, Tryz.ntmps51
  go_wp2_with fail
  go_region_held3 (fun W => W.cell? ⟨w.heap.size, 0, none⟩ = some (.int .i64 ax1) ∧ W.cell? ⟨w.heap.size, 1, none⟩ = some (.int .i64 ay1) ∧ W.cell? ⟨w.heap.size, 2, none⟩ = some (.int .i64 ax2) ∧ W.cell? ⟨w.heap.size, 3, none⟩ = some (.int .i64 ay2) ∧ W.cell? ⟨w.heap.size + 1, 0, none⟩ = some (.int .i64 bx1) ∧ W.cell? ⟨w.heap.size + 1, 1, none⟩ = some (.int .i64 by1) ∧ W.cell? ⟨w.heap.size + 1, 2, none⟩ = some (.int .i64 bx2) ∧ W.cell? ⟨w.heap.size + 1, 3, none⟩ = some (.int .i64 by2) ∧ w.heap.size ≤ W.heap.size ∧ Below w.heap.size w W)
    (first | exact Kp.drew8 (by assumption) | exact Kp.keep8 (by assumption) (by assumption))
    (first | (go_at_call 40; refine (low_any _ _ _ _ _).mono ?_; rintro e w1 ⟨rfl, hb1⟩) | (go_at_call 41; refine (high_any _ _ _ _ _).mono ?_; rintro e w1 ⟨rfl, hb1⟩) | (go_at_call 32; refine (in_any _ _ _ _ _ _ _).mono ?_; rintro e w1 ⟨rfl, hb1⟩))
  go_wp2_with fail
  go_ret
  exact ⟨rfl, Kp.end8 (by assumption)⟩

theorem grow_any (ax1 ay1 ax2 ay2 bx1 by1 bx2 by2 : Int) (w : World) (ha : rmayB ax1 ay1 ax2 ay2 = true) (hb : rmayB bx1 by1 bx2 by2 = true) : Calls Tryz.prog 120 #[.agg #[.int .i64 ax1, .int .i64 ay1, .int .i64 ax2, .int .i64 ay2], .agg #[.int .i64 bx1, .int .i64 by1, .int .i64 bx2, .int .i64 by2]] w fun e w' => e = .returned (.int .i64 (areaI (mn ax1 bx1) (mn ay1 by1) (mx ax2 bx2) (mx ay2 by2) - areaI ax1 ay1 ax2 ay2)) ∧ Below w.heap.size w w' := by
  have L := Kp.adq4 (Kp.adq0 ⟨Nat.le_refl _, Below.refl w.heap.size w⟩ w.heap.size rfl (.int .i64 ax1) (.int .i64 ay1) (.int .i64 ax2) (.int .i64 ay2) 26) (w.heap.size + 1) (by simp) (.int .i64 bx1) (.int .i64 by1) (.int .i64 bx2) (.int .i64 by2) 26
  have hj := join_may ha hb
  have b1 := areaI_bd ha
  have b2 := areaI_bd hj
  have t := IntWalk.i64_in (areaI (mn ax1 bx1) (mn ay1 by1) (mx ax2 bx2) (mx ay2 by2) - areaI ax1 ay1 ax2 ay2) (by omega)
  clear b1 b2 hb
  go_enter Tryz.func120, Tryz.ntmps120
  go_wp2_with fail
  go_region_held3 (fun W => W.cell? ⟨w.heap.size, 0, none⟩ = some (.int .i64 ax1) ∧ W.cell? ⟨w.heap.size, 1, none⟩ = some (.int .i64 ay1) ∧ W.cell? ⟨w.heap.size, 2, none⟩ = some (.int .i64 ax2) ∧ W.cell? ⟨w.heap.size, 3, none⟩ = some (.int .i64 ay2) ∧ W.cell? ⟨w.heap.size + 1, 0, none⟩ = some (.int .i64 bx1) ∧ W.cell? ⟨w.heap.size + 1, 1, none⟩ = some (.int .i64 by1) ∧ W.cell? ⟨w.heap.size + 1, 2, none⟩ = some (.int .i64 bx2) ∧ W.cell? ⟨w.heap.size + 1, 3, none⟩ = some (.int .i64 by2) ∧ w.heap.size ≤ W.heap.size ∧ Below w.heap.size w W)
    (first | exact Kp.drew8 (by assumption) | exact Kp.keep8 (by assumption) (by assumption))
    (first | (go_at_call 49; refine (join_any _ _ _ _ _ _ _ _ _).mono ?_; rintro e w1 ⟨rfl, hb1⟩) | (go_at_call 112; refine (area_any _ _ _ _ _ (by assumption)).mono ?_; rintro e w1 ⟨rfl, hb1⟩))
  go_wp2_with fail
  go_ret
  exact ⟨rfl, Kp.end8 (by assumption)⟩

end Go.Proofs.YtobkgamcjfjghaaGreat.Rc
/-
  The contract of the document's answer Join of layer 2 (rect), for coordinates that may be. Memory that was there is left as it was.
-/
namespace Go.Proofs.YtobkgamcjfjghaaGreat.Rc
open Go.RowKit Go.Proofs.YtobkgamcjfjghaaGreat.Pt

set_option maxHeartbeats 1000000 in
theorem refJoin_any (ax1 ay1 ax2 ay2 bx1 by1 bx2 by2 : Int) (w : World) (h1 : inR ax2 = true) (h2 : inR ay2 = true) (h3 : inR bx2 = true) (h4 : inR by2 = true) : Calls Tryz.prog 44 #[.agg #[.int .i64 ax1, .int .i64 ay1, .int .i64 ax2, .int .i64 ay2], .agg #[.int .i64 bx1, .int .i64 by1, .int .i64 bx2, .int .i64 by2]] w fun e w' => e = .returned (.agg #[.int .i64 (mn ax1 bx1), .int .i64 (mn ay1 by1), .int .i64 (mx ax2 bx2), .int .i64 (mx ay2 by2)]) ∧ Below w.heap.size w w' := by
  go_enter Tryz.func44, Tryz.ntmps44
  go_wp2_with fail
  go_region_held3 (fun W => W.cell? ⟨w.heap.size, 0, none⟩ = some (.int .i64 ax1) ∧ W.cell? ⟨w.heap.size, 1, none⟩ = some (.int .i64 ay1) ∧ W.cell? ⟨w.heap.size, 2, none⟩ = some (.int .i64 ax2) ∧ W.cell? ⟨w.heap.size, 3, none⟩ = some (.int .i64 ay2) ∧ W.cell? ⟨w.heap.size + 1, 0, none⟩ = some (.int .i64 bx1) ∧ W.cell? ⟨w.heap.size + 1, 1, none⟩ = some (.int .i64 by1) ∧ W.cell? ⟨w.heap.size + 1, 2, none⟩ = some (.int .i64 bx2) ∧ W.cell? ⟨w.heap.size + 1, 3, none⟩ = some (.int .i64 by2))
    (go_keep)
    (first | (go_at_call 46; refine (less_any _ _ _).mono ?_; rintro e w1 ⟨rfl, rfl⟩) | (go_at_call 45; refine (more_any _ _ _ (by assumption) (by assumption)).mono ?_; rintro e w1 ⟨rfl, rfl⟩))
  go_wp2_with fail
  refine bodyPost_ret (v := .agg #[.int .i64 (mn ax1 bx1), .int .i64 (mn ay1 by1), .int .i64 (mx ax2 bx2), .int .i64 (mx ay2 by2)]) (by simp [results, Tryz.results44, go_sem]) rfl ⟨rfl, ?_⟩
  exact ((((Below.refl _ _).alloc (Nat.le_refl _) _).alloc (by simp) _).alloc (by simp; omega) _).drew

end Go.Proofs.YtobkgamcjfjghaaGreat.Rc
namespace Go.Proofs.YtobkgamcjfjghaaGreat.Rc
open Go.RowKit Go.Proofs.YtobkgamcjfjghaaGreat.Pt

set_option maxHeartbeats 1000000 in
theorem meet_no (ax1 ay1 ax2 ay2 bx1 by1 bx2 by2 : Int) (w : World) (h : ordB (mx ax1 bx1) (mx ay1 by1) (mn ax2 bx2) (mn ay2 by2) = false) : Calls Tryz.prog 34 #[.agg #[.int .i64 ax1, .int .i64 ay1, .int .i64 ax2, .int .i64 ay2], .agg #[.int .i64 bx1, .int .i64 by1, .int .i64 bx2, .int .i64 by2]] w fun e w' => e = .returned (.tuple #[.agg #[.int .i64 0, .int .i64 0, .int .i64 0, .int .i64 0], .bool false]) ∧ Below w.heap.size w w' := by
  have hn := run_mn Tryz.prog
  have hx := run_mx Tryz.prog
  go_enter Tryz.func34, Tryz.ntmps34
  go_wp2_with fail
  refine (inOrder_any _ _ _ _ _).mono ?_
  rintro e w1 ⟨rfl, hb1⟩
  have hz := hb1.size
  simp at hz
  obtain ⟨hc, hf⟩ := bcell hb1
  go_wp2_with fail
  refine bodyPost_ret (v := .tuple #[.agg #[.int .i64 0, .int .i64 0, .int .i64 0, .int .i64 0], .bool false]) (by simp [results, Tryz.results34, go_sem, *]) rfl ⟨rfl, ?_⟩
  have B4 := (((((Below.refl w.heap.size w).alloc (Nat.le_refl _) (.cells #[.int .i64 ax1, .int .i64 ay1, .int .i64 ax2, .int .i64 ay2] 26)).alloc (by simp) (.cells #[.int .i64 bx1, .int .i64 by1, .int .i64 bx2, .int .i64 by2] 26)).alloc (by simp; omega) _).alloc (by simp; omega) _).trans (hb1.mono (by simp; omega))
  exact (((B4.setCell (by simp; omega) _).setCell (by simp; omega) _).setCell (by simp; omega) _).setCell (by simp; omega) _

set_option maxHeartbeats 1000000 in
theorem meet_yes (ax1 ay1 ax2 ay2 bx1 by1 bx2 by2 : Int) (w : World) (h : ordB (mx ax1 bx1) (mx ay1 by1) (mn ax2 bx2) (mn ay2 by2) = true) : Calls Tryz.prog 34 #[.agg #[.int .i64 ax1, .int .i64 ay1, .int .i64 ax2, .int .i64 ay2], .agg #[.int .i64 bx1, .int .i64 by1, .int .i64 bx2, .int .i64 by2]] w fun e w' => e = .returned (.tuple #[.agg #[.int .i64 (mx ax1 bx1), .int .i64 (mx ay1 by1), .int .i64 (mn ax2 bx2), .int .i64 (mn ay2 by2)], .bool true]) ∧ Below w.heap.size w w' := by
  have hn := run_mn Tryz.prog
  have hx := run_mx Tryz.prog
  go_enter Tryz.func34, Tryz.ntmps34
  go_wp2_with fail
  refine (inOrder_any _ _ _ _ _).mono ?_
  rintro e w1 ⟨rfl, hb1⟩
  have hz := hb1.size
  simp at hz
  obtain ⟨hc, hf⟩ := bcell hb1
  go_wp2_with fail
  refine bodyPost_ret (v := .tuple #[.agg #[.int .i64 (mx ax1 bx1), .int .i64 (mx ay1 by1), .int .i64 (mn ax2 bx2), .int .i64 (mn ay2 by2)], .bool true]) (by simp [results, Tryz.results34, go_sem, *]) rfl ⟨rfl, ?_⟩
  have B4 := (((((Below.refl w.heap.size w).alloc (Nat.le_refl _) (.cells #[.int .i64 ax1, .int .i64 ay1, .int .i64 ax2, .int .i64 ay2] 26)).alloc (by simp) (.cells #[.int .i64 bx1, .int .i64 by1, .int .i64 bx2, .int .i64 by2] 26)).alloc (by simp; omega) _).alloc (by simp; omega) _).trans (hb1.mono (by simp; omega))
  exact (((B4.setCell (by simp; omega) _).setCell (by simp; omega) _).setCell (by simp; omega) _).setCell (by simp; omega) _

set_option maxHeartbeats 2000000 in
theorem refMeet_no (ax1 ay1 ax2 ay2 bx1 by1 bx2 by2 : Int) (w : World) (h1 : inR ax1 = true) (h2 : inR ay1 = true) (h3 : inR bx1 = true) (h4 : inR by1 = true) (h : ordB (mx ax1 bx1) (mx ay1 by1) (mn ax2 bx2) (mn ay2 by2) = false) : Calls Tryz.prog 29 #[.agg #[.int .i64 ax1, .int .i64 ay1, .int .i64 ax2, .int .i64 ay2], .agg #[.int .i64 bx1, .int .i64 by1, .int .i64 bx2, .int .i64 by2]] w fun e w' => e = .returned (.tuple #[.agg #[.int .i64 0, .int .i64 0, .int .i64 0, .int .i64 0], .bool false]) ∧ Below w.heap.size w w' := by
  have hh : mn ax2 bx2 < mx ax1 bx1 ∨ (mx ax1 bx1 ≤ mn ax2 bx2 ∧ mn ay2 by2 < mx ay1 by1) := by
    rw [← Bool.not_eq_true, ordB_iff] at h; omega
  clear h
  rcases hh with h | ⟨_, _⟩
  · go_enter Tryz.func29, Tryz.ntmps29
    go_wp2_with fail
    go_region_held3 (fun W => W.cell? ⟨w.heap.size, 0, none⟩ = some (.int .i64 ax1) ∧ W.cell? ⟨w.heap.size, 1, none⟩ = some (.int .i64 ay1) ∧ W.cell? ⟨w.heap.size, 2, none⟩ = some (.int .i64 ax2) ∧ W.cell? ⟨w.heap.size, 3, none⟩ = some (.int .i64 ay2) ∧ W.cell? ⟨w.heap.size + 1, 0, none⟩ = some (.int .i64 bx1) ∧ W.cell? ⟨w.heap.size + 1, 1, none⟩ = some (.int .i64 by1) ∧ W.cell? ⟨w.heap.size + 1, 2, none⟩ = some (.int .i64 bx2) ∧ W.cell? ⟨w.heap.size + 1, 3, none⟩ = some (.int .i64 by2))
      (go_keep)
      (first | (go_at_call 46; refine (less_any _ _ _).mono ?_; rintro e w1 ⟨rfl, rfl⟩) | (go_at_call 45; refine (more_any _ _ _ (by assumption) (by assumption)).mono ?_; rintro e w1 ⟨rfl, rfl⟩))
    all_goals go_wp2_with fail
    all_goals refine bodyPost_ret (v := .tuple #[.agg #[.int .i64 0, .int .i64 0, .int .i64 0, .int .i64 0], .bool false]) (by simp [results, Tryz.results29, go_sem]) rfl ⟨rfl, ?_⟩
    all_goals exact (((((Below.refl _ _).alloc (Nat.le_refl _) _).alloc (by simp) _).alloc (by simp; omega) _).alloc (by simp; omega) _).drew
  · go_enter Tryz.func29, Tryz.ntmps29
    go_wp2_with fail
    go_region_held3 (fun W => W.cell? ⟨w.heap.size, 0, none⟩ = some (.int .i64 ax1) ∧ W.cell? ⟨w.heap.size, 1, none⟩ = some (.int .i64 ay1) ∧ W.cell? ⟨w.heap.size, 2, none⟩ = some (.int .i64 ax2) ∧ W.cell? ⟨w.heap.size, 3, none⟩ = some (.int .i64 ay2) ∧ W.cell? ⟨w.heap.size + 1, 0, none⟩ = some (.int .i64 bx1) ∧ W.cell? ⟨w.heap.size + 1, 1, none⟩ = some (.int .i64 by1) ∧ W.cell? ⟨w.heap.size + 1, 2, none⟩ = some (.int .i64 bx2) ∧ W.cell? ⟨w.heap.size + 1, 3, none⟩ = some (.int .i64 by2))
      (go_keep)
      (first | (go_at_call 46; refine (less_any _ _ _).mono ?_; rintro e w1 ⟨rfl, rfl⟩) | (go_at_call 45; refine (more_any _ _ _ (by assumption) (by assumption)).mono ?_; rintro e w1 ⟨rfl, rfl⟩))
    all_goals go_wp2_with fail
    all_goals refine bodyPost_ret (v := .tuple #[.agg #[.int .i64 0, .int .i64 0, .int .i64 0, .int .i64 0], .bool false]) (by simp [results, Tryz.results29, go_sem]) rfl ⟨rfl, ?_⟩
    all_goals exact (((((Below.refl _ _).alloc (Nat.le_refl _) _).alloc (by simp) _).alloc (by simp; omega) _).alloc (by simp; omega) _).drew

set_option maxHeartbeats 2000000 in
theorem refMeet_yes (ax1 ay1 ax2 ay2 bx1 by1 bx2 by2 : Int) (w : World) (h1 : inR ax1 = true) (h2 : inR ay1 = true) (h3 : inR bx1 = true) (h4 : inR by1 = true) (h : ordB (mx ax1 bx1) (mx ay1 by1) (mn ax2 bx2) (mn ay2 by2) = true) : Calls Tryz.prog 29 #[.agg #[.int .i64 ax1, .int .i64 ay1, .int .i64 ax2, .int .i64 ay2], .agg #[.int .i64 bx1, .int .i64 by1, .int .i64 bx2, .int .i64 by2]] w fun e w' => e = .returned (.tuple #[.agg #[.int .i64 (mx ax1 bx1), .int .i64 (mx ay1 by1), .int .i64 (mn ax2 bx2), .int .i64 (mn ay2 by2)], .bool true]) ∧ Below w.heap.size w w' := by
  rw [ordB_iff] at h
  obtain ⟨_, _⟩ := h
  go_enter Tryz.func29, Tryz.ntmps29
  go_wp2_with fail
  go_region_held3 (fun W => W.cell? ⟨w.heap.size, 0, none⟩ = some (.int .i64 ax1) ∧ W.cell? ⟨w.heap.size, 1, none⟩ = some (.int .i64 ay1) ∧ W.cell? ⟨w.heap.size, 2, none⟩ = some (.int .i64 ax2) ∧ W.cell? ⟨w.heap.size, 3, none⟩ = some (.int .i64 ay2) ∧ W.cell? ⟨w.heap.size + 1, 0, none⟩ = some (.int .i64 bx1) ∧ W.cell? ⟨w.heap.size + 1, 1, none⟩ = some (.int .i64 by1) ∧ W.cell? ⟨w.heap.size + 1, 2, none⟩ = some (.int .i64 bx2) ∧ W.cell? ⟨w.heap.size + 1, 3, none⟩ = some (.int .i64 by2))
    (go_keep)
    (first | (go_at_call 46; refine (less_any _ _ _).mono ?_; rintro e w1 ⟨rfl, rfl⟩) | (go_at_call 45; refine (more_any _ _ _ (by assumption) (by assumption)).mono ?_; rintro e w1 ⟨rfl, rfl⟩))
  all_goals go_wp2_with fail
  all_goals refine bodyPost_ret (v := .tuple #[.agg #[.int .i64 (mx ax1 bx1), .int .i64 (mx ay1 by1), .int .i64 (mn ax2 bx2), .int .i64 (mn ay2 by2)], .bool true]) (by simp [results, Tryz.results29, go_sem]) rfl ⟨rfl, ?_⟩
  all_goals exact (((((Below.refl _ _).alloc (Nat.le_refl _) _).alloc (by simp) _).alloc (by simp; omega) _).alloc (by simp; omega) _).drew

end Go.Proofs.YtobkgamcjfjghaaGreat.Rc
