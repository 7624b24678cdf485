/-
  The plain arithmetic behind layer 4 (morton): a cell's number out of its column's and row's bits, and back; a coordinate's column. No program here.
-/
import Derived.Test.YthakngphffoooaaMt02
import Derived.Maps.AppendAt
import Derived.OwnWalk
import Derived.Test.YthakngphffoooaaMt01
/-
  Cells that are known stay known behind whatever only makes memory: longer lists than in Keep, and new blocks of four cells. No program here.
-/
namespace Go.Proofs.Ythakngphffoooaa.Kp
open Go.RowKit

variable {w W w1 : World} {N : Nat} {a0 a1 a2 a3 a4 a5 a6 a7 a8 a9 a10 a11 a12 a13 a14 a15 a16 a17 a18 a19 a20 a21 a22 a23 a24 a25 : Addr} {v0 v1 v2 v3 v4 v5 v6 v7 v8 v9 v10 v11 v12 v13 v14 v15 v16 v17 v18 v19 v20 v21 v22 v23 v24 v25 : Value}

theorem keep16 (hb : Below W.heap.size W w1) (h : W.cell? a0 = some v0 ∧ W.cell? a1 = some v1 ∧ W.cell? a2 = some v2 ∧ W.cell? a3 = some v3 ∧ W.cell? a4 = some v4 ∧ W.cell? a5 = some v5 ∧ W.cell? a6 = some v6 ∧ W.cell? a7 = some v7 ∧ W.cell? a8 = some v8 ∧ W.cell? a9 = some v9 ∧ W.cell? a10 = some v10 ∧ W.cell? a11 = some v11 ∧ W.cell? a12 = some v12 ∧ W.cell? a13 = some v13 ∧ W.cell? a14 = some v14 ∧ W.cell? a15 = some v15 ∧ N ≤ W.heap.size ∧ Below N w W) :
    w1.cell? a0 = some v0 ∧ w1.cell? a1 = some v1 ∧ w1.cell? a2 = some v2 ∧ w1.cell? a3 = some v3 ∧ w1.cell? a4 = some v4 ∧ w1.cell? a5 = some v5 ∧ w1.cell? a6 = some v6 ∧ w1.cell? a7 = some v7 ∧ w1.cell? a8 = some v8 ∧ w1.cell? a9 = some v9 ∧ w1.cell? a10 = some v10 ∧ w1.cell? a11 = some v11 ∧ w1.cell? a12 = some v12 ∧ w1.cell? a13 = some v13 ∧ w1.cell? a14 = some v14 ∧ w1.cell? a15 = some v15 ∧ N ≤ w1.heap.size ∧ Below N w w1 := two hb (two hb (two hb (two hb (two hb (two hb (two hb (two hb (ends hb)))))))) h
theorem drew16 (h : W.cell? a0 = some v0 ∧ W.cell? a1 = some v1 ∧ W.cell? a2 = some v2 ∧ W.cell? a3 = some v3 ∧ W.cell? a4 = some v4 ∧ W.cell? a5 = some v5 ∧ W.cell? a6 = some v6 ∧ W.cell? a7 = some v7 ∧ W.cell? a8 = some v8 ∧ W.cell? a9 = some v9 ∧ W.cell? a10 = some v10 ∧ W.cell? a11 = some v11 ∧ W.cell? a12 = some v12 ∧ W.cell? a13 = some v13 ∧ W.cell? a14 = some v14 ∧ W.cell? a15 = some v15 ∧ N ≤ W.heap.size ∧ Below N w W) :
    W.drew.cell? a0 = some v0 ∧ W.drew.cell? a1 = some v1 ∧ W.drew.cell? a2 = some v2 ∧ W.drew.cell? a3 = some v3 ∧ W.drew.cell? a4 = some v4 ∧ W.drew.cell? a5 = some v5 ∧ W.drew.cell? a6 = some v6 ∧ W.drew.cell? a7 = some v7 ∧ W.drew.cell? a8 = some v8 ∧ W.drew.cell? a9 = some v9 ∧ W.drew.cell? a10 = some v10 ∧ W.drew.cell? a11 = some v11 ∧ W.drew.cell? a12 = some v12 ∧ W.drew.cell? a13 = some v13 ∧ W.drew.cell? a14 = some v14 ∧ W.drew.cell? a15 = some v15 ∧ N ≤ W.drew.heap.size ∧ Below N w W.drew := drewTwo (drewTwo (drewTwo (drewTwo (drewTwo (drewTwo (drewTwo (drewTwo (drewEnds)))))))) h
theorem end16 {p0 p1 p2 p3 p4 p5 p6 p7 p8 p9 p10 p11 p12 p13 p14 p15 p16 : Prop} (h : p0 ∧ p1 ∧ p2 ∧ p3 ∧ p4 ∧ p5 ∧ p6 ∧ p7 ∧ p8 ∧ p9 ∧ p10 ∧ p11 ∧ p12 ∧ p13 ∧ p14 ∧ p15 ∧ p16 ∧ Below N w W) : Below N w W := h.2.2.2.2.2.2.2.2.2.2.2.2.2.2.2.2.2
theorem keep18 (hb : Below W.heap.size W w1) (h : W.cell? a0 = some v0 ∧ W.cell? a1 = some v1 ∧ W.cell? a2 = some v2 ∧ W.cell? a3 = some v3 ∧ W.cell? a4 = some v4 ∧ W.cell? a5 = some v5 ∧ W.cell? a6 = some v6 ∧ W.cell? a7 = some v7 ∧ W.cell? a8 = some v8 ∧ W.cell? a9 = some v9 ∧ W.cell? a10 = some v10 ∧ W.cell? a11 = some v11 ∧ W.cell? a12 = some v12 ∧ W.cell? a13 = some v13 ∧ W.cell? a14 = some v14 ∧ W.cell? a15 = some v15 ∧ W.cell? a16 = some v16 ∧ W.cell? a17 = some v17 ∧ N ≤ W.heap.size ∧ Below N w W) :
    w1.cell? a0 = some v0 ∧ w1.cell? a1 = some v1 ∧ w1.cell? a2 = some v2 ∧ w1.cell? a3 = some v3 ∧ w1.cell? a4 = some v4 ∧ w1.cell? a5 = some v5 ∧ w1.cell? a6 = some v6 ∧ w1.cell? a7 = some v7 ∧ w1.cell? a8 = some v8 ∧ w1.cell? a9 = some v9 ∧ w1.cell? a10 = some v10 ∧ w1.cell? a11 = some v11 ∧ w1.cell? a12 = some v12 ∧ w1.cell? a13 = some v13 ∧ w1.cell? a14 = some v14 ∧ w1.cell? a15 = some v15 ∧ w1.cell? a16 = some v16 ∧ w1.cell? a17 = some v17 ∧ N ≤ w1.heap.size ∧ Below N w w1 := two hb (two hb (two hb (two hb (two hb (two hb (two hb (two hb (two hb (ends hb))))))))) h
theorem drew18 (h : W.cell? a0 = some v0 ∧ W.cell? a1 = some v1 ∧ W.cell? a2 = some v2 ∧ W.cell? a3 = some v3 ∧ W.cell? a4 = some v4 ∧ W.cell? a5 = some v5 ∧ W.cell? a6 = some v6 ∧ W.cell? a7 = some v7 ∧ W.cell? a8 = some v8 ∧ W.cell? a9 = some v9 ∧ W.cell? a10 = some v10 ∧ W.cell? a11 = some v11 ∧ W.cell? a12 = some v12 ∧ W.cell? a13 = some v13 ∧ W.cell? a14 = some v14 ∧ W.cell? a15 = some v15 ∧ W.cell? a16 = some v16 ∧ W.cell? a17 = some v17 ∧ N ≤ W.heap.size ∧ Below N w W) :
    W.drew.cell? a0 = some v0 ∧ W.drew.cell? a1 = some v1 ∧ W.drew.cell? a2 = some v2 ∧ W.drew.cell? a3 = some v3 ∧ W.drew.cell? a4 = some v4 ∧ W.drew.cell? a5 = some v5 ∧ W.drew.cell? a6 = some v6 ∧ W.drew.cell? a7 = some v7 ∧ W.drew.cell? a8 = some v8 ∧ W.drew.cell? a9 = some v9 ∧ W.drew.cell? a10 = some v10 ∧ W.drew.cell? a11 = some v11 ∧ W.drew.cell? a12 = some v12 ∧ W.drew.cell? a13 = some v13 ∧ W.drew.cell? a14 = some v14 ∧ W.drew.cell? a15 = some v15 ∧ W.drew.cell? a16 = some v16 ∧ W.drew.cell? a17 = some v17 ∧ N ≤ W.drew.heap.size ∧ Below N w W.drew := drewTwo (drewTwo (drewTwo (drewTwo (drewTwo (drewTwo (drewTwo (drewTwo (drewTwo (drewEnds))))))))) h
theorem end18 {p0 p1 p2 p3 p4 p5 p6 p7 p8 p9 p10 p11 p12 p13 p14 p15 p16 p17 p18 : Prop} (h : p0 ∧ p1 ∧ p2 ∧ p3 ∧ p4 ∧ p5 ∧ p6 ∧ p7 ∧ p8 ∧ p9 ∧ p10 ∧ p11 ∧ p12 ∧ p13 ∧ p14 ∧ p15 ∧ p16 ∧ p17 ∧ p18 ∧ Below N w W) : Below N w W := h.2.2.2.2.2.2.2.2.2.2.2.2.2.2.2.2.2.2.2
theorem keep20 (hb : Below W.heap.size W w1) (h : W.cell? a0 = some v0 ∧ W.cell? a1 = some v1 ∧ W.cell? a2 = some v2 ∧ W.cell? a3 = some v3 ∧ W.cell? a4 = some v4 ∧ W.cell? a5 = some v5 ∧ W.cell? a6 = some v6 ∧ W.cell? a7 = some v7 ∧ W.cell? a8 = some v8 ∧ W.cell? a9 = some v9 ∧ W.cell? a10 = some v10 ∧ W.cell? a11 = some v11 ∧ W.cell? a12 = some v12 ∧ W.cell? a13 = some v13 ∧ W.cell? a14 = some v14 ∧ W.cell? a15 = some v15 ∧ W.cell? a16 = some v16 ∧ W.cell? a17 = some v17 ∧ W.cell? a18 = some v18 ∧ W.cell? a19 = some v19 ∧ N ≤ W.heap.size ∧ Below N w W) :
    w1.cell? a0 = some v0 ∧ w1.cell? a1 = some v1 ∧ w1.cell? a2 = some v2 ∧ w1.cell? a3 = some v3 ∧ w1.cell? a4 = some v4 ∧ w1.cell? a5 = some v5 ∧ w1.cell? a6 = some v6 ∧ w1.cell? a7 = some v7 ∧ w1.cell? a8 = some v8 ∧ w1.cell? a9 = some v9 ∧ w1.cell? a10 = some v10 ∧ w1.cell? a11 = some v11 ∧ w1.cell? a12 = some v12 ∧ w1.cell? a13 = some v13 ∧ w1.cell? a14 = some v14 ∧ w1.cell? a15 = some v15 ∧ w1.cell? a16 = some v16 ∧ w1.cell? a17 = some v17 ∧ w1.cell? a18 = some v18 ∧ w1.cell? a19 = some v19 ∧ N ≤ w1.heap.size ∧ Below N w w1 := two hb (two hb (two hb (two hb (two hb (two hb (two hb (two hb (two hb (two hb (ends hb)))))))))) h
theorem drew20 (h : W.cell? a0 = some v0 ∧ W.cell? a1 = some v1 ∧ W.cell? a2 = some v2 ∧ W.cell? a3 = some v3 ∧ W.cell? a4 = some v4 ∧ W.cell? a5 = some v5 ∧ W.cell? a6 = some v6 ∧ W.cell? a7 = some v7 ∧ W.cell? a8 = some v8 ∧ W.cell? a9 = some v9 ∧ W.cell? a10 = some v10 ∧ W.cell? a11 = some v11 ∧ W.cell? a12 = some v12 ∧ W.cell? a13 = some v13 ∧ W.cell? a14 = some v14 ∧ W.cell? a15 = some v15 ∧ W.cell? a16 = some v16 ∧ W.cell? a17 = some v17 ∧ W.cell? a18 = some v18 ∧ W.cell? a19 = some v19 ∧ N ≤ W.heap.size ∧ Below N w W) :
    W.drew.cell? a0 = some v0 ∧ W.drew.cell? a1 = some v1 ∧ W.drew.cell? a2 = some v2 ∧ W.drew.cell? a3 = some v3 ∧ W.drew.cell? a4 = some v4 ∧ W.drew.cell? a5 = some v5 ∧ W.drew.cell? a6 = some v6 ∧ W.drew.cell? a7 = some v7 ∧ W.drew.cell? a8 = some v8 ∧ W.drew.cell? a9 = some v9 ∧ W.drew.cell? a10 = some v10 ∧ W.drew.cell? a11 = some v11 ∧ W.drew.cell? a12 = some v12 ∧ W.drew.cell? a13 = some v13 ∧ W.drew.cell? a14 = some v14 ∧ W.drew.cell? a15 = some v15 ∧ W.drew.cell? a16 = some v16 ∧ W.drew.cell? a17 = some v17 ∧ W.drew.cell? a18 = some v18 ∧ W.drew.cell? a19 = some v19 ∧ N ≤ W.drew.heap.size ∧ Below N w W.drew := drewTwo (drewTwo (drewTwo (drewTwo (drewTwo (drewTwo (drewTwo (drewTwo (drewTwo (drewTwo (drewEnds)))))))))) h
theorem end20 {p0 p1 p2 p3 p4 p5 p6 p7 p8 p9 p10 p11 p12 p13 p14 p15 p16 p17 p18 p19 p20 : Prop} (h : p0 ∧ p1 ∧ p2 ∧ p3 ∧ p4 ∧ p5 ∧ p6 ∧ p7 ∧ p8 ∧ p9 ∧ p10 ∧ p11 ∧ p12 ∧ p13 ∧ p14 ∧ p15 ∧ p16 ∧ p17 ∧ p18 ∧ p19 ∧ p20 ∧ Below N w W) : Below N w W := h.2.2.2.2.2.2.2.2.2.2.2.2.2.2.2.2.2.2.2.2.2
theorem keep22 (hb : Below W.heap.size W w1) (h : W.cell? a0 = some v0 ∧ W.cell? a1 = some v1 ∧ W.cell? a2 = some v2 ∧ W.cell? a3 = some v3 ∧ W.cell? a4 = some v4 ∧ W.cell? a5 = some v5 ∧ W.cell? a6 = some v6 ∧ W.cell? a7 = some v7 ∧ W.cell? a8 = some v8 ∧ W.cell? a9 = some v9 ∧ W.cell? a10 = some v10 ∧ W.cell? a11 = some v11 ∧ W.cell? a12 = some v12 ∧ W.cell? a13 = some v13 ∧ W.cell? a14 = some v14 ∧ W.cell? a15 = some v15 ∧ W.cell? a16 = some v16 ∧ W.cell? a17 = some v17 ∧ W.cell? a18 = some v18 ∧ W.cell? a19 = some v19 ∧ W.cell? a20 = some v20 ∧ W.cell? a21 = some v21 ∧ N ≤ W.heap.size ∧ Below N w W) :
    w1.cell? a0 = some v0 ∧ w1.cell? a1 = some v1 ∧ w1.cell? a2 = some v2 ∧ w1.cell? a3 = some v3 ∧ w1.cell? a4 = some v4 ∧ w1.cell? a5 = some v5 ∧ w1.cell? a6 = some v6 ∧ w1.cell? a7 = some v7 ∧ w1.cell? a8 = some v8 ∧ w1.cell? a9 = some v9 ∧ w1.cell? a10 = some v10 ∧ w1.cell? a11 = some v11 ∧ w1.cell? a12 = some v12 ∧ w1.cell? a13 = some v13 ∧ w1.cell? a14 = some v14 ∧ w1.cell? a15 = some v15 ∧ w1.cell? a16 = some v16 ∧ w1.cell? a17 = some v17 ∧ w1.cell? a18 = some v18 ∧ w1.cell? a19 = some v19 ∧ w1.cell? a20 = some v20 ∧ w1.cell? a21 = some v21 ∧ N ≤ w1.heap.size ∧ Below N w w1 := two hb (two hb (two hb (two hb (two hb (two hb (two hb (two hb (two hb (two hb (two hb (ends hb))))))))))) h
theorem drew22 (h : W.cell? a0 = some v0 ∧ W.cell? a1 = some v1 ∧ W.cell? a2 = some v2 ∧ W.cell? a3 = some v3 ∧ W.cell? a4 = some v4 ∧ W.cell? a5 = some v5 ∧ W.cell? a6 = some v6 ∧ W.cell? a7 = some v7 ∧ W.cell? a8 = some v8 ∧ W.cell? a9 = some v9 ∧ W.cell? a10 = some v10 ∧ W.cell? a11 = some v11 ∧ W.cell? a12 = some v12 ∧ W.cell? a13 = some v13 ∧ W.cell? a14 = some v14 ∧ W.cell? a15 = some v15 ∧ W.cell? a16 = some v16 ∧ W.cell? a17 = some v17 ∧ W.cell? a18 = some v18 ∧ W.cell? a19 = some v19 ∧ W.cell? a20 = some v20 ∧ W.cell? a21 = some v21 ∧ N ≤ W.heap.size ∧ Below N w W) :
    W.drew.cell? a0 = some v0 ∧ W.drew.cell? a1 = some v1 ∧ W.drew.cell? a2 = some v2 ∧ W.drew.cell? a3 = some v3 ∧ W.drew.cell? a4 = some v4 ∧ W.drew.cell? a5 = some v5 ∧ W.drew.cell? a6 = some v6 ∧ W.drew.cell? a7 = some v7 ∧ W.drew.cell? a8 = some v8 ∧ W.drew.cell? a9 = some v9 ∧ W.drew.cell? a10 = some v10 ∧ W.drew.cell? a11 = some v11 ∧ W.drew.cell? a12 = some v12 ∧ W.drew.cell? a13 = some v13 ∧ W.drew.cell? a14 = some v14 ∧ W.drew.cell? a15 = some v15 ∧ W.drew.cell? a16 = some v16 ∧ W.drew.cell? a17 = some v17 ∧ W.drew.cell? a18 = some v18 ∧ W.drew.cell? a19 = some v19 ∧ W.drew.cell? a20 = some v20 ∧ W.drew.cell? a21 = some v21 ∧ N ≤ W.drew.heap.size ∧ Below N w W.drew := drewTwo (drewTwo (drewTwo (drewTwo (drewTwo (drewTwo (drewTwo (drewTwo (drewTwo (drewTwo (drewTwo (drewEnds))))))))))) h
theorem end22 {p0 p1 p2 p3 p4 p5 p6 p7 p8 p9 p10 p11 p12 p13 p14 p15 p16 p17 p18 p19 p20 p21 p22 : Prop} (h : p0 ∧ p1 ∧ p2 ∧ p3 ∧ p4 ∧ p5 ∧ p6 ∧ p7 ∧ p8 ∧ p9 ∧ p10 ∧ p11 ∧ p12 ∧ p13 ∧ p14 ∧ p15 ∧ p16 ∧ p17 ∧ p18 ∧ p19 ∧ p20 ∧ p21 ∧ p22 ∧ Below N w W) : Below N w W := h.2.2.2.2.2.2.2.2.2.2.2.2.2.2.2.2.2.2.2.2.2.2.2
theorem keep24 (hb : Below W.heap.size W w1) (h : W.cell? a0 = some v0 ∧ W.cell? a1 = some v1 ∧ W.cell? a2 = some v2 ∧ W.cell? a3 = some v3 ∧ W.cell? a4 = some v4 ∧ W.cell? a5 = some v5 ∧ W.cell? a6 = some v6 ∧ W.cell? a7 = some v7 ∧ W.cell? a8 = some v8 ∧ W.cell? a9 = some v9 ∧ W.cell? a10 = some v10 ∧ W.cell? a11 = some v11 ∧ W.cell? a12 = some v12 ∧ W.cell? a13 = some v13 ∧ W.cell? a14 = some v14 ∧ W.cell? a15 = some v15 ∧ W.cell? a16 = some v16 ∧ W.cell? a17 = some v17 ∧ W.cell? a18 = some v18 ∧ W.cell? a19 = some v19 ∧ W.cell? a20 = some v20 ∧ W.cell? a21 = some v21 ∧ W.cell? a22 = some v22 ∧ W.cell? a23 = some v23 ∧ N ≤ W.heap.size ∧ Below N w W) :
    w1.cell? a0 = some v0 ∧ w1.cell? a1 = some v1 ∧ w1.cell? a2 = some v2 ∧ w1.cell? a3 = some v3 ∧ w1.cell? a4 = some v4 ∧ w1.cell? a5 = some v5 ∧ w1.cell? a6 = some v6 ∧ w1.cell? a7 = some v7 ∧ w1.cell? a8 = some v8 ∧ w1.cell? a9 = some v9 ∧ w1.cell? a10 = some v10 ∧ w1.cell? a11 = some v11 ∧ w1.cell? a12 = some v12 ∧ w1.cell? a13 = some v13 ∧ w1.cell? a14 = some v14 ∧ w1.cell? a15 = some v15 ∧ w1.cell? a16 = some v16 ∧ w1.cell? a17 = some v17 ∧ w1.cell? a18 = some v18 ∧ w1.cell? a19 = some v19 ∧ w1.cell? a20 = some v20 ∧ w1.cell? a21 = some v21 ∧ w1.cell? a22 = some v22 ∧ w1.cell? a23 = some v23 ∧ N ≤ w1.heap.size ∧ Below N w w1 := two hb (two hb (two hb (two hb (two hb (two hb (two hb (two hb (two hb (two hb (two hb (two hb (ends hb)))))))))))) h
theorem drew24 (h : W.cell? a0 = some v0 ∧ W.cell? a1 = some v1 ∧ W.cell? a2 = some v2 ∧ W.cell? a3 = some v3 ∧ W.cell? a4 = some v4 ∧ W.cell? a5 = some v5 ∧ W.cell? a6 = some v6 ∧ W.cell? a7 = some v7 ∧ W.cell? a8 = some v8 ∧ W.cell? a9 = some v9 ∧ W.cell? a10 = some v10 ∧ W.cell? a11 = some v11 ∧ W.cell? a12 = some v12 ∧ W.cell? a13 = some v13 ∧ W.cell? a14 = some v14 ∧ W.cell? a15 = some v15 ∧ W.cell? a16 = some v16 ∧ W.cell? a17 = some v17 ∧ W.cell? a18 = some v18 ∧ W.cell? a19 = some v19 ∧ W.cell? a20 = some v20 ∧ W.cell? a21 = some v21 ∧ W.cell? a22 = some v22 ∧ W.cell? a23 = some v23 ∧ N ≤ W.heap.size ∧ Below N w W) :
    W.drew.cell? a0 = some v0 ∧ W.drew.cell? a1 = some v1 ∧ W.drew.cell? a2 = some v2 ∧ W.drew.cell? a3 = some v3 ∧ W.drew.cell? a4 = some v4 ∧ W.drew.cell? a5 = some v5 ∧ W.drew.cell? a6 = some v6 ∧ W.drew.cell? a7 = some v7 ∧ W.drew.cell? a8 = some v8 ∧ W.drew.cell? a9 = some v9 ∧ W.drew.cell? a10 = some v10 ∧ W.drew.cell? a11 = some v11 ∧ W.drew.cell? a12 = some v12 ∧ W.drew.cell? a13 = some v13 ∧ W.drew.cell? a14 = some v14 ∧ W.drew.cell? a15 = some v15 ∧ W.drew.cell? a16 = some v16 ∧ W.drew.cell? a17 = some v17 ∧ W.drew.cell? a18 = some v18 ∧ W.drew.cell? a19 = some v19 ∧ W.drew.cell? a20 = some v20 ∧ W.drew.cell? a21 = some v21 ∧ W.drew.cell? a22 = some v22 ∧ W.drew.cell? a23 = some v23 ∧ N ≤ W.drew.heap.size ∧ Below N w W.drew := drewTwo (drewTwo (drewTwo (drewTwo (drewTwo (drewTwo (drewTwo (drewTwo (drewTwo (drewTwo (drewTwo (drewTwo (drewEnds)))))))))))) h
theorem end24 {p0 p1 p2 p3 p4 p5 p6 p7 p8 p9 p10 p11 p12 p13 p14 p15 p16 p17 p18 p19 p20 p21 p22 p23 p24 : Prop} (h : p0 ∧ p1 ∧ p2 ∧ p3 ∧ p4 ∧ p5 ∧ p6 ∧ p7 ∧ p8 ∧ p9 ∧ p10 ∧ p11 ∧ p12 ∧ p13 ∧ p14 ∧ p15 ∧ p16 ∧ p17 ∧ p18 ∧ p19 ∧ p20 ∧ p21 ∧ p22 ∧ p23 ∧ p24 ∧ Below N w W) : Below N w W := h.2.2.2.2.2.2.2.2.2.2.2.2.2.2.2.2.2.2.2.2.2.2.2.2.2

/-- A new block of four cells; its number is b. -/
theorem adq0 (h : N ≤ W.heap.size ∧ Below N w W) (b : Nat) (e : W.heap.size = b) (x y z u : Value) (t : TypeId) :
    (W.alloc (.cells #[x, y, z, u] t)).cell? ⟨b, 0, none⟩ = some x ∧ (W.alloc (.cells #[x, y, z, u] t)).cell? ⟨b, 1, none⟩ = some y ∧ (W.alloc (.cells #[x, y, z, u] t)).cell? ⟨b, 2, none⟩ = some z ∧ (W.alloc (.cells #[x, y, z, u] t)).cell? ⟨b, 3, none⟩ = some u ∧ N ≤ (W.alloc (.cells #[x, y, z, u] t)).heap.size ∧ Below N w (W.alloc (.cells #[x, y, z, u] t)) := by
  subst e
  exact ⟨by simp [go_sem], by simp [go_sem], by simp [go_sem], by simp [go_sem], ends (behind ..) h⟩
theorem adq2 (h : W.cell? a0 = some v0 ∧ W.cell? a1 = some v1 ∧ N ≤ W.heap.size ∧ Below N w W) (b : Nat) (e : W.heap.size = b) (x y z u : Value) (t : TypeId) :
    (W.alloc (.cells #[x, y, z, u] t)).cell? a0 = some v0 ∧ (W.alloc (.cells #[x, y, z, u] t)).cell? a1 = some v1 ∧ (W.alloc (.cells #[x, y, z, u] t)).cell? ⟨b, 0, none⟩ = some x ∧ (W.alloc (.cells #[x, y, z, u] t)).cell? ⟨b, 1, none⟩ = some y ∧ (W.alloc (.cells #[x, y, z, u] t)).cell? ⟨b, 2, none⟩ = some z ∧ (W.alloc (.cells #[x, y, z, u] t)).cell? ⟨b, 3, none⟩ = some u ∧ N ≤ (W.alloc (.cells #[x, y, z, u] t)).heap.size ∧ Below N w (W.alloc (.cells #[x, y, z, u] t)) := two (behind ..) (fun h => adq0 h b e x y z u t) h
theorem adq4 (h : W.cell? a0 = some v0 ∧ W.cell? a1 = some v1 ∧ W.cell? a2 = some v2 ∧ W.cell? a3 = some v3 ∧ N ≤ W.heap.size ∧ Below N w W) (b : Nat) (e : W.heap.size = b) (x y z u : Value) (t : TypeId) :
    (W.alloc (.cells #[x, y, z, u] t)).cell? a0 = some v0 ∧ (W.alloc (.cells #[x, y, z, u] t)).cell? a1 = some v1 ∧ (W.alloc (.cells #[x, y, z, u] t)).cell? a2 = some v2 ∧ (W.alloc (.cells #[x, y, z, u] t)).cell? a3 = some v3 ∧ (W.alloc (.cells #[x, y, z, u] t)).cell? ⟨b, 0, none⟩ = some x ∧ (W.alloc (.cells #[x, y, z, u] t)).cell? ⟨b, 1, none⟩ = some y ∧ (W.alloc (.cells #[x, y, z, u] t)).cell? ⟨b, 2, none⟩ = some z ∧ (W.alloc (.cells #[x, y, z, u] t)).cell? ⟨b, 3, none⟩ = some u ∧ N ≤ (W.alloc (.cells #[x, y, z, u] t)).heap.size ∧ Below N w (W.alloc (.cells #[x, y, z, u] t)) := two (behind ..) (two (behind ..) (fun h => adq0 h b e x y z u t)) h
theorem adq6 (h : W.cell? a0 = some v0 ∧ W.cell? a1 = some v1 ∧ W.cell? a2 = some v2 ∧ W.cell? a3 = some v3 ∧ W.cell? a4 = some v4 ∧ W.cell? a5 = some v5 ∧ N ≤ W.heap.size ∧ Below N w W) (b : Nat) (e : W.heap.size = b) (x y z u : Value) (t : TypeId) :
    (W.alloc (.cells #[x, y, z, u] t)).cell? a0 = some v0 ∧ (W.alloc (.cells #[x, y, z, u] t)).cell? a1 = some v1 ∧ (W.alloc (.cells #[x, y, z, u] t)).cell? a2 = some v2 ∧ (W.alloc (.cells #[x, y, z, u] t)).cell? a3 = some v3 ∧ (W.alloc (.cells #[x, y, z, u] t)).cell? a4 = some v4 ∧ (W.alloc (.cells #[x, y, z, u] t)).cell? a5 = some v5 ∧ (W.alloc (.cells #[x, y, z, u] t)).cell? ⟨b, 0, none⟩ = some x ∧ (W.alloc (.cells #[x, y, z, u] t)).cell? ⟨b, 1, none⟩ = some y ∧ (W.alloc (.cells #[x, y, z, u] t)).cell? ⟨b, 2, none⟩ = some z ∧ (W.alloc (.cells #[x, y, z, u] t)).cell? ⟨b, 3, none⟩ = some u ∧ N ≤ (W.alloc (.cells #[x, y, z, u] t)).heap.size ∧ Below N w (W.alloc (.cells #[x, y, z, u] t)) := two (behind ..) (two (behind ..) (two (behind ..) (fun h => adq0 h b e x y z u t))) h
theorem adq8 (h : W.cell? a0 = some v0 ∧ W.cell? a1 = some v1 ∧ W.cell? a2 = some v2 ∧ W.cell? a3 = some v3 ∧ W.cell? a4 = some v4 ∧ W.cell? a5 = some v5 ∧ W.cell? a6 = some v6 ∧ W.cell? a7 = some v7 ∧ N ≤ W.heap.size ∧ Below N w W) (b : Nat) (e : W.heap.size = b) (x y z u : Value) (t : TypeId) :
    (W.alloc (.cells #[x, y, z, u] t)).cell? a0 = some v0 ∧ (W.alloc (.cells #[x, y, z, u] t)).cell? a1 = some v1 ∧ (W.alloc (.cells #[x, y, z, u] t)).cell? a2 = some v2 ∧ (W.alloc (.cells #[x, y, z, u] t)).cell? a3 = some v3 ∧ (W.alloc (.cells #[x, y, z, u] t)).cell? a4 = some v4 ∧ (W.alloc (.cells #[x, y, z, u] t)).cell? a5 = some v5 ∧ (W.alloc (.cells #[x, y, z, u] t)).cell? a6 = some v6 ∧ (W.alloc (.cells #[x, y, z, u] t)).cell? a7 = some v7 ∧ (W.alloc (.cells #[x, y, z, u] t)).cell? ⟨b, 0, none⟩ = some x ∧ (W.alloc (.cells #[x, y, z, u] t)).cell? ⟨b, 1, none⟩ = some y ∧ (W.alloc (.cells #[x, y, z, u] t)).cell? ⟨b, 2, none⟩ = some z ∧ (W.alloc (.cells #[x, y, z, u] t)).cell? ⟨b, 3, none⟩ = some u ∧ N ≤ (W.alloc (.cells #[x, y, z, u] t)).heap.size ∧ Below N w (W.alloc (.cells #[x, y, z, u] t)) := two (behind ..) (two (behind ..) (two (behind ..) (two (behind ..) (fun h => adq0 h b e x y z u t)))) h
theorem adq10 (h : W.cell? a0 = some v0 ∧ W.cell? a1 = some v1 ∧ W.cell? a2 = some v2 ∧ W.cell? a3 = some v3 ∧ W.cell? a4 = some v4 ∧ W.cell? a5 = some v5 ∧ W.cell? a6 = some v6 ∧ W.cell? a7 = some v7 ∧ W.cell? a8 = some v8 ∧ W.cell? a9 = some v9 ∧ N ≤ W.heap.size ∧ Below N w W) (b : Nat) (e : W.heap.size = b) (x y z u : Value) (t : TypeId) :
    (W.alloc (.cells #[x, y, z, u] t)).cell? a0 = some v0 ∧ (W.alloc (.cells #[x, y, z, u] t)).cell? a1 = some v1 ∧ (W.alloc (.cells #[x, y, z, u] t)).cell? a2 = some v2 ∧ (W.alloc (.cells #[x, y, z, u] t)).cell? a3 = some v3 ∧ (W.alloc (.cells #[x, y, z, u] t)).cell? a4 = some v4 ∧ (W.alloc (.cells #[x, y, z, u] t)).cell? a5 = some v5 ∧ (W.alloc (.cells #[x, y, z, u] t)).cell? a6 = some v6 ∧ (W.alloc (.cells #[x, y, z, u] t)).cell? a7 = some v7 ∧ (W.alloc (.cells #[x, y, z, u] t)).cell? a8 = some v8 ∧ (W.alloc (.cells #[x, y, z, u] t)).cell? a9 = some v9 ∧ (W.alloc (.cells #[x, y, z, u] t)).cell? ⟨b, 0, none⟩ = some x ∧ (W.alloc (.cells #[x, y, z, u] t)).cell? ⟨b, 1, none⟩ = some y ∧ (W.alloc (.cells #[x, y, z, u] t)).cell? ⟨b, 2, none⟩ = some z ∧ (W.alloc (.cells #[x, y, z, u] t)).cell? ⟨b, 3, none⟩ = some u ∧ N ≤ (W.alloc (.cells #[x, y, z, u] t)).heap.size ∧ Below N w (W.alloc (.cells #[x, y, z, u] t)) := two (behind ..) (two (behind ..) (two (behind ..) (two (behind ..) (two (behind ..) (fun h => adq0 h b e x y z u t))))) h
theorem adq12 (h : W.cell? a0 = some v0 ∧ W.cell? a1 = some v1 ∧ W.cell? a2 = some v2 ∧ W.cell? a3 = some v3 ∧ W.cell? a4 = some v4 ∧ W.cell? a5 = some v5 ∧ W.cell? a6 = some v6 ∧ W.cell? a7 = some v7 ∧ W.cell? a8 = some v8 ∧ W.cell? a9 = some v9 ∧ W.cell? a10 = some v10 ∧ W.cell? a11 = some v11 ∧ N ≤ W.heap.size ∧ Below N w W) (b : Nat) (e : W.heap.size = b) (x y z u : Value) (t : TypeId) :
    (W.alloc (.cells #[x, y, z, u] t)).cell? a0 = some v0 ∧ (W.alloc (.cells #[x, y, z, u] t)).cell? a1 = some v1 ∧ (W.alloc (.cells #[x, y, z, u] t)).cell? a2 = some v2 ∧ (W.alloc (.cells #[x, y, z, u] t)).cell? a3 = some v3 ∧ (W.alloc (.cells #[x, y, z, u] t)).cell? a4 = some v4 ∧ (W.alloc (.cells #[x, y, z, u] t)).cell? a5 = some v5 ∧ (W.alloc (.cells #[x, y, z, u] t)).cell? a6 = some v6 ∧ (W.alloc (.cells #[x, y, z, u] t)).cell? a7 = some v7 ∧ (W.alloc (.cells #[x, y, z, u] t)).cell? a8 = some v8 ∧ (W.alloc (.cells #[x, y, z, u] t)).cell? a9 = some v9 ∧ (W.alloc (.cells #[x, y, z, u] t)).cell? a10 = some v10 ∧ (W.alloc (.cells #[x, y, z, u] t)).cell? a11 = some v11 ∧ (W.alloc (.cells #[x, y, z, u] t)).cell? ⟨b, 0, none⟩ = some x ∧ (W.alloc (.cells #[x, y, z, u] t)).cell? ⟨b, 1, none⟩ = some y ∧ (W.alloc (.cells #[x, y, z, u] t)).cell? ⟨b, 2, none⟩ = some z ∧ (W.alloc (.cells #[x, y, z, u] t)).cell? ⟨b, 3, none⟩ = some u ∧ N ≤ (W.alloc (.cells #[x, y, z, u] t)).heap.size ∧ Below N w (W.alloc (.cells #[x, y, z, u] t)) := two (behind ..) (two (behind ..) (two (behind ..) (two (behind ..) (two (behind ..) (two (behind ..) (fun h => adq0 h b e x y z u t)))))) h
theorem adq14 (h : W.cell? a0 = some v0 ∧ W.cell? a1 = some v1 ∧ W.cell? a2 = some v2 ∧ W.cell? a3 = some v3 ∧ W.cell? a4 = some v4 ∧ W.cell? a5 = some v5 ∧ W.cell? a6 = some v6 ∧ W.cell? a7 = some v7 ∧ W.cell? a8 = some v8 ∧ W.cell? a9 = some v9 ∧ W.cell? a10 = some v10 ∧ W.cell? a11 = some v11 ∧ W.cell? a12 = some v12 ∧ W.cell? a13 = some v13 ∧ N ≤ W.heap.size ∧ Below N w W) (b : Nat) (e : W.heap.size = b) (x y z u : Value) (t : TypeId) :
    (W.alloc (.cells #[x, y, z, u] t)).cell? a0 = some v0 ∧ (W.alloc (.cells #[x, y, z, u] t)).cell? a1 = some v1 ∧ (W.alloc (.cells #[x, y, z, u] t)).cell? a2 = some v2 ∧ (W.alloc (.cells #[x, y, z, u] t)).cell? a3 = some v3 ∧ (W.alloc (.cells #[x, y, z, u] t)).cell? a4 = some v4 ∧ (W.alloc (.cells #[x, y, z, u] t)).cell? a5 = some v5 ∧ (W.alloc (.cells #[x, y, z, u] t)).cell? a6 = some v6 ∧ (W.alloc (.cells #[x, y, z, u] t)).cell? a7 = some v7 ∧ (W.alloc (.cells #[x, y, z, u] t)).cell? a8 = some v8 ∧ (W.alloc (.cells #[x, y, z, u] t)).cell? a9 = some v9 ∧ (W.alloc (.cells #[x, y, z, u] t)).cell? a10 = some v10 ∧ (W.alloc (.cells #[x, y, z, u] t)).cell? a11 = some v11 ∧ (W.alloc (.cells #[x, y, z, u] t)).cell? a12 = some v12 ∧ (W.alloc (.cells #[x, y, z, u] t)).cell? a13 = some v13 ∧ (W.alloc (.cells #[x, y, z, u] t)).cell? ⟨b, 0, none⟩ = some x ∧ (W.alloc (.cells #[x, y, z, u] t)).cell? ⟨b, 1, none⟩ = some y ∧ (W.alloc (.cells #[x, y, z, u] t)).cell? ⟨b, 2, none⟩ = some z ∧ (W.alloc (.cells #[x, y, z, u] t)).cell? ⟨b, 3, none⟩ = some u ∧ N ≤ (W.alloc (.cells #[x, y, z, u] t)).heap.size ∧ Below N w (W.alloc (.cells #[x, y, z, u] t)) := two (behind ..) (two (behind ..) (two (behind ..) (two (behind ..) (two (behind ..) (two (behind ..) (two (behind ..) (fun h => adq0 h b e x y z u t))))))) h
theorem adq16 (h : W.cell? a0 = some v0 ∧ W.cell? a1 = some v1 ∧ W.cell? a2 = some v2 ∧ W.cell? a3 = some v3 ∧ W.cell? a4 = some v4 ∧ W.cell? a5 = some v5 ∧ W.cell? a6 = some v6 ∧ W.cell? a7 = some v7 ∧ W.cell? a8 = some v8 ∧ W.cell? a9 = some v9 ∧ W.cell? a10 = some v10 ∧ W.cell? a11 = some v11 ∧ W.cell? a12 = some v12 ∧ W.cell? a13 = some v13 ∧ W.cell? a14 = some v14 ∧ W.cell? a15 = some v15 ∧ N ≤ W.heap.size ∧ Below N w W) (b : Nat) (e : W.heap.size = b) (x y z u : Value) (t : TypeId) :
    (W.alloc (.cells #[x, y, z, u] t)).cell? a0 = some v0 ∧ (W.alloc (.cells #[x, y, z, u] t)).cell? a1 = some v1 ∧ (W.alloc (.cells #[x, y, z, u] t)).cell? a2 = some v2 ∧ (W.alloc (.cells #[x, y, z, u] t)).cell? a3 = some v3 ∧ (W.alloc (.cells #[x, y, z, u] t)).cell? a4 = some v4 ∧ (W.alloc (.cells #[x, y, z, u] t)).cell? a5 = some v5 ∧ (W.alloc (.cells #[x, y, z, u] t)).cell? a6 = some v6 ∧ (W.alloc (.cells #[x, y, z, u] t)).cell? a7 = some v7 ∧ (W.alloc (.cells #[x, y, z, u] t)).cell? a8 = some v8 ∧ (W.alloc (.cells #[x, y, z, u] t)).cell? a9 = some v9 ∧ (W.alloc (.cells #[x, y, z, u] t)).cell? a10 = some v10 ∧ (W.alloc (.cells #[x, y, z, u] t)).cell? a11 = some v11 ∧ (W.alloc (.cells #[x, y, z, u] t)).cell? a12 = some v12 ∧ (W.alloc (.cells #[x, y, z, u] t)).cell? a13 = some v13 ∧ (W.alloc (.cells #[x, y, z, u] t)).cell? a14 = some v14 ∧ (W.alloc (.cells #[x, y, z, u] t)).cell? a15 = some v15 ∧ (W.alloc (.cells #[x, y, z, u] t)).cell? ⟨b, 0, none⟩ = some x ∧ (W.alloc (.cells #[x, y, z, u] t)).cell? ⟨b, 1, none⟩ = some y ∧ (W.alloc (.cells #[x, y, z, u] t)).cell? ⟨b, 2, none⟩ = some z ∧ (W.alloc (.cells #[x, y, z, u] t)).cell? ⟨b, 3, none⟩ = some u ∧ N ≤ (W.alloc (.cells #[x, y, z, u] t)).heap.size ∧ Below N w (W.alloc (.cells #[x, y, z, u] t)) := two (behind ..) (two (behind ..) (two (behind ..) (two (behind ..) (two (behind ..) (two (behind ..) (two (behind ..) (two (behind ..) (fun h => adq0 h b e x y z u t)))))))) h
theorem adq18 (h : W.cell? a0 = some v0 ∧ W.cell? a1 = some v1 ∧ W.cell? a2 = some v2 ∧ W.cell? a3 = some v3 ∧ W.cell? a4 = some v4 ∧ W.cell? a5 = some v5 ∧ W.cell? a6 = some v6 ∧ W.cell? a7 = some v7 ∧ W.cell? a8 = some v8 ∧ W.cell? a9 = some v9 ∧ W.cell? a10 = some v10 ∧ W.cell? a11 = some v11 ∧ W.cell? a12 = some v12 ∧ W.cell? a13 = some v13 ∧ W.cell? a14 = some v14 ∧ W.cell? a15 = some v15 ∧ W.cell? a16 = some v16 ∧ W.cell? a17 = some v17 ∧ N ≤ W.heap.size ∧ Below N w W) (b : Nat) (e : W.heap.size = b) (x y z u : Value) (t : TypeId) :
    (W.alloc (.cells #[x, y, z, u] t)).cell? a0 = some v0 ∧ (W.alloc (.cells #[x, y, z, u] t)).cell? a1 = some v1 ∧ (W.alloc (.cells #[x, y, z, u] t)).cell? a2 = some v2 ∧ (W.alloc (.cells #[x, y, z, u] t)).cell? a3 = some v3 ∧ (W.alloc (.cells #[x, y, z, u] t)).cell? a4 = some v4 ∧ (W.alloc (.cells #[x, y, z, u] t)).cell? a5 = some v5 ∧ (W.alloc (.cells #[x, y, z, u] t)).cell? a6 = some v6 ∧ (W.alloc (.cells #[x, y, z, u] t)).cell? a7 = some v7 ∧ (W.alloc (.cells #[x, y, z, u] t)).cell? a8 = some v8 ∧ (W.alloc (.cells #[x, y, z, u] t)).cell? a9 = some v9 ∧ (W.alloc (.cells #[x, y, z, u] t)).cell? a10 = some v10 ∧ (W.alloc (.cells #[x, y, z, u] t)).cell? a11 = some v11 ∧ (W.alloc (.cells #[x, y, z, u] t)).cell? a12 = some v12 ∧ (W.alloc (.cells #[x, y, z, u] t)).cell? a13 = some v13 ∧ (W.alloc (.cells #[x, y, z, u] t)).cell? a14 = some v14 ∧ (W.alloc (.cells #[x, y, z, u] t)).cell? a15 = some v15 ∧ (W.alloc (.cells #[x, y, z, u] t)).cell? a16 = some v16 ∧ (W.alloc (.cells #[x, y, z, u] t)).cell? a17 = some v17 ∧ (W.alloc (.cells #[x, y, z, u] t)).cell? ⟨b, 0, none⟩ = some x ∧ (W.alloc (.cells #[x, y, z, u] t)).cell? ⟨b, 1, none⟩ = some y ∧ (W.alloc (.cells #[x, y, z, u] t)).cell? ⟨b, 2, none⟩ = some z ∧ (W.alloc (.cells #[x, y, z, u] t)).cell? ⟨b, 3, none⟩ = some u ∧ N ≤ (W.alloc (.cells #[x, y, z, u] t)).heap.size ∧ Below N w (W.alloc (.cells #[x, y, z, u] t)) := two (behind ..) (two (behind ..) (two (behind ..) (two (behind ..) (two (behind ..) (two (behind ..) (two (behind ..) (two (behind ..) (two (behind ..) (fun h => adq0 h b e x y z u t))))))))) h
theorem adq20 (h : W.cell? a0 = some v0 ∧ W.cell? a1 = some v1 ∧ W.cell? a2 = some v2 ∧ W.cell? a3 = some v3 ∧ W.cell? a4 = some v4 ∧ W.cell? a5 = some v5 ∧ W.cell? a6 = some v6 ∧ W.cell? a7 = some v7 ∧ W.cell? a8 = some v8 ∧ W.cell? a9 = some v9 ∧ W.cell? a10 = some v10 ∧ W.cell? a11 = some v11 ∧ W.cell? a12 = some v12 ∧ W.cell? a13 = some v13 ∧ W.cell? a14 = some v14 ∧ W.cell? a15 = some v15 ∧ W.cell? a16 = some v16 ∧ W.cell? a17 = some v17 ∧ W.cell? a18 = some v18 ∧ W.cell? a19 = some v19 ∧ N ≤ W.heap.size ∧ Below N w W) (b : Nat) (e : W.heap.size = b) (x y z u : Value) (t : TypeId) :
    (W.alloc (.cells #[x, y, z, u] t)).cell? a0 = some v0 ∧ (W.alloc (.cells #[x, y, z, u] t)).cell? a1 = some v1 ∧ (W.alloc (.cells #[x, y, z, u] t)).cell? a2 = some v2 ∧ (W.alloc (.cells #[x, y, z, u] t)).cell? a3 = some v3 ∧ (W.alloc (.cells #[x, y, z, u] t)).cell? a4 = some v4 ∧ (W.alloc (.cells #[x, y, z, u] t)).cell? a5 = some v5 ∧ (W.alloc (.cells #[x, y, z, u] t)).cell? a6 = some v6 ∧ (W.alloc (.cells #[x, y, z, u] t)).cell? a7 = some v7 ∧ (W.alloc (.cells #[x, y, z, u] t)).cell? a8 = some v8 ∧ (W.alloc (.cells #[x, y, z, u] t)).cell? a9 = some v9 ∧ (W.alloc (.cells #[x, y, z, u] t)).cell? a10 = some v10 ∧ (W.alloc (.cells #[x, y, z, u] t)).cell? a11 = some v11 ∧ (W.alloc (.cells #[x, y, z, u] t)).cell? a12 = some v12 ∧ (W.alloc (.cells #[x, y, z, u] t)).cell? a13 = some v13 ∧ (W.alloc (.cells #[x, y, z, u] t)).cell? a14 = some v14 ∧ (W.alloc (.cells #[x, y, z, u] t)).cell? a15 = some v15 ∧ (W.alloc (.cells #[x, y, z, u] t)).cell? a16 = some v16 ∧ (W.alloc (.cells #[x, y, z, u] t)).cell? a17 = some v17 ∧ (W.alloc (.cells #[x, y, z, u] t)).cell? a18 = some v18 ∧ (W.alloc (.cells #[x, y, z, u] t)).cell? a19 = some v19 ∧ (W.alloc (.cells #[x, y, z, u] t)).cell? ⟨b, 0, none⟩ = some x ∧ (W.alloc (.cells #[x, y, z, u] t)).cell? ⟨b, 1, none⟩ = some y ∧ (W.alloc (.cells #[x, y, z, u] t)).cell? ⟨b, 2, none⟩ = some z ∧ (W.alloc (.cells #[x, y, z, u] t)).cell? ⟨b, 3, none⟩ = some u ∧ N ≤ (W.alloc (.cells #[x, y, z, u] t)).heap.size ∧ Below N w (W.alloc (.cells #[x, y, z, u] t)) := two (behind ..) (two (behind ..) (two (behind ..) (two (behind ..) (two (behind ..) (two (behind ..) (two (behind ..) (two (behind ..) (two (behind ..) (two (behind ..) (fun h => adq0 h b e x y z u t)))))))))) h
end Go.Proofs.Ythakngphffoooaa.Kp
/-
  A slice of points in memory, and a rectangle of the call's own in memory: what is known of them stays known behind whatever only makes memory. No program here.
-/
namespace Go.Proofs.Ythakngphffoooaa.Pts
open Go.RowKit

/-- A slice that holds these points, in blocks below B. -/
def PtsAt (w : World) (B : Nat) (A : Option Addr) (l : List (Int × Int)) : Prop :=
  l ≠ [] → ∃ b off, A = some ⟨b, off, none⟩ ∧ b < B ∧ ∀ (k : Nat) (h : k < l.length), w.cell? ⟨b, off + k * 2, none⟩ = some (.int .i64 l[k].1) ∧ w.cell? ⟨b, off + k * 2 + 1, none⟩ = some (.int .i64 l[k].2)
theorem PtsAt.later {w w' : World} {B : Nat} {A : Option Addr} {l : List (Int × Int)} (h : PtsAt w B A l) (hb : Below B w w') : PtsAt w' B A l := by
  intro hl
  obtain ⟨b, off, e, hB, hc⟩ := h hl
  exact ⟨b, off, e, hB, fun k hk => ⟨(hb.cell (p := ⟨b, off + k * 2, none⟩) hB).trans (hc k hk).1, (hb.cell (p := ⟨b, off + k * 2 + 1, none⟩) hB).trans (hc k hk).2⟩⟩
theorem PtsAt.wide {w : World} {B B' : Nat} {A : Option Addr} {l : List (Int × Int)} (h : PtsAt w B A l) (hB : B ≤ B') : PtsAt w B' A l := by
  intro hl
  obtain ⟨b, off, e, hb, hc⟩ := h hl
  exact ⟨b, off, e, by omega, hc⟩

/-- A rectangle in block g, that may be written. -/
def Rc4 (W : World) (g : Nat) (x1 y1 x2 y2 : Int) : Prop :=
  W.cell? ⟨g, 0, none⟩ = some (.int .i64 x1) ∧ W.cell? ⟨g, 1, none⟩ = some (.int .i64 y1) ∧ W.cell? ⟨g, 2, none⟩ = some (.int .i64 x2) ∧ W.cell? ⟨g, 3, none⟩ = some (.int .i64 y2) ∧
  W.frozen? ⟨g, 0, none⟩ = false ∧ W.frozen? ⟨g, 1, none⟩ = false ∧ W.frozen? ⟨g, 2, none⟩ = false ∧ W.frozen? ⟨g, 3, none⟩ = false
section
variable {W w1 : World} {g : Nat} {x1 y1 x2 y2 : Int}
theorem Rc4.lt (h : Rc4 W g x1 y1 x2 y2) : g < W.heap.size := World.block_lt_of_cell? _ ⟨g, 0, none⟩ h.1
theorem Rc4.below {B : Nat} (h : Rc4 W g x1 y1 x2 y2) (hb : Below B W w1) (hg : g < B) : Rc4 w1 g x1 y1 x2 y2 := by
  obtain ⟨a, b, c, d, e, f, i, j⟩ := h
  have hc := fun o => hb.cell (p := ⟨g, o, none⟩) hg
  have hf := fun o => hb.frozen (p := ⟨g, o, none⟩) hg
  exact ⟨(hc 0).trans a, (hc 1).trans b, (hc 2).trans c, (hc 3).trans d, (hf 0).trans e, (hf 1).trans f, (hf 2).trans i, (hf 3).trans j⟩
theorem Rc4.later (h : Rc4 W g x1 y1 x2 y2) (hb : Below W.heap.size W w1) : Rc4 w1 g x1 y1 x2 y2 := h.below hb h.lt
theorem Rc4.alloc (h : Rc4 W g x1 y1 x2 y2) (o : Obj) : Rc4 (W.alloc o) g x1 y1 x2 y2 := h.later ((Below.refl _ _).alloc (Nat.le_refl _) _)
theorem Rc4.drew (h : Rc4 W g x1 y1 x2 y2) : Rc4 W.drew g x1 y1 x2 y2 := h
theorem Rc4.new (W : World) (x1 y1 x2 y2 : Int) (t : TypeId) : Rc4 (W.alloc (.cells #[.int .i64 x1, .int .i64 y1, .int .i64 x2, .int .i64 y2] t)) W.heap.size x1 y1 x2 y2 := by
  refine ⟨?_, ?_, ?_, ?_, ?_, ?_, ?_, ?_⟩ <;> simp [go_sem]
theorem below_far {p : Addr} {v : Value} (W : World) : Below p.block W (W.setCell p v) := (Below.refl _ _).setCell (Nat.le_refl _) _
theorem cell_far (W : World) {p q : Addr} (v : Value) (h : p.block ≠ q.block) : (W.setCell p v).cell? q = W.cell? q := World.cell?_setCell_other W p q v (fun e => h (by rw [e]))
theorem frozen_set (W : World) (p q : Addr) (v : Value) : (W.setCell p v).frozen? q = W.frozen? q := by simp [go_sem]
theorem Rc4.far (h : Rc4 W g x1 y1 x2 y2) {p : Addr} (v : Value) (hp : p.block ≠ g) : Rc4 (W.setCell p v) g x1 y1 x2 y2 := by
  obtain ⟨a, b, c, d, e, f, i, j⟩ := h
  exact ⟨(cell_far W v hp).trans a, (cell_far W v hp).trans b, (cell_far W v hp).trans c, (cell_far W v hp).trans d, (frozen_set ..).trans e, (frozen_set ..).trans f, (frozen_set ..).trans i, (frozen_set ..).trans j⟩
/-- All four written. -/
theorem Rc4.set (h : Rc4 W g x1 y1 x2 y2) (a b c d : Int) :
    Rc4 ((((W.setCell ⟨g, 0, none⟩ (.int .i64 a)).setCell ⟨g, 1, none⟩ (.int .i64 b)).setCell ⟨g, 2, none⟩ (.int .i64 c)).setCell ⟨g, 3, none⟩ (.int .i64 d)) g a b c d := by
  obtain ⟨h0, h1, h2, h3, f0, f1, f2, f3⟩ := h
  refine ⟨?_, ?_, ?_, ?_, ?_, ?_, ?_, ?_⟩ <;> simp [go_sem, *]
end
end Go.Proofs.Ythakngphffoooaa.Pts
/-
  Two slices of points that a call makes side by side, each appended to again and again; and what a polygon's turned, turned round and moved points are to it. No program here.
-/
namespace Go.Proofs.Ythakngphffoooaa.Pl
open Go.RowKit Go.Proofs.Ythakngphffoooaa.Pt Go.Proofs.Ythakngphffoooaa.Rc Go.Proofs.Ythakngphffoooaa.Pts
set_option linter.unusedVariables false

def cellsL (ps : List Pnt) : List Value := ps.flatMap fun p => [.int .i64 p.1, .int .i64 p.2]
theorem cellsL_app (ps : List Pnt) (p : Pnt) : cellsL (ps ++ [p]) = cellsL ps ++ [.int .i64 p.1, .int .i64 p.2] := by unfold cellsL; simp
theorem cellsL_get : ∀ (ps : List Pnt) (k : Nat) (h : k < ps.length), (cellsL ps)[k * 2]? = some (.int .i64 ps[k].1) ∧ (cellsL ps)[k * 2 + 1]? = some (.int .i64 ps[k].2)
  | [], _, h => by simp at h
  | p :: ps, 0, _ => by simp [cellsL]
  | p :: ps, k + 1, h => by
    have := cellsL_get ps k (by simpa using h)
    have e : cellsL (p :: ps) = .int .i64 p.1 :: .int .i64 p.2 :: cellsL ps := by simp [cellsL]
    rw [e, show (k + 1) * 2 = k * 2 + 1 + 1 by omega]
    simpa using this
/-- The two slices. -/
structure Pair (W : World) (base : Nat) (t : TypeId) (v u : Value) (ps qs : List Pnt) : Prop where
  one : W.ownsRow base t 2 v ps.length (cellsL ps)
  two : W.ownsRow base t 2 u qs.length (cellsL qs)
  apart : ∀ g, v.ownBlock = some g → u.ownBlock ≠ some g
theorem own_lt {W : World} {base n : Nat} {t : TypeId} {v : Value} {xs : List Value} (h : W.ownsRow base t 2 v n xs) {g : Nat} (hg : v.ownBlock = some g) : g < W.heap.size ∧ base ≤ g := by
  rcases h.2 with ⟨rfl, _⟩ | ⟨g', cap, cur, rfl, hb, hh, _⟩
  · simp [Value.ownBlock] at hg
  · simp [Value.ownBlock] at hg
    subst hg
    exact ⟨(Array.getElem?_eq_some_iff.1 hh).1, hb⟩
theorem own_later {W w1 : World} {base n : Nat} {t : TypeId} {v : Value} {xs : List Value} (h : W.ownsRow base t 2 v n xs) (hb : Below W.heap.size W w1) : w1.ownsRow base t 2 v n xs :=
  h.kept (row := none) ⟨hb.os, hb.tape, hb.output, hb.size, fun k hk _ => hb.block k hk⟩ (by cases v.ownBlock <;> simp)
theorem Pair.later {W w1 : World} {base : Nat} {t : TypeId} {v u : Value} {ps qs : List Pnt} (h : Pair W base t v u ps qs) (hb : Below W.heap.size W w1) : Pair w1 base t v u ps qs := ⟨own_later h.one hb, own_later h.two hb, h.apart⟩
theorem Pair.start (W : World) (base : Nat) (t : TypeId) : Pair W base t (.slice none 0 0) (.slice none 0 0) [] [] := ⟨World.ownsRow_nil _ _ _ _, World.ownsRow_nil _ _ _ _, fun g h => by simp [Value.ownBlock] at h⟩
theorem Pair.left {W w1 : World} {base : Nat} {t : TypeId} {v v' u : Value} {ps qs : List Pnt} {p : Pnt} (h : Pair W base t v u ps qs)
    (ho : w1.ownsRow base t 2 v' (ps.length + 1) (cellsL ps ++ [.int .i64 p.1, .int .i64 p.2])) (hg : W.grownBy w1 v.ownBlock) (ha : v'.ownBlock = v.ownBlock ∨ v'.ownBlock = some W.heap.size) : Pair w1 base t v' u (ps ++ [p]) qs := by
  refine ⟨by rw [cellsL_app, List.length_append]; exact ho, h.two.kept hg ?_, fun g hv => ?_⟩
  · cases hu : u.ownBlock with
    | none => exact Or.inl rfl
    | some g => exact Or.inr fun e => h.apart g e.symm hu
  · rcases ha with ha | ha
    · exact h.apart g (ha ▸ hv)
    · intro hu
      have := (own_lt h.two hu).1
      rw [ha] at hv
      simp at hv
      omega
theorem Pair.right {W w1 : World} {base : Nat} {t : TypeId} {v u u' : Value} {ps qs : List Pnt} {p : Pnt} (h : Pair W base t v u ps qs)
    (ho : w1.ownsRow base t 2 u' (qs.length + 1) (cellsL qs ++ [.int .i64 p.1, .int .i64 p.2])) (hg : W.grownBy w1 u.ownBlock) (ha : u'.ownBlock = u.ownBlock ∨ u'.ownBlock = some W.heap.size) : Pair w1 base t v u' ps (qs ++ [p]) := by
  refine ⟨h.one.kept hg ?_, by rw [cellsL_app, List.length_append]; exact ho, fun g hv => ?_⟩
  · cases hv : v.ownBlock with
    | none => exact Or.inl rfl
    | some g => exact Or.inr fun e => h.apart g hv e.symm
  · rcases ha with ha | ha
    · rw [ha]; exact h.apart g hv
    · rw [ha]
      intro hu
      have := (own_lt h.one hv).1
      simp at hu
      omega
theorem grown_below {W w1 v : World} {base n : Nat} {t : TypeId} {u : Value} {xs : List Value} (hB : Below v.heap.size v W) (h : W.ownsRow v.heap.size t 2 u n xs) (hg : W.grownBy w1 u.ownBlock) : Below v.heap.size v w1 :=
  hB.grown hg hB.size fun k hk => (own_lt h hk).2
theorem news_pt (W : World) (x y : Int) (t : TypeId) : ∀ j u, ([.int .i64 x, .int .i64 y] : List Value)[j]? = some u → (W.alloc (.cells #[.int .i64 x, .int .i64 y] t)).cell? ((⟨W.heap.size, 0, none⟩ : Addr).add j) = some u := by
  intro j u hj
  match j, hj with
  | 0, hj => simp at hj; subst hj; simp [Addr.add, go_sem]
  | 1, hj => simp at hj; subst hj; simp [Addr.add, go_sem]
  | j + 2, hj => simp at hj
theorem one_pt (x y : Int) : ∀ u ∈ ([.int .i64 x, .int .i64 y] : List Value), u.oneCell' = true := by
  intro u hu
  simp at hu
  rcases hu with rfl | rfl <;> rfl
theorem own_pts {W : World} {base : Nat} {t : TypeId} {v : Value} {ps : List Pnt} (h : W.ownsRow base t 2 v ps.length (cellsL ps)) (h0 : 0 < ps.length) : ∃ g cap, v = .slice (some ⟨g, 0, none⟩) ps.length cap ∧ PtsAt W W.heap.size (some ⟨g, 0, none⟩) ps := by
  have h2 := h
  rcases h.2 with ⟨rfl, e⟩ | ⟨g, cap, cur, rfl, _, hh, _⟩
  · omega
  · refine ⟨g, cap, rfl, fun _ => ⟨g, 0, rfl, (Array.getElem?_eq_some_iff.1 hh).1, fun k hk => ?_⟩⟩
    obtain ⟨c1, c2⟩ := cellsL_get ps k hk
    have d1 := h2.cellAt (k * 2) (by omega)
    have d2 := h2.cellAt (k * 2 + 1) (by omega)
    rw [c1] at d1
    rw [c2] at d2
    exact ⟨by simpa using d1, by simpa using d2⟩

/-- The first k of the points from vertex m on; of the points turned round. -/
def turnedL (l : List Pnt) (m k : Nat) : List Pnt := (List.range k).map fun (i : Nat) => at_ l ((i : Int) + m)
def roundL (l : List Pnt) (k : Nat) : List Pnt := (List.range k).map fun (i : Nat) => at_ l ((l.length : Int) - 1 - i)
theorem turnedL_succ (l : List Pnt) (m k : Nat) : turnedL l m (k + 1) = turnedL l m k ++ [at_ l ((k : Int) + m)] := by unfold turnedL; rw [List.range_succ, List.map_append]; rfl
theorem roundL_succ (l : List Pnt) (k : Nat) : roundL l (k + 1) = roundL l k ++ [at_ l ((l.length : Int) - 1 - k)] := by unfold roundL; rw [List.range_succ, List.map_append]; rfl
theorem turnedL_len (l : List Pnt) (m k : Nat) : (turnedL l m k).length = k := by unfold turnedL; simp
theorem roundL_len (l : List Pnt) (k : Nat) : (roundL l k).length = k := by unfold roundL; simp

theorem turnedL_get (l : List Pnt) (m k i : Nat) (h : i < (turnedL l m k).length) : (turnedL l m k)[i] = at_ l ((i : Int) + m) := by simp [turnedL]
theorem roundL_get (l : List Pnt) (k i : Nat) (h : i < (roundL l k).length) : (roundL l k)[i] = at_ l ((l.length : Int) - 1 - i) := by simp [roundL]
theorem moveL_get (l : List Pnt) (d : Pnt) (i : Nat) (h : i < (moveL l d).length) : (moveL l d)[i] = addP (l[i]'(by simpa [moveL] using h)) d := by simp [moveL]
theorem bool_of {a b : Bool} (h : a = true ↔ b = true) : a = b := Bool.eq_iff_iff.2 h
/-- What PolyTurns asks of the points from vertex m on. -/
theorem turned_facts {l : List Pnt} (hs : simpleB l = true) (m : Nat) (p : Pnt) :
    simpleB (turnedL l m l.length) = true ∧ insB (turnedL l m l.length) p = insB l p ∧ twiceL (turnedL l m l.length) = twiceL l := by
  obtain ⟨hm, h3, hn⟩ := simpleB_all hs
  have h0 : 0 < l.length := by omega
  have hl := turnedL_len l m l.length
  obtain ⟨f1, f2, f3⟩ := turned_all (l := l) (t := turnedL l m l.length) (m := m) h0 hl (fun i hi => by
    rw [turnedL_get, ← at_natmod h0]; rfl)
  refine ⟨simpleB_iff.2 (f1 (simpleB_iff.1 hs)), bool_of ?_, ?_⟩
  · rw [insB_iff (by omega), insB_iff h0]; exact f2 p
  · unfold twiceL; rw [f3]
theorem round_facts {l : List Pnt} (hs : simpleB l = true) (p : Pnt) :
    simpleB (roundL l l.length) = true ∧ insB (roundL l l.length) p = insB l p ∧ twiceL (roundL l l.length) = twiceL l := by
  obtain ⟨hm, h3, hn⟩ := simpleB_all hs
  have h0 : 0 < l.length := by omega
  have hl := roundL_len l l.length
  obtain ⟨f1, f2, f3⟩ := round_all (l := l) (t := roundL l l.length) h0 hl (fun i hi => by
    have hi' : i < l.length := by omega
    rw [roundL_get, ← at_nat (show l.length - 1 - i < l.length by omega)]
    congr 1
    omega)
  refine ⟨simpleB_iff.2 (f1 (simpleB_iff.1 hs)), bool_of ?_, ?_⟩
  · rw [insB_iff (by omega), insB_iff h0]; exact f2 p
  · unfold twiceL; rw [f3, twiceI_neg]
theorem moved_facts {l : List Pnt} (hs : simpleB l = true) (d p : Pnt) :
    insB (moveL l d) (addP p d) = insB l p ∧ twiceL (moveL l d) = twiceL l := by
  obtain ⟨hm, h3, hn⟩ := simpleB_all hs
  have h0 : 0 < l.length := by omega
  have hl : (moveL l d).length = l.length := by unfold moveL; rw [List.length_map]
  obtain ⟨f2, f3⟩ := moved_all (l := l) (t := moveL l d) (d := d) h0 hl (fun i hi => moveL_get l d i hi)
  refine ⟨bool_of ?_, ?_⟩
  · rw [insB_iff (by omega), insB_iff h0]; exact f2 p
  · unfold twiceL; rw [f3]
theorem moved_may {l : List Pnt} {d : Pnt} (h : fineB l d = true) : (moveL l d).all pmay = true := by
  unfold fineB at h
  rw [Bool.and_eq_true, List.all_eq_true] at h
  unfold moveL
  rw [List.all_map, List.all_eq_true]
  exact fun p hp => h.2 p hp
theorem vertex_in {l : List Pnt} {k : Nat} (hk : k < l.length) : insB l l[k] = true := by
  rw [insB_iff (by omega), ← at_nat hk]
  exact InQ.vertex _ _ _
end Go.Proofs.Ythakngphffoooaa.Pl
/-
  A region, moved: what is in it, its box; plain facts. No program here.
-/
namespace Go.Proofs.Ythakngphffoooaa.Rg
open Go.Proofs.Ythakngphffoooaa.Pt Go.Proofs.Ythakngphffoooaa.Rc Go.Proofs.Ythakngphffoooaa.Pl
set_option linter.unusedVariables false

def shR (r : R4) (v : Pnt) : R4 := ⟨r.x1 + v.1, r.y1 + v.2, r.x2 + v.1, r.y2 + v.2⟩
theorem mn_add (a b x : Int) : mn (a + x) (b + x) = mn a b + x := by unfold mn; split <;> split <;> omega
theorem mx_add (a b x : Int) : mx (a + x) (b + x) = mx a b + x := by unfold mx; split <;> split <;> omega
theorem stepR_move (r : R4) (p v : Pnt) : stepR (shR r v) (addP p v) = shR (stepR r p) v := by
  unfold stepR shR addP
  simp only [mn_add, mx_add]
theorem fold_move : ∀ (l : List Pnt) (r : R4) (v : Pnt), (moveL l v).foldl stepR (shR r v) = shR (l.foldl stepR r) v
  | [], _, _ => rfl
  | p :: t, r, v => by
    show (moveL t v).foldl stepR (stepR (shR r v) (addP p v)) = _
    rw [stepR_move]
    exact fold_move t _ v
theorem ofR_move {l : List Pnt} {v : Pnt} (h : l.all pmay = true) (hm : (moveL l v).all pmay = true) (h0 : 0 < l.length) : ofR (moveL l v) = shR (ofR l) v := by
  cases l with
  | nil => simp at h0
  | cons p t =>
    have e : moveL (p :: t) v = addP p v :: moveL t v := rfl
    rw [ofR_yes h, e]
    rw [e] at hm
    rw [ofR_yes hm, ← e]
    unfold accR
    rw [List.take_of_length_le (Nat.le_refl _), List.take_of_length_le (by first | exact Nat.le_refl _ | (rw [e]; exact Nat.le_refl _))]
    exact fold_move (p :: t) (singR p) v
theorem mvB_v {a b c d : Int} {l : List Pnt} {v : Pnt} (h : mvB a b c d l v = true) : pmay v = true := by
  unfold mvB at h
  split at h
  · rw [Bool.and_eq_true] at h; exact h.1
  · unfold fineB at h; rw [Bool.and_eq_true] at h; exact h.1
theorem rgB_moved {a b c d : Int} {l : List Pnt} {v : Pnt} (h : rgB a b c d l = true) (hm : mvB a b c d l v = true) : rgB (mvN l a v.1) (mvN l b v.2) (mvN l c v.1) (mvN l d v.2) (moveL l v) = true := by
  unfold rgB mvN at *
  unfold mvB at hm
  rw [moveL_len]
  split
  · rename_i h0
    rw [if_pos h0] at h hm
    rw [Bool.and_eq_true, Bool.and_eq_true] at hm
    rw [rmayB_iff] at h ⊢
    refine ⟨hm.2.1, hm.2.2, ?_⟩
    have := ordB_iff.1 h.2.2
    exact ordB_iff.2 (by omega)
  · rename_i h0
    rw [if_neg h0] at h hm
    rw [Bool.and_eq_true] at h
    rw [Bool.and_eq_true]
    refine ⟨rfl, simpleB_iff.2 (moved_simple (l := l) (d := v) (by omega) (moveL_len l v) (fun i hi => moveL_get l v i hi) (fun p hp => List.all_eq_true.1 (moved_may hm) p hp) (simpleB_iff.1 h.2))⟩
theorem rgX_moved {a b c d : Int} {l : List Pnt} {v : Pnt} (h : rgB a b c d l = true) (hm : mvB a b c d l v = true) : rgX (mvN l a v.1) (mvN l b v.2) (mvN l c v.1) (mvN l d v.2) (moveL l v) = shR (rgX a b c d l) v := by
  unfold rgB at h
  unfold mvB at hm
  unfold rgX mvN
  rw [moveL_len]
  split
  · rfl
  · rename_i h0
    rw [if_neg h0] at h hm
    rw [Bool.and_eq_true] at h
    exact ofR_move (simpleB_all h.2).1 (moved_may hm) (by omega)
theorem rgI_moved {a b c d : Int} {l : List Pnt} {v p : Pnt} (h : rgB a b c d l = true) (hm : mvB a b c d l v = true) (hp : pmay p = true) (hq : pmay (addP p v) = true) :
    rgI (mvN l a v.1) (mvN l b v.2) (mvN l c v.1) (mvN l d v.2) (moveL l v) (addP p v) = rgI a b c d l p := by
  unfold rgI
  rw [h, rgB_moved h hm, hp, hq, moveL_len]
  unfold rgB at h
  unfold mvN
  split
  · simp only [Bool.true_and]
    unfold inB addP
    rw [Bool.eq_iff_iff]
    simp <;> omega
  · rename_i h0
    rw [if_neg h0, Bool.and_eq_true] at h
    rw [(moved_facts h.2 v p).1]
/-- What is in it is in its box. -/
theorem rgI_box {a b c d : Int} {l : List Pnt} {p : Pnt} (h : rgI a b c d l p = true) : inB (rgX a b c d l).x1 (rgX a b c d l).y1 (rgX a b c d l).x2 (rgX a b c d l).y2 p.1 p.2 = true := by
  unfold rgI rgB at h
  rw [Bool.and_eq_true, Bool.and_eq_true] at h
  unfold rgX
  split
  · rename_i h0
    have := h.2.2
    rw [if_pos h0] at this
    exact this
  · rename_i h0
    have h1 := h.1
    have h2 := h.2.2
    rw [if_neg h0] at h1 h2
    rw [Bool.and_eq_true] at h1
    exact ins_box (simpleB_all h1.2).1 (by omega) h2
end Go.Proofs.Ythakngphffoooaa.Rg
namespace Go.Proofs.Ythakngphffoooaa.Mo

/-- The number of a cell, of k bits each. -/
def codeF : Nat → Nat → Nat → Nat
  | 0, _, _ => 0
  | k + 1, c, r => 4 * codeF k (c / 2) (r / 2) + c % 2 + 2 * (r % 2)
/-- The column and the row of a number. -/
def evenF : Nat → Nat → Nat
  | 0, _ => 0
  | k + 1, n => 2 * evenF k (n / 4) + n % 2
def oddF : Nat → Nat → Nat
  | 0, _ => 0
  | k + 1, n => 2 * oddF k (n / 4) + n / 2 % 2
theorem codeF_succ (k c r : Nat) : codeF (k + 1) c r = 4 * codeF k (c / 2) (r / 2) + c % 2 + 2 * (r % 2) := rfl
theorem evenF_succ (k n : Nat) : evenF (k + 1) n = 2 * evenF k (n / 4) + n % 2 := rfl
theorem oddF_succ (k n : Nat) : oddF (k + 1) n = 2 * oddF k (n / 4) + n / 2 % 2 := rfl
theorem codeF_zero : ∀ k : Nat, codeF k 0 0 = 0
  | 0 => rfl
  | k + 1 => by rw [codeF_succ, Nat.zero_div, codeF_zero k]
theorem codeF_lt : ∀ (k c r : Nat), codeF k c r < 4 ^ k
  | 0, _, _ => by simp [codeF]
  | k + 1, c, r => by
    have := codeF_lt k (c / 2) (r / 2)
    rw [codeF_succ, Nat.pow_succ]
    omega
theorem evenF_lt : ∀ (k n : Nat), evenF k n < 2 ^ k
  | 0, _ => by simp [evenF]
  | k + 1, n => by
    have := evenF_lt k (n / 4)
    unfold evenF
    rw [Nat.pow_succ]
    omega
theorem oddF_lt : ∀ (k n : Nat), oddF k n < 2 ^ k
  | 0, _ => by simp [oddF]
  | k + 1, n => by
    have := oddF_lt k (n / 4)
    unfold oddF
    rw [Nat.pow_succ]
    omega
theorem half_lt {c k : Nat} (h : c < 2 ^ (k + 1)) : c / 2 < 2 ^ k := by rw [Nat.pow_succ] at h; omega
/-- A number is split into what it was made of. -/
theorem evenF_codeF : ∀ (k c r : Nat), c < 2 ^ k → evenF k (codeF k c r) = c
  | 0, c, r, h => by simp at h; simp [evenF, h]
  | k + 1, c, r, h => by
    unfold evenF
    rw [codeF_succ, show (4 * codeF k (c / 2) (r / 2) + c % 2 + 2 * (r % 2)) / 4 = codeF k (c / 2) (r / 2) by omega, evenF_codeF k _ _ (half_lt h)]
    omega
theorem oddF_codeF : ∀ (k c r : Nat), r < 2 ^ k → oddF k (codeF k c r) = r
  | 0, c, r, h => by simp at h; simp [oddF, h]
  | k + 1, c, r, h => by
    unfold oddF
    rw [codeF_succ, show (4 * codeF k (c / 2) (r / 2) + c % 2 + 2 * (r % 2)) / 4 = codeF k (c / 2) (r / 2) by omega, oddF_codeF k _ _ (half_lt h)]
    omega
/-- What it is split into makes the number, but for the bits above. -/
theorem codeF_split : ∀ (k n : Nat), codeF k (evenF k n) (oddF k n) = n % 4 ^ k
  | 0, n => by simp [codeF, Nat.mod_one]
  | k + 1, n => by
    have h := codeF_split k (n / 4)
    rw [codeF_succ]
    have e1 : evenF (k + 1) n / 2 = evenF k (n / 4) := by rw [evenF_succ]; omega
    have e2 : oddF (k + 1) n / 2 = oddF k (n / 4) := by rw [oddF_succ]; omega
    have e3 : evenF (k + 1) n % 2 = n % 2 := by rw [evenF_succ]; omega
    have e4 : oddF (k + 1) n % 2 = n / 2 % 2 := by rw [oddF_succ]; omega
    rw [e1, e2, e3, e4, h, Nat.pow_succ, Nat.mul_comm (4 ^ k) 4, Nat.mod_mul]
    omega
/-- More bits make no difference. -/
theorem codeF_more : ∀ (k j c r : Nat), c < 2 ^ k → r < 2 ^ k → codeF (k + j) c r = codeF k c r
  | 0, j, c, r, hc, hr => by
    simp at hc hr
    subst hc hr
    rw [codeF_zero, codeF_zero]
  | k + 1, j, c, r, hc, hr => by
    rw [show k + 1 + j = k + j + 1 by omega, codeF_succ, codeF_succ, codeF_more k j _ _ (half_lt hc) (half_lt hr)]
/-- Without its lowest pairs it is the number of the greater cell. -/
theorem codeF_shift : ∀ (b k c r : Nat), codeF (b + k) c r / 4 ^ b = codeF k (c / 2 ^ b) (r / 2 ^ b)
  | 0, k, c, r => by simp
  | b + 1, k, c, r => by
    rw [show b + 1 + k = b + k + 1 by omega, codeF_succ, Nat.pow_succ, Nat.mul_comm (4 ^ b) 4, ← Nat.div_div_eq_div_mul,
      show (4 * codeF (b + k) (c / 2) (r / 2) + c % 2 + 2 * (r % 2)) / 4 = codeF (b + k) (c / 2) (r / 2) by omega, codeF_shift b k, Nat.div_div_eq_div_mul, Nat.div_div_eq_div_mul, Nat.pow_succ, Nat.mul_comm (2 ^ b) 2]
theorem codeF_inj {k a b c d : Nat} (ha : a < 2 ^ k) (hb : b < 2 ^ k) (hc : c < 2 ^ k) (hd : d < 2 ^ k) : codeF k a b = codeF k c d ↔ a = c ∧ b = d := by
  constructor
  · intro h
    have h1 := congrArg (evenF k) h
    have h2 := congrArg (oddF k) h
    rw [evenF_codeF k _ _ ha, evenF_codeF k _ _ hc] at h1
    rw [oddF_codeF k _ _ hb, oddF_codeF k _ _ hd] at h2
    exact ⟨h1, h2⟩
  · rintro ⟨rfl, rfl⟩
    rfl
/-- Of cells in one quarter no number lies between those of another one. -/
theorem codeF_quarter {b k a c e d : Nat} (ha : a < 2 ^ (b + k)) (hc : c < 2 ^ (b + k)) (he : e < 2 ^ (b + k)) (hd : d < 2 ^ (b + k)) :
    codeF (b + k) a c / 4 ^ b = codeF (b + k) e d / 4 ^ b ↔ a / 2 ^ b = e / 2 ^ b ∧ c / 2 ^ b = d / 2 ^ b := by
  have q : ∀ x, x < 2 ^ (b + k) → x / 2 ^ b < 2 ^ k := fun x hx => Nat.div_lt_of_lt_mul (by rw [← Nat.pow_add]; exact hx)
  rw [codeF_shift, codeF_shift, codeF_inj (q a ha) (q c hc) (q e he) (q d hd)]
/-- Its bits, one by one. -/
theorem codeF_even : ∀ (k i c r : Nat), (codeF k c r).testBit (2 * i) = (decide (i < k) && c.testBit i)
  | 0, i, c, r => by simp [codeF]
  | k + 1, 0, c, r => by
    rw [codeF_succ, Nat.mul_zero, Nat.testBit_zero, Nat.testBit_zero]
    simp
    omega
  | k + 1, i + 1, c, r => by
    rw [show 2 * (i + 1) = 2 * i + 1 + 1 by omega, Nat.testBit_succ, Nat.testBit_succ, codeF_succ, show (4 * codeF k (c / 2) (r / 2) + c % 2 + 2 * (r % 2)) / 2 / 2 = codeF k (c / 2) (r / 2) by omega, codeF_even k i, Nat.testBit_succ]
    simp
theorem codeF_odd : ∀ (k i c r : Nat), (codeF k c r).testBit (2 * i + 1) = (decide (i < k) && r.testBit i)
  | 0, i, c, r => by simp [codeF]
  | k + 1, 0, c, r => by
    rw [codeF_succ, Nat.mul_zero, Nat.zero_add, Nat.testBit_succ, Nat.testBit_zero, Nat.testBit_zero]
    simp
    omega
  | k + 1, i + 1, c, r => by
    rw [show 2 * (i + 1) + 1 = 2 * i + 1 + 1 + 1 by omega, Nat.testBit_succ, Nat.testBit_succ, codeF_succ, show (4 * codeF k (c / 2) (r / 2) + c % 2 + 2 * (r % 2)) / 2 / 2 = codeF k (c / 2) (r / 2) by omega, codeF_odd k i, Nat.testBit_succ]
    simp

/-- A coordinate's column, of cells of 2^s; how many columns there are. -/
def colI (s : Nat) (n : Int) : Int := (n + 1073741824) / 2 ^ s
def sideI (s : Nat) : Int := 2 ^ (31 - s) + 1
theorem two_pos (s : Nat) : (0 : Int) < 2 ^ s := Int.pow_pos (by decide)
theorem colI_lo (s : Nat) (n : Int) : colI s n * 2 ^ s ≤ n + 1073741824 := by unfold colI; exact Int.ediv_mul_le _ (by have := two_pos s; omega)
theorem colI_hi (s : Nat) (n : Int) : n + 1073741824 < (colI s n + 1) * 2 ^ s := by unfold colI; exact Int.lt_ediv_add_one_mul_self _ (two_pos s)
theorem colI_nonneg {s : Nat} {n : Int} (h : -1073741824 ≤ n) : 0 ≤ colI s n := Int.ediv_nonneg (by omega) (by have := two_pos s; omega)
/-- A point's column is one of them. -/
theorem colI_lt {s : Nat} {n : Int} (hs : s ≤ 31) (h : n ≤ 1073741824) : colI s n < sideI s := by
  unfold sideI
  have h1 := colI_lo s n
  have e : (2 : Int) ^ (31 - s) * 2 ^ s = 2147483648 := by rw [← Int.pow_add, Nat.sub_add_cancel hs]; rfl
  have h2 : colI s n * 2 ^ s ≤ 2 ^ (31 - s) * 2 ^ s := by rw [e]; omega
  have := Int.le_of_mul_le_mul_right h2 (two_pos s)
  omega
end Go.Proofs.Ythakngphffoooaa.Mo
