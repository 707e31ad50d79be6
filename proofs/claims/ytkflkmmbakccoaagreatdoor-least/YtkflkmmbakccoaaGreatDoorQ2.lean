/- PARTS: K4. -/
import Derived.Test.YtkflkmmbakccoaaGreatDoorQ1

/- WALKS: package grafterkeep: Least. -/
namespace Go.Proofs.YtkflkmmbakccoaaGreatDoor
open Go.RowKit Go.Maps

set_option maxRecDepth 20000 in
set_option maxHeartbeats 4000000 in
theorem kLeast_any (s : ByteArray) (hs : s.size ≤ 9223372036854775807) (w : World) (HK : Hid (Calls Tryz.prog 13 #[] w fun e w' => e = .returned (.bool true) ∧ But [] w w')) :
    Calls Tryz.prog 6 #[.string s] w fun e w' => e = .returned (.bool true) ∧ But [] w w' := by
  go_enter Tryz.func6, Tryz.ntmps6
  go_wp2_with fail
  refine Calls.mono HK.out ?_
  rintro e w1 ⟨rfl, hb1⟩
  have HR : Hid _ := kRead_any s hs w1
  go_wp2_with fail
  refine Calls.mono HR.out ?_
  intro e w2 hp
  cases hm : loadM s maxB with
  | bad er pl =>
    rw [hm] at hp
    obtain ⟨rfl, hb2⟩ := hp
    clear hm HR
    go_wp2_with fail
    go_ret
    exact ⟨rfl, hb1.trans hb2 (by simp)⟩
  | ok u t =>
    rw [hm] at hp
    obtain ⟨E, nv, rows, d, rfl, hI, hr, hd, hb2⟩ := hp
    obtain ⟨g0, ⟨g1, g2, g3, g4, g5, g6, g7, g8⟩, gd, gn, ga, gw⟩ := least_law hm
    have HM : Hid _ := dMeasure_any E t nv rows w2 hI hr d hd
    clear hm HR hI hd hr
    generalize measM t = M at *
    obtain ⟨bd, bn, ba, bw⟩ := M
    simp only [lessD, lessN, lessA, lessW] at gd gn ga gw g0 g1 g2 g3 g4 g5 g6 g7 g8
    obtain ⟨er1, p1, gd1, gd2⟩ := gd
    obtain ⟨er2, p2, gn1, gn2⟩ := gn
    obtain ⟨er3, p3, ga1, ga2⟩ := ga
    obtain ⟨er4, gw1, gw2⟩ := gw
    have HG0 : Hid _ := g0
    have HGD : Hid _ := gd1
    have HGN : Hid _ := gn1
    have HGA : Hid _ := ga1
    have HGW : Hid _ := gw1
    have HD : Hid _ := gd2
    have HN : Hid _ := gn2
    have HA : Hid _ := ga2
    have HW : Hid _ := gw2
    clear g0 gd1 gn1 ga1 gw1 gd2 gn2 ga2 gw2
    go_wp2_with fail
    refine Calls.mono HM.out ?_
    rintro e w3 ⟨rfl, hb3⟩
    have HB3 : Hid (But [] w w3) := (hb1.trans hb2 (by simp)).trans hb3 (by simp)
    clear hb1 hb2 hb3 HM
    go_wp2_with fail
    have hb4 : But [] w3 (w3.alloc (.cells #[.int .i64 bd, .int .i64 bn, .int .i64 ba, .int .i64 bw] 29)) := alloc_but _ _
    have hB4 : Blk (w3.alloc (.cells #[.int .i64 bd, .int .i64 bn, .int .i64 ba, .int .i64 bw] 29)) w3.heap.size #[.int .i64 bd, .int .i64 bn, .int .i64 ba, .int .i64 bw] 29 := blk_new _ _ _
    refine Calls.mono (load_any s ⟨bd, bn, ba, bw⟩ hs _) ?_
    intro e w5 hp
    rw [HG0.out] at hp
    obtain ⟨E', nv', rows', d', rfl, _, _, _, _, _, _, _, hb5⟩ := hp
    have hB5 := hb5.blk hB4 (by simp)
    have HB5 : Hid (But [] w w5) := (HB3.out.trans hb4 (by simp)).trans hb5 (by simp)
    have hz : w3.heap.size < w5.heap.size := hB5.lt
    have l0 := hB5.cell (i := 0) rfl
    have l1 := hB5.cell (i := 1) rfl
    have l2 := hB5.cell (i := 2) rfl
    have l3 := hB5.cell (i := 3) rfl
    clear hb4 hB4 hb5 HG0 HK
    have q0 : ∀ o1 o2 o3, (((w5.alloc o1).alloc o2).alloc o3).cell? ⟨w3.heap.size, 0, none⟩ = some (.int .i64 bd) := fun o1 o2 o3 => (blk_old (blk_old (blk_old hB5))).cell rfl
    have q1 : ∀ o1 o2 o3, (((w5.alloc o1).alloc o2).alloc o3).cell? ⟨w3.heap.size, 1, none⟩ = some (.int .i64 bn) := fun o1 o2 o3 => (blk_old (blk_old (blk_old hB5))).cell rfl
    have q2 : ∀ o1 o2 o3, (((w5.alloc o1).alloc o2).alloc o3).cell? ⟨w3.heap.size, 2, none⟩ = some (.int .i64 ba) := fun o1 o2 o3 => (blk_old (blk_old (blk_old hB5))).cell rfl
    have q3 : ∀ o1 o2 o3, (((w5.alloc o1).alloc o2).alloc o3).cell? ⟨w3.heap.size, 3, none⟩ = some (.int .i64 bw) := fun o1 o2 o3 => (blk_old (blk_old (blk_old hB5))).cell rfl
    have r0 : ∀ o2 o3 o4, ((((w5.alloc (.cells #[.int .i64 (bd - 1), .int .i64 bn, .int .i64 ba, .int .i64 bw] 29)).alloc o2).alloc o3).alloc o4).cell? ⟨w5.heap.size, 0, none⟩ = some (.int .i64 (bd - 1)) := fun o2 o3 o4 => (blk_old (blk_old (blk_old (blk_new w5 _ _)))).cell rfl
    have r1 : ∀ o2 o3 o4, ((((w5.alloc (.cells #[.int .i64 (bd - 1), .int .i64 bn, .int .i64 ba, .int .i64 bw] 29)).alloc o2).alloc o3).alloc o4).cell? ⟨w5.heap.size, 1, none⟩ = some (.int .i64 bn) := fun o2 o3 o4 => (blk_old (blk_old (blk_old (blk_new w5 _ _)))).cell rfl
    have r2 : ∀ o2 o3 o4, ((((w5.alloc (.cells #[.int .i64 (bd - 1), .int .i64 bn, .int .i64 ba, .int .i64 bw] 29)).alloc o2).alloc o3).alloc o4).cell? ⟨w5.heap.size, 2, none⟩ = some (.int .i64 ba) := fun o2 o3 o4 => (blk_old (blk_old (blk_old (blk_new w5 _ _)))).cell rfl
    have r3 : ∀ o2 o3 o4, ((((w5.alloc (.cells #[.int .i64 (bd - 1), .int .i64 bn, .int .i64 ba, .int .i64 bw] 29)).alloc o2).alloc o3).alloc o4).cell? ⟨w5.heap.size, 3, none⟩ = some (.int .i64 bw) := fun o2 o3 o4 => (blk_old (blk_old (blk_old (blk_new w5 _ _)))).cell rfl
    go_wp2_with fail
    clear q0 q1 q2 q3 r0 r1 r2 r3 l0 l1 l2 l3 hB5
    have hb6 : But [] w5 ((((w5.alloc (.cells #[.int .i64 (bd - 1), .int .i64 bn, .int .i64 ba, .int .i64 bw] 29)).alloc (.cells #[.int .i64 bd, .int .i64 (bn - 1), .int .i64 ba, .int .i64 bw] 29)).alloc (.cells #[.int .i64 bd, .int .i64 bn, .int .i64 (ba - 1), .int .i64 bw] 29)).alloc (.cells #[.int .i64 bd, .int .i64 bn, .int .i64 ba, .int .i64 (bw - 1)] 29)) := (((alloc_but _ _).alloc _).alloc _).alloc _
    have hS0 : Blk ((((w5.alloc (.cells #[.int .i64 (bd - 1), .int .i64 bn, .int .i64 ba, .int .i64 bw] 29)).alloc (.cells #[.int .i64 bd, .int .i64 (bn - 1), .int .i64 ba, .int .i64 bw] 29)).alloc (.cells #[.int .i64 bd, .int .i64 bn, .int .i64 (ba - 1), .int .i64 bw] 29)).alloc (.cells #[.int .i64 bd, .int .i64 bn, .int .i64 ba, .int .i64 (bw - 1)] 29)) (w5.heap.size) #[.int .i64 (bd - 1), .int .i64 bn, .int .i64 ba, .int .i64 bw] 29 := by repeat (first | exact blk_at (by simp) | apply blk_old)
    have hS1 : Blk ((((w5.alloc (.cells #[.int .i64 (bd - 1), .int .i64 bn, .int .i64 ba, .int .i64 bw] 29)).alloc (.cells #[.int .i64 bd, .int .i64 (bn - 1), .int .i64 ba, .int .i64 bw] 29)).alloc (.cells #[.int .i64 bd, .int .i64 bn, .int .i64 (ba - 1), .int .i64 bw] 29)).alloc (.cells #[.int .i64 bd, .int .i64 bn, .int .i64 ba, .int .i64 (bw - 1)] 29)) (w5.heap.size + 1) #[.int .i64 bd, .int .i64 (bn - 1), .int .i64 ba, .int .i64 bw] 29 := by repeat (first | exact blk_at (by simp) | apply blk_old)
    have hS2 : Blk ((((w5.alloc (.cells #[.int .i64 (bd - 1), .int .i64 bn, .int .i64 ba, .int .i64 bw] 29)).alloc (.cells #[.int .i64 bd, .int .i64 (bn - 1), .int .i64 ba, .int .i64 bw] 29)).alloc (.cells #[.int .i64 bd, .int .i64 bn, .int .i64 (ba - 1), .int .i64 bw] 29)).alloc (.cells #[.int .i64 bd, .int .i64 bn, .int .i64 ba, .int .i64 (bw - 1)] 29)) (w5.heap.size + 1 + 1) #[.int .i64 bd, .int .i64 bn, .int .i64 (ba - 1), .int .i64 bw] 29 := by repeat (first | exact blk_at (by simp) | apply blk_old)
    have hS3 : Blk ((((w5.alloc (.cells #[.int .i64 (bd - 1), .int .i64 bn, .int .i64 ba, .int .i64 bw] 29)).alloc (.cells #[.int .i64 bd, .int .i64 (bn - 1), .int .i64 ba, .int .i64 bw] 29)).alloc (.cells #[.int .i64 bd, .int .i64 bn, .int .i64 (ba - 1), .int .i64 bw] 29)).alloc (.cells #[.int .i64 bd, .int .i64 bn, .int .i64 ba, .int .i64 (bw - 1)] 29)) (w5.heap.size + 1 + 1 + 1) #[.int .i64 bd, .int .i64 bn, .int .i64 ba, .int .i64 (bw - 1)] 29 := by repeat (first | exact blk_at (by simp) | apply blk_old)
    refine Calls.mono (load_any s ⟨bd - 1, bn, ba, bw⟩ hs _) ?_
    intro e w6 hp
    rw [HGD.out] at hp
    obtain ⟨rfl, hc0, _⟩ := hp
    have hS0_0 := hc0.blk hS0 (by simp)
    have hS1_0 := hc0.blk hS1 (by simp)
    have hS2_0 := hc0.blk hS2 (by simp)
    have hS3_0 := hc0.blk hS3 (by simp)
    have x00 := hS1_0.cell (i := 0) rfl
    have x01 := hS1_0.cell (i := 1) rfl
    have x02 := hS1_0.cell (i := 2) rfl
    have x03 := hS1_0.cell (i := 3) rfl
    clear HGD
    go_wp2_with fail
    refine Calls.mono (load_any s ⟨bd, bn - 1, ba, bw⟩ hs _) ?_
    intro e w7 hp
    rw [HGN.out] at hp
    obtain ⟨rfl, hc1, _⟩ := hp
    have hS0_1 := hc1.blk hS0_0 (by simp)
    have hS1_1 := hc1.blk hS1_0 (by simp)
    have hS2_1 := hc1.blk hS2_0 (by simp)
    have hS3_1 := hc1.blk hS3_0 (by simp)
    have x10 := hS2_1.cell (i := 0) rfl
    have x11 := hS2_1.cell (i := 1) rfl
    have x12 := hS2_1.cell (i := 2) rfl
    have x13 := hS2_1.cell (i := 3) rfl
    clear HGN
    go_wp2_with fail
    refine Calls.mono (load_any s ⟨bd, bn, ba - 1, bw⟩ hs _) ?_
    intro e w8 hp
    rw [HGA.out] at hp
    obtain ⟨rfl, hc2, _⟩ := hp
    have hS0_2 := hc2.blk hS0_1 (by simp)
    have hS1_2 := hc2.blk hS1_1 (by simp)
    have hS2_2 := hc2.blk hS2_1 (by simp)
    have hS3_2 := hc2.blk hS3_1 (by simp)
    have x20 := hS3_2.cell (i := 0) rfl
    have x21 := hS3_2.cell (i := 1) rfl
    have x22 := hS3_2.cell (i := 2) rfl
    have x23 := hS3_2.cell (i := 3) rfl
    clear HGA
    go_wp2_with fail
    refine Calls.mono (load_any s ⟨bd, bn, ba, bw - 1⟩ hs _) ?_
    intro e w9 hp
    rw [HGW.out] at hp
    obtain ⟨rfl, hc3, _⟩ := hp
    have hS0_3 := hc3.blk hS0_2 (by simp)
    have hS1_3 := hc3.blk hS1_2 (by simp)
    have hS2_3 := hc3.blk hS2_2 (by simp)
    have hS3_3 := hc3.blk hS3_2 (by simp)
    have HB : Hid (But [] w w9) := ((((HB5.out.trans hb6 (by simp)).trans hc0 (by simp)).trans hc1 (by simp)).trans hc2 (by simp)).trans hc3 (by simp)
    have y0 := hS0_3.cell (i := 0) rfl
    have y1 := hS1_3.cell (i := 1) rfl
    have y2 := hS2_3.cell (i := 2) rfl
    have y3 := hS3_3.cell (i := 3) rfl
    clear HGW HB3 HB5 hb6 hc0 hc1 hc2 hc3 hS0 hS1 hS2 hS3 hS0_0 hS0_1 hS0_2 hS0_3 hS1_0 hS1_1 hS1_2 hS1_3 hS2_0 hS2_1 hS2_2 hS2_3 hS3_0 hS3_1 hS3_2 hS3_3 x00 x01 x02 x03 x10 x11 x12 x13 x20 x21 x22 x23
    rcases HD.out with rfl | ⟨rfl, hd0⟩ <;> rcases HN.out with rfl | ⟨rfl, hn0⟩ <;> rcases HA.out with rfl | ⟨rfl, ha0⟩ <;> rcases HW.out with rfl | ⟨rfl, hw0⟩ <;> clear HD HN HA HW
    all_goals
      try rw [hd0] at y0
      try rw [hn0] at y1
      try rw [hw0] at y3
      try clear hd0
      try clear hn0
      try clear hw0
      go_wp2_with fail
      go_ret
      exact ⟨rfl, HB.out⟩

end Go.Proofs.YtkflkmmbakccoaaGreatDoor
