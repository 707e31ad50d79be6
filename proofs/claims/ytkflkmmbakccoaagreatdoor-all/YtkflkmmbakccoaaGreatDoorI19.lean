/- PARTS: L3. -/
import Derived.Test.YtkflkmmbakccoaaGreatDoorI18

/- WALKS: package grafterlaw: step. -/
namespace Go.Proofs.YtkflkmmbakccoaaGreatDoor
open Go.RowKit Go.Maps

set_option maxRecDepth 20000 in
set_option maxHeartbeats 40000000 in
theorem lstep_of {w0 : World} {wb : Nat} {ps : List (Nat × Nat)} {lv : Value} {w : World} (hW : WOk w0 wb ps lv w) (kd e n : Int) (hkd : kd ≤ 2) (he : -9223372036854775808 ≤ e) (he2 : e ≤ 9223372036854775807) (s : ByteArray) (B : Bud) (pa : Option Addr) (pn pc : Nat)
    (hld : ∀ {w1 : World}, WOk w0 wb ps lv w1 → Calls Tryz.prog 34 #[.pointer (some ⟨wb, 0, none⟩), .string s, budV B] w1 fun e w' => LPost w0 wb (ps.length + loadN s B) e w') (hn : ps.length + 1 ≤ 8000000000000) :
    Calls Tryz.prog 25 #[.pointer (some ⟨wb, 0, none⟩), stepV kd e n s B (.slice pa pn pc)] w fun r w' => LPost w0 wb (ps.length + stepN kd s B) r w' := by
  have hb0 : But [] w (w.alloc (.cells #[.int .i64 kd, .int .i64 e, .int .i64 n, .string s, .int .i64 B.depth, .int .i64 B.nodes, .int .i64 B.anchors, .int .i64 B.weight, .slice pa pn pc] 56)) := alloc_but _ _
  have hB0 : Blk (w.alloc (.cells #[.int .i64 kd, .int .i64 e, .int .i64 n, .string s, .int .i64 B.depth, .int .i64 B.nodes, .int .i64 B.anchors, .int .i64 B.weight, .slice pa pn pc] 56)) w.heap.size #[.int .i64 kd, .int .i64 e, .int .i64 n, .string s, .int .i64 B.depth, .int .i64 B.nodes, .int .i64 B.anchors, .int .i64 B.weight, .slice pa pn pc] 56 := blk_new _ _ _
  have hW1 := hW.still hb0
  have HLD : Hid _ := @hld
  clear hld
  by_cases hk1 : kd = 1
  · have HN : Hid (stepN kd s B = loadN s B) := by unfold Hid stepN; rw [if_pos hk1]
    have HL : Hid _ := HLD.out hW1
    subst hk1
    go_enter Tryz.func25, Tryz.ntmps25
    go_wp2_with fail
    refine Calls.mono HL.out ?_
    rintro r w1 ⟨rfl, ps', lv', hW2, hl2⟩
    go_wp2_with fail
    go_ret
    exact ⟨rfl, ps', lv', hW2, by rw [HN.out]; exact hl2⟩
  · have HN : Hid (stepN kd s B = 0) := by unfold Hid stepN; rw [if_neg hk1]
    have hb1 : (kd == 1) = false := by simp [hk1]
    obtain ⟨la, lcap, hlv, hlc⟩ := own_shape hW1.row
    subst hlv
    have c0 : (w.alloc (.cells #[.int .i64 kd, .int .i64 e, .int .i64 n, .string s, .int .i64 B.depth, .int .i64 B.nodes, .int .i64 B.anchors, .int .i64 B.weight, .slice pa pn pc] 56)).cell? ⟨wb, 0, none⟩ = some (.slice la ps.length lcap) := hW1.blk.cell rfl
    by_cases hz : ps.length = 0
    · have hzb : ((ps.length : Int) == 0) = true := by simp [hz]
      go_enter Tryz.func25, Tryz.ntmps25
      go_wp2_with fail
      go_ret
      exact ⟨rfl, ps, _, hW1, by rw [HN.out]; rfl⟩
    · have hzb : ((ps.length : Int) == 0) = false := beq_eq_false_iff_ne.2 (by omega)
      have hpos : 0 < ps.length := by omega
      obtain ⟨lb, cap', e2, _, hcells⟩ := hW1.pair hpos
      obtain ⟨rfl, rfl⟩ : la = some ⟨lb, 0, none⟩ ∧ lcap = cap' := by simpa using e2
      clear e2
      have hc0 : (w.alloc (.cells #[.int .i64 kd, .int .i64 e, .int .i64 n, .string s, .int .i64 B.depth, .int .i64 B.nodes, .int .i64 B.anchors, .int .i64 B.weight, .slice pa pn pc] 56)).cell? ⟨w.heap.size, 0, none⟩ = some (.int .i64 kd) := hB0.cell rfl
      have HC : Hid _ := hcells
      obtain ⟨wA, HWA⟩ : ∃ wA, Hid (wA = w.alloc (.cells #[.int .i64 kd, .int .i64 e, .int .i64 n, .string s, .int .i64 B.depth, .int .i64 B.nodes, .int .i64 B.anchors, .int .i64 B.weight, .slice pa pn pc] 56)) := ⟨_, (rfl : w.alloc (.cells #[.int .i64 kd, .int .i64 e, .int .i64 n, .string s, .int .i64 B.depth, .int .i64 B.nodes, .int .i64 B.anchors, .int .i64 B.weight, .slice pa pn pc] 56) = w.alloc (.cells #[.int .i64 kd, .int .i64 e, .int .i64 n, .string s, .int .i64 B.depth, .int .i64 B.nodes, .int .i64 B.anchors, .int .i64 B.weight, .slice pa pn pc] 56))⟩
      go_enter Tryz.func25, Tryz.ntmps25
      go_upto_region 5 with fail
      rw [← HWA.out] at hW1 HC hB0 c0 hc0 ⊢
      have hbPZ : But [] wA (wA.alloc (.cells #[.pointer none, .pointer none] 72)) := alloc_but _ _
      have hBP : Blk (wA.alloc (.cells #[.pointer none, .pointer none] 72)) wA.heap.size #[.pointer none, .pointer none] 72 := blk_new _ _ _
      have e0 : wA.cell? ⟨w.heap.size, 1, none⟩ = some (.int .i64 e) := hB0.cell rfl
      have hBs := hbPZ.blk hB0 (by simp)
      have e1 : (wA.alloc (.cells #[.pointer none, .pointer none] 72)).cell? ⟨w.heap.size, 1, none⟩ = some (.int .i64 e) := hBs.cell rfl
      have c1 : (wA.alloc (.cells #[.pointer none, .pointer none] 72)).cell? ⟨wb, 0, none⟩ = some (.slice (some ⟨lb, 0, none⟩) ps.length lcap) := (hW1.still hbPZ).blk.cell rfl
      have q0 := hBP.cell (i := 0) rfl
      have q1 := hBP.cell (i := 1) rfl
      have qf0 := hBP.free 0
      have qf1 := hBP.free 1
      have HW1 : Hid _ := hW1
      clear hW1 HWA hb0 hcells hBs
      go_cut [5] from 12 to 40 (fun v wc => ∃ gb, v = .pointer (some ⟨gb, 0, none⟩) ∧ Picked wA ps gb wc)
      case first =>
        go_region_with ((go_at_call 35; refine (lpick_any e ps.length hpos (by omega) he he2 _).mono ?_; rintro r w' ⟨j, hj, rfl, hww⟩; have hww2 := hww.symm; clear hww; subst hww2; obtain ⟨a0, a1⟩ := HC.out _ (But.refl [] wA) j hj; obtain ⟨b0, b1⟩ := HC.out _ hbPZ j hj))
        all_goals
          go_wp2_with fail
          go_meet
          case rel =>
            refine ⟨_, rfl, ps[j], List.getElem_mem hj, ?_, ?_⟩
            · exact (blk_new _ _ _).drew
            · repeat (first | exact But.refl _ _ | refine But.drew ?_ | refine But.alloc ?_ _ | refine But.setCell ?_ (.inr (by simp)) _)
      case rest =>
        obtain ⟨W, hWW⟩ : ∃ W, W = wc := ⟨wc, rfl⟩
        subst hWW
        obtain ⟨gb, rfl, p, hp, hBg, hbg⟩ := hcut
        have hW2 := HW1.out.still hbg
        obtain ⟨E, t, nv, rows, R, K, k, nv2, mv2, rows2, names2, hI, hrow, hd, hy, hRM, hRS, hrow2, hWh⟩ := hW2.docs p hp
        have hBs := hbg.blk hB0 (by simp)
        have s0 : W.cell? ⟨w.heap.size, 0, none⟩ = some (.int .i64 kd) := hBs.cell rfl
        have g0 : W.cell? ⟨gb, 0, none⟩ = some (.pointer (some ⟨p.1, 0, none⟩)) := hBg.cell rfl
        have HW2 : Hid _ := hW2
        have HY : Hid _ := hy
        clear hWh e0 e1 c0 c1 hc0 q0 q1 qf0 qf1 hBP hbPZ HC hB0 hBs HW1 hW2 hy
        by_cases hk2 : kd = 2
        · have HM1 : Hid _ := dMeasure_any E t nv rows W hI hrow p.1 hd
          subst hk2
          go_upto_region 9 with (go_at_call 15; refine Calls.mono HM1.out ?_; rintro r w3 ⟨rfl, hb3⟩)
          refine name_world fun W4 hW4 => ?_
          have hb4 : But [] W W4 := by
            rw [hW4.out]
            repeat (first | exact hb3 | refine But.drew ?_ | refine But.alloc ?_ _ | refine But.setCell ?_ (.inr hb3.size) _)
          have hB4 : Blk W4 w3.heap.size #[.int .i64 (measM t).depth, .int .i64 (measM t).nodes, .int .i64 (measM t).anchors, .int .i64 (measM t).weight] 29 := by
            rw [hW4.out]
            first | exact blk_new _ _ _ | exact bud_blk (blk_new _ _ _)
          have hBg4 := hb4.blk hBg (by simp)
          have hRM4 := hRM.still hb4
          have HM2 : Hid _ := fun (X : World) (hX : But [] W4 X) => rMeasure_any (hRM4.still hX) hRS rfl hrow2
          have m0 := hB4.cell (i := 0) rfl
          have m1 := hB4.cell (i := 1) rfl
          have m2 := hB4.cell (i := 2) rfl
          have m3 := hB4.cell (i := 3) rfl
          have g1 : W4.cell? ⟨gb, 1, none⟩ = some (.pointer (some ⟨R.b, 0, none⟩)) := by rw [← HY.out]; exact hBg4.cell rfl
          have HB4 : Hid (Blk W4 w3.heap.size #[.int .i64 (measM t).depth, .int .i64 (measM t).nodes, .int .i64 (measM t).anchors, .int .i64 (measM t).weight] 29) := hB4
          have HBB : Hid (But [] W W4) := hb4
          clear hW4 HM1 hI hrow hd hRM hRS hb3 s0 g0 hBg hBg4 hRM4 hB4 hb4
          go_region_with ((go_at_call 36; refine (HM2.out _ (But.refl [] W4).drew).mono ?_; rintro r w5 ⟨rfl, hb5⟩; have n0 := (But.blk hb5 HB4.out.drew (by simp)).cell (i := 0) rfl; have n1 := (But.blk hb5 HB4.out.drew (by simp)).cell (i := 1) rfl; have n2 := (But.blk hb5 HB4.out.drew (by simp)).cell (i := 2) rfl; have n3 := (But.blk hb5 HB4.out.drew (by simp)).cell (i := 3) rfl))
          all_goals
            go_wp2_with fail
            go_ret
            refine ⟨ret_bool ?_, ps, _, HW2.out.still ((HBB.out.trans (But.refl [] W4).drew (by simp)).trans hb5 (by simp)), by rw [HN.out]; rfl⟩
            simp
        · have b2 : (kd == 2) = false := by simp [hk2]
          have b3 : (kd == 3) = false := beq_eq_false_iff_ne.2 (by omega)
          have b4 : (kd == 4) = false := beq_eq_false_iff_ne.2 (by omega)
          have b5 : (kd == 5) = false := beq_eq_false_iff_ne.2 (by omega)
          clear hI hrow hd hRM hRS
          go_wp2_with fail
          go_ret
          exact ⟨rfl, ps, _, HW2.out, by rw [HN.out]; rfl⟩

end Go.Proofs.YtkflkmmbakccoaaGreatDoor
