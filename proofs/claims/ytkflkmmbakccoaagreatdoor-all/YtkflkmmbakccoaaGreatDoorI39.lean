/- PARTS: T3. -/
import Derived.Test.YtkflkmmbakccoaaGreatDoorI18
import Derived.Test.YtkflkmmbakccoaaGreatDoorI38

/- WALKS: package grafterlaw: step, the kinds 3, 4 and 5. -/
namespace Go.Proofs.YtkflkmmbakccoaaGreatDoor
open Go.RowKit Go.Maps

theorem unfV_shape (nodes : List NodeV) (most : Int) : ∃ (x : ByteArray) (n : Int), unfV nodes most = .tuple #[.string x, .int .i64 n] := by
  unfold unfV
  split
  · exact ⟨_, _, rfl⟩
  · exact ⟨_, _, rfl⟩

set_option maxRecDepth 20000 in
set_option maxHeartbeats 40000000 in
theorem lstepT_of {w0 : World} {wb : Nat} {ps : List (Nat × Nat)} {lv : Value} {w : World} (hW : WOk w0 wb ps lv w) (kd e n : Int) (hkd : kd = 3 ∨ kd = 4 ∨ kd = 5) (hn5 : kd = 5 → -9223372036854775808 ≤ n ∧ n ≤ 9223372036854775807) (he : -9223372036854775808 ≤ e) (he2 : e ≤ 9223372036854775807) (s : ByteArray) (B : Bud) (pa : Option Addr) (pn pc : Nat)
    (N0 : Nat) (hT : Tabs N0 w) (hN0 : N0 ≤ w.heap.size) (path : List ByteArray) (hP : PathOk w (.slice pa pn pc) path) (hn : ps.length + 1 ≤ 8000000000000) :
    Calls Tryz.prog 25 #[.pointer (some ⟨wb, 0, none⟩), stepV kd e n s B (.slice pa pn pc)] w fun r w' => LPost w0 wb ps.length r w' := by
  have hb0 : But [] w (w.alloc (.cells #[.int .i64 kd, .int .i64 e, .int .i64 n, .string s, .int .i64 B.depth, .int .i64 B.nodes, .int .i64 B.anchors, .int .i64 B.weight, .slice pa pn pc] 56)) := alloc_but _ _
  have hB0 : Blk (w.alloc (.cells #[.int .i64 kd, .int .i64 e, .int .i64 n, .string s, .int .i64 B.depth, .int .i64 B.nodes, .int .i64 B.anchors, .int .i64 B.weight, .slice pa pn pc] 56)) w.heap.size #[.int .i64 kd, .int .i64 e, .int .i64 n, .string s, .int .i64 B.depth, .int .i64 B.nodes, .int .i64 B.anchors, .int .i64 B.weight, .slice pa pn pc] 56 := blk_new _ _ _
  have hW1 := hW.still hb0
  have HT : Hid (Tabs N0 w) := hT
  have HPT : Hid (PathOk w (.slice pa pn pc) path) := hP
  have HB0 : Hid (But [] w (w.alloc (.cells #[.int .i64 kd, .int .i64 e, .int .i64 n, .string s, .int .i64 B.depth, .int .i64 B.nodes, .int .i64 B.anchors, .int .i64 B.weight, .slice pa pn pc] 56))) := hb0
  clear hT hP
  have hk1 : kd ≠ 1 := by omega
  have hb1 : (kd == 1) = false := by simp [hk1]
  obtain ⟨la, lcap, hlv, hlc⟩ := own_shape hW1.row
  subst hlv
  have c0 : (w.alloc (.cells #[.int .i64 kd, .int .i64 e, .int .i64 n, .string s, .int .i64 B.depth, .int .i64 B.nodes, .int .i64 B.anchors, .int .i64 B.weight, .slice pa pn pc] 56)).cell? ⟨wb, 0, none⟩ = some (.slice la ps.length lcap) := hW1.blk.cell rfl
  by_cases hz : ps.length = 0
  · have hzb : ((ps.length : Int) == 0) = true := by simp [hz]
    go_enter Tryz.func25, Tryz.ntmps25
    go_wp2_with fail
    go_ret
    exact ⟨rfl, ps, _, hW1, rfl⟩
  · have hzb : ((ps.length : Int) == 0) = false := beq_eq_false_iff_ne.2 (by omega)
    have hpos : 0 < ps.length := by omega
    obtain ⟨lb, cap', e2, _, hcells⟩ := hW1.pair hpos
    obtain ⟨rfl, rfl⟩ : la = some ⟨lb, 0, none⟩ ∧ lcap = cap' := by simpa using e2
    clear e2
    have hc0 : (w.alloc (.cells #[.int .i64 kd, .int .i64 e, .int .i64 n, .string s, .int .i64 B.depth, .int .i64 B.nodes, .int .i64 B.anchors, .int .i64 B.weight, .slice pa pn pc] 56)).cell? ⟨w.heap.size, 0, none⟩ = some (.int .i64 kd) := hB0.cell rfl
    have HC : Hid _ := hcells
    obtain ⟨wA, HWA⟩ : ∃ wA, Hid (wA = w.alloc (.cells #[.int .i64 kd, .int .i64 e, .int .i64 n, .string s, .int .i64 B.depth, .int .i64 B.nodes, .int .i64 B.anchors, .int .i64 B.weight, .slice pa pn pc] 56)) := ⟨_, (rfl : w.alloc (.cells #[.int .i64 kd, .int .i64 e, .int .i64 n, .string s, .int .i64 B.depth, .int .i64 B.nodes, .int .i64 B.anchors, .int .i64 B.weight, .slice pa pn pc] 56) = w.alloc (.cells #[.int .i64 kd, .int .i64 e, .int .i64 n, .string s, .int .i64 B.depth, .int .i64 B.nodes, .int .i64 B.anchors, .int .i64 B.weight, .slice pa pn pc] 56))⟩
    go_enter Tryz.func25, Tryz.ntmps25
    go_upto_region 5 with fail
    rw [← HWA.out] at hW1 HC hB0 c0 hc0 HB0 ⊢
    have hbPZ : But [] wA (wA.alloc (.cells #[.pointer none, .pointer none] 72)) := alloc_but _ _
    have hBP : Blk (wA.alloc (.cells #[.pointer none, .pointer none] 72)) wA.heap.size #[.pointer none, .pointer none] 72 := blk_new _ _ _
    have e0 : wA.cell? ⟨w.heap.size, 1, none⟩ = some (.int .i64 e) := hB0.cell rfl
    have hBs := hbPZ.blk hB0 (by simp)
    have e1 : (wA.alloc (.cells #[.pointer none, .pointer none] 72)).cell? ⟨w.heap.size, 1, none⟩ = some (.int .i64 e) := hBs.cell rfl
    have c1 : (wA.alloc (.cells #[.pointer none, .pointer none] 72)).cell? ⟨wb, 0, none⟩ = some (.slice (some ⟨lb, 0, none⟩) ps.length lcap) := (hW1.still hbPZ).blk.cell rfl
    have q0 := hBP.cell (i := 0) rfl
    have q1 := hBP.cell (i := 1) rfl
    have qf0 := hBP.free 0
    have qf1 := hBP.free 1
    have HW1 : Hid _ := hW1
    clear hW1 HWA hb0 hcells hBs
    go_cut [5] from 12 to 40 (fun v wc => ∃ gb, v = .pointer (some ⟨gb, 0, none⟩) ∧ Picked wA ps gb wc)
    case first =>
      go_region_with ((go_at_call 35; refine (lpick_any e ps.length hpos (by omega) he he2 _).mono ?_; rintro r w' ⟨j, hj, rfl, hww⟩; have hww2 := hww.symm; clear hww; subst hww2; obtain ⟨a0, a1⟩ := HC.out _ (But.refl [] wA) j hj; obtain ⟨b0, b1⟩ := HC.out _ hbPZ j hj))
      all_goals
        go_wp2_with fail
        go_meet
        case rel =>
          refine ⟨_, rfl, ps[j], List.getElem_mem hj, ?_, ?_⟩
          · exact (blk_new _ _ _).drew
          · repeat (first | exact But.refl _ _ | refine But.drew ?_ | refine But.alloc ?_ _ | refine But.setCell ?_ (.inr (by simp)) _)
    case rest =>
      obtain ⟨W, hWW⟩ : ∃ W, W = wc := ⟨wc, rfl⟩
      subst hWW
      obtain ⟨gb, rfl, p, hp, hBg, hbg⟩ := hcut
      have hW2 := HW1.out.still hbg
      obtain ⟨E, t, nv, rows, R, K, k, nv2, mv2, rows2, names2, hI, hrow, hd, hy, hRM, hRS, hrow2, hWh⟩ := hW2.docs p hp
      have hBs := hbg.blk hB0 (by simp)
      have s0 : W.cell? ⟨w.heap.size, 0, none⟩ = some (.int .i64 kd) := hBs.cell rfl
      have s8 : W.cell? ⟨w.heap.size, 8, none⟩ = some (.slice pa pn pc) := hBs.cell rfl
      have s2 : W.cell? ⟨w.heap.size, 2, none⟩ = some (.int .i64 n) := hBs.cell rfl
      have HBS : Hid (Blk W w.heap.size #[.int .i64 kd, .int .i64 e, .int .i64 n, .string s, .int .i64 B.depth, .int .i64 B.nodes, .int .i64 B.anchors, .int .i64 B.weight, .slice pa pn pc] 56) := hBs
      have g0 : W.cell? ⟨gb, 0, none⟩ = some (.pointer (some ⟨p.1, 0, none⟩)) := hBg.cell rfl
      have g1 : W.cell? ⟨gb, 1, none⟩ = some (.pointer (some ⟨R.b, 0, none⟩)) := by rw [← hy]; exact hBg.cell rfl
      have HW2 : Hid (WOk w0 wb ps (.slice (some ⟨lb, 0, none⟩) ps.length lcap) W) := hW2
      have hwW : But [] w W := HB0.out.trans hbg (by simp)
      have HWW : Hid (But [] w W) := hwW
      have HBG : Hid (Blk W gb #[.pointer (some ⟨p.1, 0, none⟩), .pointer (some ⟨R.b, 0, none⟩)] 72) := by rw [← hy]; exact hBg
      have HTW : Hid (Tabs N0 W) := HT.out.below (hwW.below hN0 (by simp))
      have hNW : N0 ≤ W.heap.size := Nat.le_trans hN0 hwW.size
      have HRW : Hid (RSame t.nodes rows2) := rsame_of hRS hWh
      have HGW : Hid (RG W.heap.size R.b nv2 rows2 R.base W) := hRM.toRG
      clear e0 e1 c0 c1 hc0 q0 q1 qf0 qf1 hBP hbPZ HC hB0 hBs HW1 hW2 hy hBg hbg hwW
      rcases hkd with hk3 | hk4 | hk5
      · have HM1 : Hid _ := dPlain_any E t nv rows W hI hrow hWh N0 HTW.out hNW p.1 hd
        have HM2 : Hid (∀ X, But [] W X → _) := fun X hX => rPlain_any HRW.out hWh hrow2 X (HGW.out.below (hX.below (Nat.le_refl _) (by simp)))
        subst hk3
        clear hI hd hRM hRS
        go_wp2_with fail
        refine Calls.mono HM1.out ?_
        rintro r w3 ⟨rfl, hb3⟩
        have g13 : w3.cell? ⟨gb, 1, none⟩ = some (.pointer (some ⟨R.b, 0, none⟩)) := (hb3.blk HBG.out (by simp)).cell rfl
        have HB3 : Hid (But [] W w3) := hb3
        clear g0 g1 s0 s8 hb3
        go_wp2_with fail
        refine Calls.mono (HM2.out w3 HB3.out) ?_
        rintro r w4 ⟨x, rfl, hx, hb4⟩
        have hxx : (⟨(plainM t.nodes 0).toArray⟩ : ByteArray) = x := hx.symm
        have HB4 : Hid (But [] w3 w4) := hb4
        clear hx hb4
        rw [hxx]
        clear hxx
        have hbx : (x.toList == x.toList) = true := by simp
        go_wp2_with fail
        go_ret
        exact ⟨ret_bool (by simp), ps, _, HW2.out.still (HB3.out.trans HB4.out (by simp)), rfl⟩
      · have HM1 : Hid _ := lgets_any E t nv rows W hI hrow hWh N0 HTW.out hNW p.1 hd HRW.out hrow2 HGW.out (.slice pa pn pc) path (HPT.out.still HWW.out)
        subst hk4
        clear hI hd hRM hRS
        go_wp2_with fail
        refine Calls.mono HM1.out ?_
        rintro r w3 ⟨rfl, hb3⟩
        have HB3 : Hid (But [] W w3) := hb3
        clear hb3
        go_wp2_with fail
        go_ret
        exact ⟨rfl, ps, _, HW2.out.still HB3.out, rfl⟩
      · obtain ⟨ux, ue, huv⟩ := unfV_shape t.nodes (mostM n)
        have HM1 : Hid _ := dUnfold_any E t nv rows W hI hrow hWh N0 HTW.out hNW p.1 hd n (hn5 hk5).1 (hn5 hk5).2
        have HM2 : Hid (∀ X, But [] W X → _) := fun X hX => rUnfold_any HRW.out hWh hrow2 X (HGW.out.below (hX.below (Nat.le_refl _) (by simp))) n (hn5 hk5).1 (hn5 hk5).2
        rw [huv] at HM1 HM2
        subst hk5
        clear hI hd hRM hRS huv hn5
        go_wp2_with fail
        refine Calls.mono HM1.out ?_
        rintro r w3 ⟨rfl, hb3⟩
        have g13 : w3.cell? ⟨gb, 1, none⟩ = some (.pointer (some ⟨R.b, 0, none⟩)) := (hb3.blk HBG.out (by simp)).cell rfl
        have s23 : w3.cell? ⟨w.heap.size, 2, none⟩ = some (.int .i64 n) := (hb3.blk HBS.out (by simp)).cell rfl
        have HB3 : Hid (But [] W w3) := hb3
        clear g0 g1 s0 s8 s2 hb3
        go_wp2_with fail
        refine Calls.mono (HM2.out w3 HB3.out) ?_
        rintro r w4 ⟨rfl, hb4⟩
        have HB4 : Hid (But [] w3 w4) := hb4
        clear hb4
        have hbx : (ux.toList == ux.toList) = true := by simp
        go_wp2_with (go_at_call 40; refine (lnum_any _ _).mono ?_; rintro e w' ⟨rfl, hww⟩; have hww2 := hww.symm; clear hww; subst hww2)
        go_ret
        exact ⟨ret_bool (by simp), ps, _, HW2.out.still (HB3.out.trans HB4.out (by simp)), rfl⟩

end Go.Proofs.YtkflkmmbakccoaaGreatDoor
