/- PARTS: K10, S0, S0b. -/
import Derived.Test.YtkflkmmbakccoaaGreatDoorJ19
import Derived.Test.YtkflkmmbakccoaaGreatDoorJ29
import Derived.Test.YtkflkmmbakccoaaGreatDoorX1
import Derived.ChangeMaps5

/- WALKS: package grafterkeep: Again. -/
namespace Go.Proofs.YtkflkmmbakccoaaGreatDoor
open Go.RowKit Go.Maps

theorem path_nil (w : World) : PathOk w (.slice none 0 0) [] := ⟨⟨none, 0, rfl, Nat.le_refl _, fun h => absurd h (by simp)⟩, (fun x hx => by cases hx), by simp⟩

set_option maxRecDepth 20000 in
set_option maxHeartbeats 4000000 in
theorem kAgain_any (s : ByteArray) (hs : s.size ≤ 9223372036854775807) (w : World) (N0 : Nat) (hT : Tabs N0 w) (hN0 : N0 ≤ w.heap.size)
    (HK : Hid (Calls Tryz.prog 13 #[] w fun e w' => e = .returned (.bool true) ∧ But [] w w')) :
    Calls Tryz.prog 9 #[.string s] w fun e w' => e = .returned (.bool true) ∧ But [] w w' := by
  have HT : Hid _ := hT
  clear hT
  go_enter Tryz.func9, Tryz.ntmps9
  go_wp2_with fail
  refine Calls.mono HK.out ?_
  rintro e w1 ⟨rfl, hb1⟩
  have HR : Hid _ := kRead_any s hs w1
  go_wp2_with fail
  refine Calls.mono HR.out ?_
  intro e w2 hp
  cases hm : loadM s maxB with
  | bad er pl =>
    rw [hm] at hp
    obtain ⟨rfl, hb2⟩ := hp
    clear hm HR
    go_wp2_with fail
    go_ret
    exact ⟨rfl, hb1.trans hb2 (by simp)⟩
  | ok u t =>
    rw [hm] at hp
    obtain ⟨E, nv, rows, d, rfl, hI, hr, hd, hb2⟩ := hp
    obtain ⟨hWh, hpos, hh0, hnm, hwalk, hdep, hlenN, hanc⟩ := load_all hm
    obtain ⟨_, _, _, hwt⟩ := load_ok hm
    have hB2 : But [] w w2 := hb1.trans hb2 (by simp)
    obtain ⟨z, hz⟩ : ∃ z : ByteArray, z = ⟨(plainM t.nodes 0).toArray⟩ := ⟨_, rfl⟩
    have HM : Hid (∀ W, But [] w2 W → Calls Tryz.prog 15 #[.pointer (some ⟨d, 0, none⟩)] W fun e w' => e = .returned (budV (measM t)) ∧ But [] W w') := fun W hW => dMeasure_any E t nv rows W (hI.frame hW (by simp)) hr d (hW.blk hd (by simp))
    have HP : Hid (∀ W, But [] w2 W → Calls Tryz.prog 19 #[.pointer (some ⟨d, 0, none⟩)] W fun e w' => e = .returned (.string z) ∧ But [] W w') := fun W hW => by
      have := dPlain_any E t nv rows W (hI.frame hW (by simp)) hr hWh N0 (HT.out.w.below ((hB2.trans hW (by simp)).below hN0 (by simp))) (Nat.le_trans hN0 (hB2.trans hW (by simp)).size) d (hW.blk hd (by simp))
      rw [← hz] at this
      exact this
    have HG : Hid (∀ W, But [] w2 W → Calls Tryz.prog 21 #[.pointer (some ⟨d, 0, none⟩), .slice none 0 0] W fun e w' => e = .returned (.tuple #[.string z, .int .i64 0]) ∧ But [] W w') := fun W hW => by
      have := dGet_any E t nv rows W (hI.frame hW (by simp)) hr hWh N0 (HT.out.below ((hB2.trans hW (by simp)).below hN0 (by simp))) (Nat.le_trans hN0 (hB2.trans hW (by simp)).size) d (hW.blk hd (by simp)) (.slice none 0 0) [] (path_nil W)
      have e : getV t.nodes (getM t.nodes [] 0) = .tuple #[.string z, .int .i64 0] := by rw [hz]; rfl
      rw [e] at this
      exact this
    have HA : Hid (z.size ≤ 994 → ∃ t2, loadM z maxB = .ok () t2 ∧ t2.nodes = t.nodes ∧ t2.anchors ≤ t.anchors) := fun h => by
      obtain ⟨t2, e1, e2, e3⟩ := again_read hWh hpos hwalk (B := maxB) (by simp [maxB]) hdep hlenN (by omega)
      exact ⟨t2, load_of (by decide) (by omega) (by rw [hz]; exact e1) (by rw [e2]; exact hwt), e2, by omega⟩
    have HA2 : Hid (z.size ≤ 994 → ∃ t3, loadM (⟨#[10, 10]⟩ ++ z ++ ⟨#[32, 32, 10, 32]⟩) maxB = .ok () t3 ∧ t3.nodes = t.nodes) := fun h => by
      obtain ⟨t2, e1, e2, e3⟩ := again_read2 hWh hpos hwalk (B := maxB) (by simp [maxB]) hdep hlenN (by omega)
      have ee : (⟨#[10, 10]⟩ ++ z ++ ⟨#[32, 32, 10, 32]⟩ : ByteArray) = ⟨([10, 10] ++ (plainM t.nodes 0 ++ [32, 32, 10, 32])).toArray⟩ := by
        rw [hz]
        apply ByteArray.ext
        simp [ByteArray.data_append]
      refine ⟨t2, load_of (by decide) ?_ (by rw [ee]; exact e1) (by rw [e2]; exact hwt), e2⟩
      simp only [ByteArray.size_append]
      show 2 + z.size + 4 ≤ 1000
      omega
    have hme : measM t = ⟨(highOf t.nodes 0 : Int), (t.nodes.length : Int), (t.anchors : Int), (heavyOf t.nodes 0 : Int)⟩ := rfl
    rw [hme] at HM
    have HW : Hid _ := hWh
    have HZ : Hid (z = ⟨(plainM t.nodes 0).toArray⟩) := hz
    have HB2 : Hid _ := hB2
    have hzs : z.size ≤ 400000000 := by
      have := (plain_come hWh hpos).2.2
      rw [hz]
      simpa [ByteArray.size] using this
    clear hme hm HR hI hd hr hdep hb1 hb2 hz HK hwalk hlenN hanc hwt hnm hh0 hpos hWh hB2
    have HP2 : Hid _ := HP.out w2 (But.refl [] w2)
    clear HP
    go_wp2_with fail
    refine Calls.mono HP2.out ?_
    rintro e w3 ⟨rfl, hb3⟩
    clear HP2
    by_cases hz1 : 994 < z.size
    · go_wp2_with fail
      go_ret
      exact ⟨rfl, HB2.out.trans hb3 (by simp)⟩
    · obtain ⟨t2, a1, a2, a3⟩ := HA.out (by omega)
      obtain ⟨t3, c1, c2⟩ := HA2.out (by omega)
      have HL2 : Hid _ := a1
      have HL3 : Hid _ := c1
      have HN2 : Hid _ := a2
      have HN3 : Hid _ := c2
      have HR2 : Hid _ := kRead_any z (by omega) w3
      clear a1 a2 c1 c2 HA HA2
      go_wp2_with fail
      refine Calls.mono HR2.out ?_
      intro e w4 hp
      rw [HL2.out] at hp
      obtain ⟨E2, nv2, rows2, d2, rfl, hI2, hr2, hd2, hb4⟩ := hp
      have hs3 : (⟨#[10, 10]⟩ ++ z ++ ⟨#[32, 32, 10, 32]⟩ : ByteArray).size ≤ 9223372036854775807 := by
        simp only [ByteArray.size_append]
        show 2 + z.size + 4 ≤ _
        omega
      have HR3 : Hid _ := kRead_any (⟨#[10, 10]⟩ ++ z ++ ⟨#[32, 32, 10, 32]⟩) hs3 w4
      have hbw4 : But [] w w4 := (HB2.out.trans hb3 (by simp)).trans hb4 (by simp)
      have HME2 : Hid (∀ W, But [] w4 W → Calls Tryz.prog 15 #[.pointer (some ⟨d2, 0, none⟩)] W fun e w' => e = .returned (budV ⟨(highOf t.nodes 0 : Int), (t.nodes.length : Int), (t2.anchors : Int), (heavyOf t.nodes 0 : Int)⟩) ∧ But [] W w') := fun W hW => by
        have := dMeasure_any E2 t2 nv2 rows2 W (hI2.frame hW (by simp)) hr2 d2 (hW.blk hd2 (by simp))
        have e : measM t2 = ⟨(highOf t.nodes 0 : Int), (t.nodes.length : Int), (t2.anchors : Int), (heavyOf t.nodes 0 : Int)⟩ := by unfold measM; rw [HN2.out]
        rw [e] at this
        exact this
      have HP2 : Hid (∀ W, But [] w4 W → Calls Tryz.prog 19 #[.pointer (some ⟨d2, 0, none⟩)] W fun e w' => e = .returned (.string z) ∧ But [] W w') := fun W hW => by
        have := dPlain_any E2 t2 nv2 rows2 W (hI2.frame hW (by simp)) hr2 (by rw [HN2.out]; exact HW.out) N0 (HT.out.w.below ((hbw4.trans hW (by simp)).below hN0 (by simp))) (Nat.le_trans hN0 (hbw4.trans hW (by simp)).size) d2 (hW.blk hd2 (by simp))
        rw [HN2.out, ← HZ.out] at this
        exact this
      have HBw4 : Hid _ := hbw4
      clear HR2 HL2 hI2 hr2 hd2 hs3 hbw4 HN2
      go_wp2_with fail
      refine Calls.mono HR3.out ?_
      intro e w5 hp
      rw [HL3.out] at hp
      obtain ⟨E3, nv3, rows3, d3, rfl, hI3, hr3, hd3, hb5⟩ := hp
      have hbw5 : But [] w w5 := HBw4.out.trans hb5 (by simp)
      have hb25 : But [] w2 w5 := (hb3.trans hb4 (by simp)).trans hb5 (by simp)
      have HP3 : Hid (∀ W, But [] w5 W → Calls Tryz.prog 19 #[.pointer (some ⟨d3, 0, none⟩)] W fun e w' => e = .returned (.string z) ∧ But [] W w') := fun W hW => by
        have := dPlain_any E3 t3 nv3 rows3 W (hI3.frame hW (by simp)) hr3 (by rw [HN3.out]; exact HW.out) N0 (HT.out.w.below ((hbw5.trans hW (by simp)).below hN0 (by simp))) (Nat.le_trans hN0 (hbw5.trans hW (by simp)).size) d3 (hW.blk hd3 (by simp))
        rw [HN3.out, ← HZ.out] at this
        exact this
      have HBw5 : Hid _ := hbw5
      have HM5 : Hid _ := HM.out w5 hb25
      clear HR3 HL3 hI3 hr3 hd3 hbw5 HN3 HM HT hb3 HBw4 HB2
      generalize heavyOf t.nodes 0 = hv at *
      generalize highOf t.nodes 0 = hi at *
      generalize t.nodes.length = nn at *
      generalize t.anchors = an at *
      generalize t2.anchors = an2 at *
      clear HZ HW
      go_wp2_with fail
      refine Calls.mono HM5.out ?_
      rintro e w6 ⟨rfl, hb6⟩
      have hb56 : But [] w5 (w6.alloc (.cells #[.int .i64 (hi : Int), .int .i64 (nn : Int), .int .i64 (an : Int), .int .i64 (hv : Int)] 29)) := hb6.alloc _
      have hB6 : Blk (w6.alloc (.cells #[.int .i64 (hi : Int), .int .i64 (nn : Int), .int .i64 (an : Int), .int .i64 (hv : Int)] 29)) w6.heap.size #[.int .i64 (hi : Int), .int .i64 (nn : Int), .int .i64 (an : Int), .int .i64 (hv : Int)] 29 := blk_new _ _ _
      have HM6 : Hid _ := HME2.out (w6.alloc (.cells #[.int .i64 (hi : Int), .int .i64 (nn : Int), .int .i64 (an : Int), .int .i64 (hv : Int)] 29)) (hb5.trans hb56 (by simp))
      clear HM5 HME2 hb6
      go_wp2_with fail
      refine Calls.mono HM6.out ?_
      rintro e w7 ⟨rfl, hb7⟩
      have hb57 : But [] w5 (w7.alloc (.cells #[.int .i64 (hi : Int), .int .i64 (nn : Int), .int .i64 (an2 : Int), .int .i64 (hv : Int)] 29)) := (hb56.trans hb7 (by simp)).alloc _
      have hB7a := blk_old (o := .cells #[.int .i64 (hi : Int), .int .i64 (nn : Int), .int .i64 (an2 : Int), .int .i64 (hv : Int)] 29) (hb7.blk hB6 (by simp))
      have hB7b : Blk (w7.alloc (.cells #[.int .i64 (hi : Int), .int .i64 (nn : Int), .int .i64 (an2 : Int), .int .i64 (hv : Int)] 29)) w7.heap.size #[.int .i64 (hi : Int), .int .i64 (nn : Int), .int .i64 (an2 : Int), .int .i64 (hv : Int)] 29 := blk_new _ _ _
      have y0 := hB7a.cell (i := 0) rfl
      have y1 := hB7a.cell (i := 1) rfl
      have y2 := hB7a.cell (i := 2) rfl
      have y3 := hB7a.cell (i := 3) rfl
      have n0 := hB7b.cell (i := 0) rfl
      have n1 := hB7b.cell (i := 1) rfl
      have n2 := hB7b.cell (i := 2) rfl
      have n3 := hB7b.cell (i := 3) rfl
      have HP7 : Hid _ := HP2.out (w7.alloc (.cells #[.int .i64 (hi : Int), .int .i64 (nn : Int), .int .i64 (an2 : Int), .int .i64 (hv : Int)] 29)) (hb5.trans hb57 (by simp))
      clear HM6 hb56 hB6 hb7 hB7a hB7b HP2
      go_wp2_with fail
      refine Calls.mono HP7.out ?_
      rintro e w8 ⟨rfl, hb8⟩
      have hb58 : But [] w5 w8 := hb57.trans hb8 (by simp)
      have HP8 : Hid _ := HP3.out w8 hb58
      clear HP7 HP3 y0 y1 y2 y3 n0 n1 n2 n3 hb57 hb8
      go_wp2_with fail
      refine Calls.mono HP8.out ?_
      rintro e w9 ⟨rfl, hb9⟩
      have hb59 : But [] w5 w9 := hb58.trans hb9 (by simp)
      have HG9 : Hid _ := HG.out w9 (hb25.trans hb59 (by simp))
      clear HP8 HG hb58 hb9
      go_wp2_with fail
      refine Calls.mono HG9.out ?_
      rintro e w10 ⟨rfl, hb10⟩
      have HB10 : Hid (But [] w w10) := HBw5.out.trans (hb59.trans hb10 (by simp)) (by simp)
      clear HG9 hb59 hb10 HBw5 hb25 hb5 hb4
      go_wp2_with fail
      go_ret
      exact ⟨rfl, HB10.out⟩

end Go.Proofs.YtkflkmmbakccoaaGreatDoor

/- THE STATEMENTS' GROUND: the laid table, where no error is laid. -/
namespace Go.Proofs.YtkflkmmbakccoaaGreatDoor
open Go.ChangeShapes Go.WideShapes Go.ChangeAt Go.WideElems Go.RowKit Go.Deep

set_option maxRecDepth 100000 in
theorem tabw_of_laid {W : World} (h : laidMetH Tryz.prog Rows.leastRow.laid W) : TabW W.heap.size W := by
  have h0 : laidMet Tryz.prog Rows.leastRow.laid W := by
    rw [MakeChecks.laidMetH_plain _ _ _ (by kernel_rfl)] at h
    exact h
  have h1 : laidMet Tryz.prog [("internal/strconv.uint64pow10", Lib.tabData .u64 Lib.pow10Tab)] W := by
    rw [← pow_data]
    exact h0.tail.tail
  have p1 : Lib.TabIs Tryz.prog W "internal/strconv.uint64pow10" .u64 Lib.pow10Tab := Lib.tabIs_of_head g_pow (t := 220) (e := 191) (n := 20) (by kernel_rfl) (by kernel_rfl) (by kernel_rfl) (by kernel_rfl) (by kernel_rfl) h1
  exact ⟨p1, var_lt g_pow p1⟩

/-- The door's own heap meets the condition. -/
theorem doorW_met (os : Os) (args : Array Value) : laidMetH Tryz.prog Rows.leastRow.laid ((World.doorLaid Tryz.prog 4000 os).forCall (fun _ _ => 0) ⟨#[], args, []⟩).memory :=
  laidMetH_of_parts3 (fuel := 8) (laidMet_of_run' 8 (by kernel_rfl) (by kernel_rfl)) (by kernel_rfl) (by kernel_rfl)

theorem maxLen_le : maxLen ≤ 9223372036854775807 := by decide

end Go.Proofs.YtkflkmmbakccoaaGreatDoor

/- THE STATEMENTS' GROUND: the door's own heap, where the errors are laid. -/
namespace Go.Proofs.YtkflkmmbakccoaaGreatDoor
open Go.ChangeShapes Go.WideShapes Go.ChangeAt Go.WideElems Go.RowKit Go.Deep

/-- The door's own heap meets the condition. -/
theorem doorS_met (os : Os) (args : Array Value) : laidMetH Tryz.prog Rows.tellsRow.laid ((World.doorLaid Tryz.prog 4000 os).forCall (fun _ _ => 0) ⟨#[], args, []⟩).memory :=
  laidMetH_of_parts3 (fuel := 8) (laidMet_of_run' 8 (by kernel_rfl) (by kernel_rfl)) (by kernel_rfl) (by kernel_rfl)

end Go.Proofs.YtkflkmmbakccoaaGreatDoor
