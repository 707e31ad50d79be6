/- PARTS: W1, W2, W3, W4, W5. -/
import Derived.Test.YtkflkmmbakccoaaGreatDoorChecked
import Derived.Test.YtkflkmmbakccoaaGreatDoorJ1
import Derived.Test.YtkflkmmbakccoaaGreatDoorJ2
import Derived.Deep.LoopGhost

/- WALKS: package scan: bytes, Peek, Place, Skip. -/
namespace Go.Proofs.YtkflkmmbakccoaaGreatDoor
open Go.RowKit

set_option maxHeartbeats 400000 in
theorem isWordByte_any (x : Int) (w : World) (h0 : 0 ≤ x) (h1 : x ≤ 255) :
    Calls Tryz.prog 121 #[.int .u8 x] w fun e w' => e = .returned (.bool (isWB x)) ∧ w' = w := by
  go_enter Tryz.func121, Tryz.ntmps121
  go_wp2
  all_goals
    go_ret
    refine ⟨ret_bool ?_, rfl⟩
    rw [Bool.eq_iff_iff]
    simp [isWB]
    try omega

set_option maxHeartbeats 400000 in
theorem kindOf_any (x : Int) (w : World) (h0 : 0 ≤ x) (h1 : x ≤ 255) :
    Calls Tryz.prog 93 #[.int .u8 x] w fun e w' => e = .returned (.int .i64 (kindB x)) ∧ w' = w := by
  go_enter Tryz.func93, Tryz.ntmps93
  go_wp2_with (go_at_call 121; refine (isWordByte_any _ _ (by omega) (by omega)).mono ?_; rintro e w' ⟨rfl, rfl⟩)
  all_goals
    go_ret
    refine ⟨ret_int ?_, rfl⟩
    simp only [kindB, *, if_true, Bool.false_eq_true, if_false]

end Go.Proofs.YtkflkmmbakccoaaGreatDoor

/- WALKS: package scan: Peek. -/
namespace Go.Proofs.YtkflkmmbakccoaaGreatDoor
open Go.RowKit

theorem set_set {cs : Array Value} (i : Nat) (u v : Value) : (cs.setIfInBounds i u).setIfInBounds i v = cs.setIfInBounds i v := by
  apply Array.ext_getElem?
  intro j
  simp only [Array.getElem?_setIfInBounds, Array.size_setIfInBounds]
  split <;> simp_all

theorem set_self {cs : Array Value} {i : Nat} {u : Value} (h : cs[i]? = some u) : cs.setIfInBounds i u = cs := by
  apply Array.ext_getElem?
  intro j
  simp only [Array.getElem?_setIfInBounds]
  split
  · subst_vars
    obtain ⟨h1, h2⟩ := Array.getElem?_eq_some_iff.1 h
    simp [h1, h2]
  · rfl

set_option maxHeartbeats 400000 in
theorem peek_any (b : Nat) (cs : Array Value) (T : TypeId) (s : ByteArray) (k0 : Nat) (w : World) (hb : Blk w b cs T) (h0 : cs[0]? = some (.string s)) (h1 : cs[1]? = some (.int .i64 k0)) (hk : k0 ≤ s.size) (hs : s.size ≤ 1000) :
    Calls Tryz.prog 59 #[.pointer (some ⟨b, 0, none⟩)] w fun e w' => e = .returned (.int .i64 (kindAt s (skipBl s k0))) ∧
      Blk w' b (cs.setIfInBounds 1 (.int .i64 (skipBl s k0))) T ∧ But [b] w w' ∧ w'.heap.size = w.heap.size := by
  go_enter Tryz.func59, Tryz.ntmps59
  go_wp2_with fail
  go_loopg [] (s.size - k0) (fun gk wr => ∃ k : Nat, k0 ≤ k ∧ k ≤ s.size ∧ gk = s.size - k ∧ skipBl s k0 = skipBl s k ∧ Blk wr b (cs.setIfInBounds 1 (.int .i64 k)) T ∧ But [b] w wr ∧ wr.heap.size = w.heap.size)
  case atStart => exact ⟨k0, Nat.le_refl _, hk, rfl, rfl, by rw [set_self h1]; exact hb, But.refl _ _, rfl⟩
  case round =>
    obtain ⟨k, hk1, hk2, rfl, hsk, hB, hbut, hsz⟩ := hrel
    have HS : Hid (skipBl s k0 = skipBl s k) := hsk
    have HZ : Hid (wr.heap.size = w.heap.size) := hsz
    clear hsk hsz
    have c0 : wr.cell? ⟨b, 0, none⟩ = some (.string s) := hB.cell (by simp [h0])
    have c1 : wr.cell? ⟨b, 1, none⟩ = some (.int .i64 k) := hB.cell (by have := (Array.getElem?_eq_some_iff.1 h1).1; simp [this])
    have f1 : wr.frozen? ⟨b, 1, none⟩ = false := hB.free 1
    clear h0 h1
    by_cases hlt : k < s.size
    · have hd : decide ((k : Int) < (s.size : Int)) = true := by simpa using hlt
      by_cases hbl : s[k].toNat = 32
      · go_wp2_with fail
        go_quiet (fail)
        go_wp2_with fail
        go_roundg (s.size - (k + 1))
        case measure => omega
        case rel => exact ⟨k + 1, by omega, by omega, rfl, by rw [HS.out, skipBl_blank s k hlt (by rw [byteAt_lt s k hlt]; omega)], by have := (hB.drewN nq).set 1 (.int .i64 (k + 1)); rw [set_set] at this; exact this, (hbut.drewN nq).setCell (by simp) _, by simpa using HZ.out⟩
      · have hx0 : (0 : Int) ≤ (s[k].toNat : Int) := by omega
        have hx1 : (s[k].toNat : Int) ≤ 255 := by have := s[k].toNat_lt; omega
        go_wp2_with fail
        go_quiet (fail)
        go_wp2_with fail
        go_quiet (fail)
        go_wp2_with fail
        refine name_world fun W hW => ?_
        have hB' : Blk W b (cs.setIfInBounds 1 (.int .i64 k)) T := by rw [hW.out]; exact hB
        have hbut' : But [b] w W := by rw [hW.out]; exact (hbut.drewN _).drewN _
        have HZ' : Hid (W.heap.size = w.heap.size) := by rw [hW.out]; exact HZ
        have c0 : W.cell? ⟨b, 0, none⟩ = some (.string s) := by rw [hW.out]; exact c0
        have c1 : W.cell? ⟨b, 1, none⟩ = some (.int .i64 k) := by rw [hW.out]; exact c1
        go_quiet ((go_at_call 93; exact Calls.quiet_of_same (kindOf_any _ _ hx0 hx1)))
        go_wp2_with fail
        go_ret
        have e : skipBl s k0 = k := by rw [HS.out, skipBl_stop s k hlt (by rw [byteAt_lt s k hlt]; omega)]
        rw [e]
        exact ⟨ret_int (by rw [kindAt, if_pos hlt, byteAt_lt s k hlt]), hB', hbut'.drewN _, HZ'.out⟩
    · have hd : decide ((k : Int) < (s.size : Int)) = false := by simpa using hlt
      go_wp2_with fail
      go_quiet (fail)
      go_wp2_with fail
      go_quiet (fail)
      go_wp2_with fail
      go_ret
      have e : skipBl s k0 = k := by rw [HS.out, skipBl_end s k hlt]
      rw [e]
      exact ⟨ret_int (by rw [kindAt, if_neg hlt]), hB, (hbut.drewN _).drewN _, HZ.out⟩

end Go.Proofs.YtkflkmmbakccoaaGreatDoor

/- WALKS: package scan: Place, Skip, NextLine. -/
namespace Go.Proofs.YtkflkmmbakccoaaGreatDoor
open Go.RowKit

set_option maxHeartbeats 400000 in
theorem place_any (b : Nat) (cs : Array Value) (T : TypeId) (v : Value) (w : World) (hb : Blk w b cs T) (h1 : cs[1]? = some v) :
    Calls Tryz.prog 87 #[.pointer (some ⟨b, 0, none⟩)] w fun e w' => e = .returned v ∧ w' = w := by
  have c1 : w.cell? ⟨b, 1, none⟩ = some v := hb.cell h1
  go_enter Tryz.func87, Tryz.ntmps87
  go_wp2_with fail
  go_ret
  exact ⟨rfl, rfl⟩

set_option maxHeartbeats 400000 in
theorem skip_any (b : Nat) (cs : Array Value) (T : TypeId) (s : ByteArray) (k : Nat) (w : World) (hb : Blk w b cs T) (h0 : cs[0]? = some (.string s)) (h1 : cs[1]? = some (.int .i64 k)) (hk : k < s.size) (hs : s.size ≤ 1000) :
    Calls Tryz.prog 148 #[.pointer (some ⟨b, 0, none⟩)] w fun e w' => e = .returned (.tuple #[]) ∧
      Blk w' b (cs.setIfInBounds 1 (.int .i64 ↑(k + 1))) T ∧ But [b] w w' ∧ w'.heap.size = w.heap.size := by
  have c0 : w.cell? ⟨b, 0, none⟩ = some (.string s) := hb.cell h0
  have c1 : w.cell? ⟨b, 1, none⟩ = some (.int .i64 k) := hb.cell h1
  have f1 : w.frozen? ⟨b, 1, none⟩ = false := hb.free 1
  clear h0 h1
  go_enter Tryz.func148, Tryz.ntmps148
  go_wp2_with fail
  go_region
  all_goals
    go_end0
    refine ⟨rfl, ?_, ((But.refl _ _).drewN 1).setCell (by simp) _, by simp⟩
    have := (hb.drewN 1).set 1 (.int .i64 ↑(k + 1))
    exact this

set_option maxHeartbeats 400000 in
theorem nextLine_any (b : Nat) (cs : Array Value) (T : TypeId) (s : ByteArray) (k0 : Nat) (w : World) (hb : Blk w b cs T) (h0 : cs[0]? = some (.string s)) (h1 : cs[1]? = some (.int .i64 k0)) (hk : k0 ≤ s.size) (hs : s.size ≤ 1000) :
    Calls Tryz.prog 56 #[.pointer (some ⟨b, 0, none⟩)] w fun e w' => e = .returned (.int .i64 (nlGo s k0 k0).1) ∧
      Blk w' b (cs.setIfInBounds 1 (.int .i64 (nlGo s k0 k0).2)) T ∧ But [b] w w' ∧ w'.heap.size = w.heap.size := by
  have c1 : w.cell? ⟨b, 1, none⟩ = some (.int .i64 k0) := hb.cell h1
  go_enter Tryz.func56, Tryz.ntmps56
  go_wp2_with fail
  clear c1
  go_loopg [3] (s.size - k0) (fun gk st wr => ∃ k a : Nat, k0 ≤ a ∧ a ≤ k ∧ k ≤ s.size ∧ gk = s.size - k ∧ st = .int .i64 a ∧ nlGo s k0 k0 = nlGo s a k ∧ Blk wr b (cs.setIfInBounds 1 (.int .i64 k)) T ∧ But [b] w wr ∧ wr.heap.size = w.heap.size)
  case atStart => exact ⟨k0, k0, Nat.le_refl _, Nat.le_refl _, hk, rfl, rfl, rfl, by rw [set_self h1]; exact hb, But.refl _ _, rfl⟩
  case round =>
    obtain ⟨k, a, ha1, hak, hk2, rfl, rfl, hsk, hB, hbut, hsz⟩ := hrel
    have HS : Hid (nlGo s k0 k0 = nlGo s a k) := hsk
    have HZ : Hid (wr.heap.size = w.heap.size) := hsz
    clear hsk hsz
    have c0 : wr.cell? ⟨b, 0, none⟩ = some (.string s) := hB.cell (by simp [h0])
    have c1 : wr.cell? ⟨b, 1, none⟩ = some (.int .i64 k) := hB.cell (by have := (Array.getElem?_eq_some_iff.1 h1).1; simp [this])
    have f1 : wr.frozen? ⟨b, 1, none⟩ = false := hB.free 1
    clear h0 h1
    by_cases hlt : k < s.size
    · have hd : decide ((k : Int) < (s.size : Int)) = true := by simpa using hlt
      go_wp2_with fail
      go_quiet (fail)
      go_wp2_with fail
      go_quiet (fail)
      go_wp2_with fail
      · have hb10 : byteAt s k = 10 := by rw [byteAt_lt s k hlt]; exact eq_of_beq (by assumption)
        go_roundg (s.size - (k + 1))
        case measure => omega
        case rel => exact ⟨k + 1, k + 1, by omega, by omega, by omega, rfl, by go_num, by rw [HS.out, nlGo_nl s a k hlt hb10], by have := ((hB.drewN nq).drewN nq).set 1 (.int .i64 ↑(k + 1)); rw [set_set] at this; exact this, (hbut.drewN _).setCell (by simp) _, by simpa using HZ.out⟩
      · have hb10 : byteAt s k = 32 := by rw [byteAt_lt s k hlt]; exact eq_of_beq (by assumption)
        go_roundg (s.size - (k + 1))
        case measure => omega
        case rel => exact ⟨k + 1, a, by omega, by omega, by omega, rfl, rfl, by rw [HS.out, nlGo_bl s a k hlt hb10], by have := ((hB.drewN nq).drewN nq).set 1 (.int .i64 ↑(k + 1)); rw [set_set] at this; exact this, (hbut.drewN _).setCell (by simp) _, by simpa using HZ.out⟩
      · have hb10 : byteAt s k ≠ 10 := by rw [byteAt_lt s k hlt]; exact ne_of_beq_false (by assumption)
        have hb32 : byteAt s k ≠ 32 := by rw [byteAt_lt s k hlt]; exact ne_of_beq_false (by assumption)
        go_ret
        have e : nlGo s k0 k0 = (k - a, k) := by rw [HS.out, nlGo_stop s a k hlt hb10 hb32]
        rw [e]
        exact ⟨ret_int (by omega), hB, hbut.drewN _, HZ.out⟩
    · have hd : decide ((k : Int) < (s.size : Int)) = false := by simpa using hlt
      go_wp2_with fail
      go_quiet (fail)
      go_wp2_with fail
      go_ret
      have e : nlGo s k0 k0 = (k - a, k) := by rw [HS.out, nlGo_end s a k hlt]
      rw [e]
      exact ⟨ret_int (by omega), hB, hbut.drewN _, HZ.out⟩

end Go.Proofs.YtkflkmmbakccoaaGreatDoor

/- WALKS: package scan: readWord. -/
namespace Go.Proofs.YtkflkmmbakccoaaGreatDoor
open Go.RowKit

set_option maxHeartbeats 400000 in
theorem readWord_any (b : Nat) (cs : Array Value) (T : TypeId) (s : ByteArray) (k0 : Nat) (w : World) (hb : Blk w b cs T) (h0 : cs[0]? = some (.string s)) (h1 : cs[1]? = some (.int .i64 k0)) (hk : k0 ≤ s.size) (hs : s.size ≤ 1000) :
    Calls Tryz.prog 142 #[.pointer (some ⟨b, 0, none⟩)] w fun e w' => e = .returned (.tuple #[.string (rdWord s k0).1, .bool (rdWord s k0).2.1]) ∧
      Blk w' b (cs.setIfInBounds 1 (.int .i64 (rdWord s k0).2.2)) T ∧ But [b] w w' ∧ w'.heap.size = w.heap.size := by
  have c1 : w.cell? ⟨b, 1, none⟩ = some (.int .i64 k0) := hb.cell h1
  go_enter Tryz.func142, Tryz.ntmps142
  go_wp2_with fail
  clear c1
  go_loopg [] (s.size - k0) (fun gk wr => ∃ k : Nat, k0 ≤ k ∧ k ≤ s.size ∧ k - k0 ≤ 12 ∧ gk = s.size - k ∧ wEnd s k0 = wEnd s k ∧ Blk wr b (cs.setIfInBounds 1 (.int .i64 k)) T ∧ But [b] w wr ∧ wr.heap.size = w.heap.size)
  case atStart => exact ⟨k0, Nat.le_refl _, hk, by omega, rfl, rfl, by rw [set_self h1]; exact hb, But.refl _ _, rfl⟩
  case round =>
    obtain ⟨k, hk1, hk2, hk12, rfl, hsk, hB, hbut, hsz⟩ := hrel
    have HS : Hid (wEnd s k0 = wEnd s k) := hsk
    have HZ : Hid (wr.heap.size = w.heap.size) := hsz
    clear hsk hsz
    have c0 : wr.cell? ⟨b, 0, none⟩ = some (.string s) := hB.cell (by simp [h0])
    have c1 : wr.cell? ⟨b, 1, none⟩ = some (.int .i64 k) := hB.cell (by have := (Array.getElem?_eq_some_iff.1 h1).1; simp [this])
    have f1 : wr.frozen? ⟨b, 1, none⟩ = false := hB.free 1
    clear h0 h1
    by_cases hlt : k < s.size
    · have hd : decide ((k : Int) < (s.size : Int)) = true := by simpa using hlt
      have hx0 : (0 : Int) ≤ (s[k].toNat : Int) := by omega
      have hx1 : (s[k].toNat : Int) ≤ 255 := by have := s[k].toNat_lt; omega
      by_cases hw : isWB (s[k].toNat : Int) = true
      · have hw' : isWB (byteAt s k) = true := by rw [byteAt_lt s k hlt]; exact hw
        have he : k + 1 ≤ wEnd s k0 := by rw [HS.out, wEnd_go s k hlt hw']; exact wEnd_ge s (k + 1)
        go_wp2_with fail
        go_quiet ((go_at_call 121; exact Calls.quiet_of_same (isWordByte_any _ _ hx0 hx1)))
        by_cases h12 : k - k0 = 12
        · go_wp2_with fail
          go_ret2
          have e : rdWord s k0 = (ByteArray.empty, false, k) := by rw [rdWord, if_pos (by omega)]; simp; omega
          rw [e]
          exact ⟨rfl, hB, hbut.drewN _, HZ.out⟩
        · go_wp2_with fail
          go_roundg (s.size - (k + 1))
          case measure => omega
          case rel => exact ⟨k + 1, by omega, by omega, by omega, rfl, by rw [HS.out, wEnd_go s k hlt hw'], by have := (hB.drewN nq).set 1 (.int .i64 ↑(k + 1)); rw [set_set] at this; exact this, (hbut.drewN _).setCell (by simp) _, by simpa using HZ.out⟩
      · have hw0 : isWB (s[k].toNat : Int) = false := by simpa using hw
        have hw' : isWB (byteAt s k) = false := by rw [byteAt_lt s k hlt]; exact hw0
        have he : wEnd s k0 = k := by rw [HS.out, wEnd_stop s k hlt hw']
        have HE : Hid (wEnd s k0 = k) := he
        clear he
        go_wp2_with fail
        go_quiet ((go_at_call 121; exact Calls.quiet_of_same (isWordByte_any _ _ hx0 hx1)))
        go_wp2_with fail
        go_quiet (fail)
        go_wp2_with fail
        go_ret2
        have e : rdWord s k0 = (s.extract k0 k, decide (k0 < k), k) := by rw [rdWord, HE.out, if_neg (by omega)]
        rw [e]
        refine ⟨?_, hB, (hbut.drewN _).drewN _, HZ.out⟩
        simp
    · have hd : decide ((k : Int) < (s.size : Int)) = false := by simpa using hlt
      have HE : Hid (wEnd s k0 = k) := by rw [HS.out]; exact wEnd_end s k hlt
      go_wp2_with fail
      go_quiet (fail)
      go_wp2_with fail
      go_quiet (fail)
      go_wp2_with fail
      go_ret2
      have e : rdWord s k0 = (s.extract k0 k, decide (k0 < k), k) := by rw [rdWord, HE.out, if_neg (by omega)]
      rw [e]
      refine ⟨?_, hB, (hbut.drewN _).drewN _, HZ.out⟩
      simp

end Go.Proofs.YtkflkmmbakccoaaGreatDoor

/- WALKS: package scan: readString, Read, New. -/
namespace Go.Proofs.YtkflkmmbakccoaaGreatDoor
open Go.RowKit

set_option maxHeartbeats 400000 in
theorem readString_at (b : Nat) (cs : Array Value) (T : TypeId) (s : ByteArray) (k0 a : Nat) (ha : Hid (a = k0 + 1)) (w : World) (hb : Blk w b cs T) (h0 : cs[0]? = some (.string s)) (h1 : cs[1]? = some (.int .i64 k0)) (hk : k0 < s.size) (hs : s.size ≤ 1000) :
    Calls Tryz.prog 141 #[.pointer (some ⟨b, 0, none⟩)] w fun e w' => e = .returned (.tuple #[.string (rdStr s a).1, .bool (rdStr s a).2.1]) ∧
      Blk w' b (cs.setIfInBounds 1 (.int .i64 (rdStr s a).2.2)) T ∧ But [b] w w' ∧ w'.heap.size = w.heap.size := by
  go_enter Tryz.func141, Tryz.ntmps141
  go_wp2_with fail
  refine (skip_any b cs T s k0 w hb h0 h1 hk hs).mono ?_
  rintro e w1 ⟨rfl, hB1, hbut1, hsz1⟩
  rw [← ha.out] at hB1
  have has : a ≤ s.size := by rw [ha.out]; omega
  have HZ1 : Hid (w1.heap.size = w.heap.size) := hsz1
  have c1 : w1.cell? ⟨b, 1, none⟩ = some (.int .i64 ↑a) := hB1.cell (by have := (Array.getElem?_eq_some_iff.1 h1).1; simp [this])
  clear hsz1
  go_wp2_with fail
  clear c1
  go_loopg [] (s.size - a) (fun gk wr => ∃ k : Nat, a ≤ k ∧ k ≤ s.size ∧ k - a ≤ 20 ∧ gk = s.size - k ∧ qEnd s a = qEnd s k ∧ Blk wr b (cs.setIfInBounds 1 (.int .i64 k)) T ∧ But [b] w wr ∧ wr.heap.size = w.heap.size)
  case atStart => exact ⟨a, Nat.le_refl _, has, by omega, rfl, rfl, hB1, hbut1, HZ1.out⟩
  case round =>
    obtain ⟨k, hk1, hk2, hk12, rfl, hsk, hB, hbut, hsz⟩ := hrel
    have HS : Hid (qEnd s a = qEnd s k) := hsk
    have HZ : Hid (wr.heap.size = w.heap.size) := hsz
    clear hsk hsz
    have i1 := (Array.getElem?_eq_some_iff.1 h1).1
    have c0 : wr.cell? ⟨b, 0, none⟩ = some (.string s) := hB.cell (by simp [h0])
    have c1 : wr.cell? ⟨b, 1, none⟩ = some (.int .i64 k) := hB.cell (by simp [i1])
    have f1 : wr.frozen? ⟨b, 1, none⟩ = false := hB.free 1
    have h0' : (cs.setIfInBounds 1 (.int .i64 k))[0]? = some (.string s) := by simp [h0]
    have h1' : (cs.setIfInBounds 1 (.int .i64 k))[1]? = some (.int .i64 k) := by simp [i1]
    have H0 : Hid _ := h0'
    have H1 : Hid _ := h1'
    clear h0 h1 h0' h1' hB1 hbut1 HZ1
    by_cases hlt : k < s.size
    · have hd : decide ((k : Int) < (s.size : Int)) = true := by simpa using hlt
      have hx0 : (0 : Int) ≤ (s[k].toNat : Int) := by omega
      have hx1 : (s[k].toNat : Int) ≤ 255 := by have := s[k].toNat_lt; omega
      by_cases h10 : s[k].toNat = 10
      · have hq : qEnd s a = k := by rw [HS.out]; exact qEnd_stop s k hlt (.inl (by rw [byteAt_lt s k hlt]; omega))
        have hb10 : byteAt s k = 10 := by rw [byteAt_lt s k hlt]; omega
        have e : rdStr s a = (ByteArray.empty, false, k) := by rw [rdStr, hq, if_neg (by omega), if_neg (by omega)]
        have HE : Hid _ := e
        clear hq hb10 e
        go_wp2_with fail
        go_quiet (fail)
        go_wp2_with fail
        go_ret2
        rw [HE.out]
        exact ⟨rfl, hB, hbut.drewN _, HZ.out⟩
      · by_cases h34 : s[k].toNat = 34
        · have hq : qEnd s a = k := by rw [HS.out]; exact qEnd_stop s k hlt (.inr (by rw [byteAt_lt s k hlt]; omega))
          have hb34 : byteAt s k = 34 := by rw [byteAt_lt s k hlt]; omega
          have e : rdStr s a = (s.extract a k, true, k + 1) := by rw [rdStr, hq, if_neg (by omega), if_pos hb34]
          have HE : Hid _ := e
          clear hq hb34 e
          go_wp2_with fail
          go_quiet (fail)
          go_wp2_with fail
          go_quiet (fail)
          go_wp2_with fail
          go_quiet (fail)
          go_wp2_with fail
          refine (skip_any b _ T s k _ (hB.drewN _) H0.out H1.out hlt hs).mono ?_
          rintro e w2 ⟨rfl, hB2, hbut2, hsz2⟩
          have HZ2 : Hid (w2.heap.size = wr.heap.size) := hsz2
          clear hsz2
          go_wp2_with fail
          go_ret2
          rw [HE.out]
          exact ⟨by simp, by rw [set_set] at hB2; exact hB2, (hbut.drewN _).trans hbut2 (by simp), HZ2.out.trans HZ.out⟩
        · have hq : qEnd s a = qEnd s (k + 1) := by rw [HS.out]; exact qEnd_go s k hlt (by rw [byteAt_lt s k hlt]; omega) (by rw [byteAt_lt s k hlt]; omega)
          have hg := qEnd_ge s (k + 1)
          have HQ : Hid _ := hq
          by_cases h20 : k - a = 20
          · have e : rdStr s a = (ByteArray.empty, false, k) := by rw [rdStr, hq, if_pos (by omega)]; simp; omega
            have HE : Hid _ := e
            clear hq hg e
            go_wp2_with fail
            go_quiet (fail)
            go_wp2_with fail
            go_quiet (fail)
            go_wp2_with fail
            go_ret2
            rw [HE.out]
            exact ⟨rfl, hB, by repeat (first | exact hbut | refine But.drewN ?_ _), HZ.out⟩
          · clear hq hg
            go_wp2_with fail
            go_quiet (fail)
            go_wp2_with fail
            go_quiet (fail)
            go_wp2_with fail
            go_roundg (s.size - (k + 1))
            case measure => omega
            case rel => exact ⟨k + 1, by omega, by omega, by omega, rfl, HQ.out, by have := (hB.drewN nq).set 1 (.int .i64 ↑(k + 1)); rw [set_set] at this; exact this, (hbut.drewN _).setCell (by simp) _, by simpa using HZ.out⟩
    · have hd : decide ((k : Int) < (s.size : Int)) = false := by simpa using hlt
      have hq : qEnd s a = k := by rw [HS.out]; exact qEnd_end s k hlt
      have e : rdStr s a = (ByteArray.empty, false, k) := by rw [rdStr, hq, if_neg (by omega), if_neg (by rw [byteAt_ge s k hlt]; omega)]
      have HE : Hid _ := e
      clear hq e
      go_wp2_with fail
      go_quiet (fail)
      go_wp2_with fail
      go_ret2
      rw [HE.out]
      exact ⟨rfl, hB, hbut.drewN _, HZ.out⟩

theorem readString_any (b : Nat) (cs : Array Value) (T : TypeId) (s : ByteArray) (k0 : Nat) (w : World) (hb : Blk w b cs T) (h0 : cs[0]? = some (.string s)) (h1 : cs[1]? = some (.int .i64 k0)) (hk : k0 < s.size) (hs : s.size ≤ 1000) :
    Calls Tryz.prog 141 #[.pointer (some ⟨b, 0, none⟩)] w fun e w' => e = .returned (.tuple #[.string (rdStr s (k0 + 1)).1, .bool (rdStr s (k0 + 1)).2.1]) ∧
      Blk w' b (cs.setIfInBounds 1 (.int .i64 (rdStr s (k0 + 1)).2.2)) T ∧ But [b] w w' ∧ w'.heap.size = w.heap.size :=
  readString_at b cs T s k0 (k0 + 1) rfl w hb h0 h1 hk hs

set_option maxHeartbeats 400000 in
theorem read_any (b : Nat) (cs : Array Value) (T : TypeId) (s : ByteArray) (k0 : Nat) (w : World) (hb : Blk w b cs T) (h0 : cs[0]? = some (.string s)) (h1 : cs[1]? = some (.int .i64 k0)) (hk : k0 ≤ s.size) (hs : s.size ≤ 1000) :
    Calls Tryz.prog 110 #[.pointer (some ⟨b, 0, none⟩)] w fun e w' => e = .returned (.tuple #[.string (rdAny s (skipBl s k0)).1, .bool (rdAny s (skipBl s k0)).2.1]) ∧
      Blk w' b (cs.setIfInBounds 1 (.int .i64 (rdAny s (skipBl s k0)).2.2)) T ∧ But [b] w w' ∧ w'.heap.size = w.heap.size := by
  have i1 := (Array.getElem?_eq_some_iff.1 h1).1
  have hq := skipBl_le s k0 hk
  go_enter Tryz.func110, Tryz.ntmps110
  go_wp2_with fail
  refine (peek_any b cs T s k0 w hb h0 h1 hk hs).mono ?_
  rintro e w1 ⟨rfl, hB1, hbut1, hsz1⟩
  have HZ1 : Hid (w1.heap.size = w.heap.size) := hsz1
  have H0 : Hid ((cs.setIfInBounds 1 (.int .i64 (skipBl s k0)))[0]? = some (.string s)) := by simp [Hid, h0]
  have H1 : Hid ((cs.setIfInBounds 1 (.int .i64 (skipBl s k0)))[1]? = some (.int .i64 (skipBl s k0))) := by simp [Hid, i1]
  clear hsz1 h0 h1 hb
  generalize hqq : skipBl s k0 = q at *
  have HQ : Hid (skipBl s k0 = q) := hqq
  clear hqq
  by_cases h3 : kindAt s q = 3
  · have hlt : q < s.size := by
      by_cases hlt : q < s.size
      · exact hlt
      · rw [kindAt, if_neg hlt] at h3; omega
    have HE : Hid (rdAny s q = rdStr s (q + 1)) := by rw [Hid, rdAny, if_pos h3]
    go_wp2_with fail
    refine (readString_any b _ T s q w1 hB1 H0.out H1.out hlt hs).mono ?_
    rintro e w2 ⟨rfl, hB2, hbut2, hsz2⟩
    have HZ2 : Hid (w2.heap.size = w1.heap.size) := hsz2
    clear hsz2
    go_wp2_with fail
    go_ret2
    rw [HQ.out, HE.out]
    exact ⟨rfl, by rw [set_set] at hB2; exact hB2, hbut1.trans hbut2 (by simp), HZ2.out.trans HZ1.out⟩
  · have HE : Hid (rdAny s q = rdWord s q) := by rw [Hid, rdAny, if_neg h3]
    go_wp2_with fail
    refine (readWord_any b _ T s q w1 hB1 H0.out H1.out hq hs).mono ?_
    rintro e w2 ⟨rfl, hB2, hbut2, hsz2⟩
    have HZ2 : Hid (w2.heap.size = w1.heap.size) := hsz2
    clear hsz2
    go_wp2_with fail
    go_ret2
    rw [HQ.out, HE.out]
    exact ⟨rfl, by rw [set_set] at hB2; exact hB2, hbut1.trans hbut2 (by simp), HZ2.out.trans HZ1.out⟩

end Go.Proofs.YtkflkmmbakccoaaGreatDoor
