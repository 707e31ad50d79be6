/- PARTS: R1, R2, R3, R4, R5. -/
import Derived.Test.YtkflkmmbakccoaaGreatDoorChecked
import Derived.Test.YtkflkmmbakccoaaGreatDoorH1
import Derived.Test.YtkflkmmbakccoaaGreatDoorH3
import Derived.Test.YtkflkmmbakccoaaGreatDoorH5
import Derived.Test.YtkflkmmbakccoaaGreatDoorH2
import Derived.Deep.LoopGhost
import Derived.Test.YtkflkmmbakccoaaGreatDoorH4

/- WALKS: package grafterref: Letter, starts. -/
namespace Go.Proofs.YtkflkmmbakccoaaGreatDoor
open Go.RowKit

set_option maxHeartbeats 400000 in
theorem letter_any (x : Int) (w : World) :
    Calls Tryz.prog 109 #[.int .i64 x] w fun e w' => e = .returned (.bool (isWB x)) ∧ w' = w := by
  go_enter Tryz.func109, Tryz.ntmps109
  go_wp2
  all_goals
    go_ret
    refine ⟨ret_bool ?_, rfl⟩
    rw [Bool.eq_iff_iff]
    simp [isWB]
    try omega

end Go.Proofs.YtkflkmmbakccoaaGreatDoor

/- WALKS: package grafterref: lines. -/
namespace Go.Proofs.YtkflkmmbakccoaaGreatDoor
open Go.RowKit Go.Maps

theorem infoLine : (Tryz.prog.info? 158).map (fun i => (i.zero, i.size, i.bytes)) = some (some (.agg #[.int .i64 0, .int .i64 0, .int .i64 0]), 3, 24) := by kernel_rfl
theorem undLines : Tryz.prog.underlying 110 = some (.slice 158) := by kernel_rfl

def LineV.cells (l : LineV) : List Value := [.int .i64 (l.ind : Int), .int .i64 (l.at' : Int), .int .i64 (l.en : Int)]

set_option maxRecDepth 20000 in
set_option maxHeartbeats 1000000 in
theorem lines_any (s : ByteArray) (hs : s.size ≤ 1000) (w : World) :
    Calls Tryz.prog 81 #[.string s] w fun e w' => ∃ v, e = .returned v ∧ w'.ownsRow w.heap.size 158 3 v (linesFrom s 0).length ((linesFrom s 0).flatMap LineV.cells) ∧ But [] w w' := by
  obtain ⟨i0, hi0, hz0, hz1, hz2⟩ := info_parts infoLine
  go_enter Tryz.func81, Tryz.ntmps81
  go_wp2_with fail
  go_loopg [3, 4, 5] (s.size + 1) (fun gk v fr iv wr => ∃ i a acc, gk = s.size + 1 - i ∧ i ≤ s.size + 1 ∧ a ≤ i ∧ fr = .int .i64 (a : Int) ∧ iv = .int .i64 (i : Int) ∧ linesFrom s 0 = acc ++ linesFrom s a ∧ wr.ownsRow w.heap.size 158 3 v acc.length (acc.flatMap LineV.cells) ∧ But [] w wr ∧
    (∀ j, a ≤ j → j < i → byteAt s j ≠ 10) ∧ acc.length ≤ i ∧ (i = s.size + 1 → a = i))
  case atStart => exact ⟨0, 0, [], rfl, by omega, by omega, rfl, rfl, rfl, ⟨rfl, .inl ⟨rfl, rfl⟩⟩, But.refl _ _, fun j _ hj => by omega, by simp, fun h => by omega⟩
  case round =>
    obtain ⟨i, a, acc, rfl, hi, hai, rfl, rfl, hl, hown, hb, hn, hal, hlast⟩ := hrel
    have HL : Hid _ := hl
    have HN : Hid _ := hn
    have HLast : Hid _ := hlast
    clear hl hn hlast
    by_cases hge : s.size < i
    · go_wp2_with fail
      go_ret
      have e : i = s.size + 1 := by omega
      have e2 := HLast.out e
      refine ⟨_, rfl, ?_, hb⟩
      have e3 : linesFrom s a = [] := linesFrom_nil s a (by rw [nlGo_end s a a (by omega)]; simp only; omega)
      have e4 : linesFrom s 0 = acc := by rw [HL.out, e3, List.append_nil]
      rw [e4]
      exact hown
    · by_cases hmid : i < s.size ∧ byteAt s i ≠ 10
      · obtain ⟨hlt, hb10⟩ := hmid
        have hbx : ((s[i].toNat : Int) != 10) = true := by rw [← byteAt_lt s i hlt]; simpa using hb10
        go_wp2_with fail
        go_roundg (s.size + 1 - (i + 1))
        case measure => omega
        case rel => exact ⟨i + 1, a, acc, rfl, by omega, by omega, rfl, by go_num, HL.out, hown, hb, fun j h1 h2 => by
          by_cases e : j = i
          · rw [e]; exact hb10
          · exact HN.out j h1 (by omega), by omega, fun h => by omega⟩
      · have hend : i < s.size → byteAt s i = 10 := fun h => by
          by_cases hc : byteAt s i = 10
          · exact hc
          · exact absurd ⟨h, hc⟩ hmid
        have HEnd : Hid _ := hend
        have hcase : (i < s.size ∧ Hid (byteAt s i = 10)) ∨ ¬ i < s.size := by
          by_cases h : i < s.size
          · exact .inl ⟨h, hend h⟩
          · exact .inr h
        clear hend hmid
        rcases hcase with ⟨hlt, hb10⟩ | hlt
        case' inl => have hbx : ((s[i].toNat : Int) != 10) = false := by rw [← byteAt_lt s i hlt, hb10.out]; rfl
        all_goals
          go_wp2_with fail
          go_loopg [6] (i - a) (fun gk kv wr2 => ∃ k, gk = i - k ∧ a ≤ k ∧ k ≤ i ∧ kv = .int .i64 (k : Int) ∧ wr2 = wr ∧ ∀ j, a ≤ j → j < k → byteAt s j = 32)
          case atStart => exact ⟨a, rfl, Nat.le_refl _, hai, rfl, rfl, fun j h1 h2 => by omega⟩
          case round =>
            obtain ⟨k, rfl, hak, hki, rfl, rfl, hbl⟩ := hrel
            have HBL : Hid _ := hbl
            clear hbl
            by_cases hkb : k < i ∧ byteAt s k = 32
            · obtain ⟨hkl, hk32⟩ := hkb
              have hks : k < s.size := by omega
              have hkx : ((s[k].toNat : Int) == 32) = true := by rw [← byteAt_lt s k hks]; simpa using hk32
              have HK32 : Hid _ := hk32
              clear hk32
              go_wp2_with fail
              go_roundg (i - (k + 1))
              case measure => omega
              case rel => exact ⟨k + 1, rfl, by omega, by omega, by go_num, rfl, fun j h1 h2 => by
                by_cases e : j = k
                · rw [e]; exact HK32.out
                · exact HBL.out j h1 (by omega)⟩
            · by_cases hkl : k < i
              · have hks : k < s.size := by omega
                have hk32 : byteAt s k ≠ 32 := fun h => hkb ⟨hkl, h⟩
                have hkx : ((s[k].toNat : Int) == 32) = false := by rw [← byteAt_lt s k hks]; simpa using hk32
                have HLN : Hid (linesFrom s a = ⟨k - a, k, i⟩ :: linesFrom s (i + 1)) := lines_line s a k i hak hkl (by omega) HBL.out hk32 HN.out HEnd.out
                have hbase := hb.size
                clear hk32 hkb
                go_wp2_with (at_builtin; refine wpList_append_own_at _ rfl _ _ 110 rfl w.heap.size 158 i0 (.agg #[.int .i64 0, .int .i64 0, .int .i64 0]) 3 24 undLines hi0 hz0 hz1 hz2 rfl (by decide) _ _ _ rfl (hown.alloc _) ⟨wr.heap.size, 0, none⟩ 1 1 [.int .i64 ((k : Int) - (a : Int)), .int .i64 (k : Int), .int .i64 (i : Int)] rfl rfl (cells_new wr _ _ _ rfl) (fun u hu => by simp at hu; rcases hu with rfl | rfl | rfl <;> rfl) (by unfold maxLen; omega) (by omega) (by simp; omega) ?_)
                intro v' w4 hown4 hgrow _ hloc
                go_wp2_with fail
                go_roundg (s.size + 1 - (i + 1))
                case measure => omega
                case rel =>
                  refine ⟨i + 1, i + 1, acc ++ [⟨k - a, k, i⟩], rfl, by omega, Nat.le_refl _, by go_num, by go_num, by rw [HL.out, HLN.out]; simp, ?_, ?_, fun j h1 h2 => by omega, by simp; omega, fun _ => rfl⟩
                  · have e1 : ((k - a : Nat) : Int) = (k : Int) - (a : Int) := by omega
                    simp only [List.flatMap_append, List.flatMap_cons, List.flatMap_nil, List.append_nil, LineV.cells, List.length_append, List.length_cons, List.length_nil, e1]
                    exact hown4
                  · exact (hb.alloc _).trans (grown_but hgrow) (fun x hx => .inr (ownsRow_lt hown hx).1)
              · have hkx : k = i := by omega
                subst hkx
                have HLN : Hid (linesFrom s a = linesFrom s (k + 1)) := lines_blank s a k hai (by omega) HBL.out HEnd.out
                go_wp2_with fail
                go_roundg (s.size + 1 - (k + 1))
                case measure => omega
                case rel => exact ⟨k + 1, k + 1, acc, rfl, by omega, Nat.le_refl _, by go_num, by go_num, by rw [HL.out, HLN.out], hown, hb, fun j h1 h2 => by omega, by omega, fun _ => rfl⟩

end Go.Proofs.YtkflkmmbakccoaaGreatDoor

/- WALKS: package grafterref: wrong, end, now, over. -/
namespace Go.Proofs.YtkflkmmbakccoaaGreatDoor
open Go.RowKit Go.Maps

theorem lineFlat_at (L : List LineV) (i j : Nat) (hi : i < L.length) (hj : j < 3) : (L.flatMap LineV.cells)[i * 3 + j]? = (L[i]).cells[j]? := by
  induction L generalizing i with
  | nil => simp at hi
  | cons r L ih =>
    cases i with
    | zero =>
      simp only [List.flatMap_cons, Nat.zero_mul, Nat.zero_add, List.getElem_cons_zero]
      rw [List.getElem?_append_left (by simp [LineV.cells]; omega)]
    | succ i =>
      simp only [List.flatMap_cons, List.getElem_cons_succ]
      rw [List.getElem?_append_right (by simp [LineV.cells]; omega)]
      have e : (i + 1) * 3 + j - r.cells.length = i * 3 + j := by simp [LineV.cells]; omega
      rw [e]
      exact ih i (by simpa using hi)

/-- A line in memory. -/
theorem ownsLine {w : World} {base : Nat} {v : Value} {L : List LineV} (h : w.ownsRow base 158 3 v L.length (L.flatMap LineV.cells)) (i : Nat) (hi : i < L.length) :
    ∃ b cap, v = .slice (some ⟨b, 0, none⟩) L.length cap ∧ L.length ≤ cap ∧ w.cell? ⟨b, i * 3, none⟩ = some (.int .i64 (L[i].ind : Int)) ∧ w.cell? ⟨b, i * 3 + 1, none⟩ = some (.int .i64 (L[i].at' : Int)) ∧ w.cell? ⟨b, i * 3 + 2, none⟩ = some (.int .i64 (L[i].en : Int)) := by
  rcases h.2 with ⟨_, h0⟩ | ⟨g, cap, cur, e, hb, hg, hc, hm, hs, ht⟩
  · omega
  · have key : ∀ j, j < 3 → w.cell? ⟨g, i * 3 + j, none⟩ = (L[i]).cells[j]? := fun j hj => by
      have h1 := lineFlat_at L i j hi hj
      rw [← ht, List.getElem?_take, if_pos (by omega)] at h1
      rw [← h1]
      simp only [World.cell?, hg]
      simp
    exact ⟨g, cap, e, hc, key 0 (by omega), key 1 (by omega), key 2 (by omega)⟩

/-- An error at a place, if there is none yet. -/
def wrC (cs : Array Value) (er : Nat) (e at' : Int) : Array Value := if er = 0 then (cs.setIfInBounds 11 (.int .i64 e)).setIfInBounds 12 (.int .i64 at') else cs

set_option maxHeartbeats 400000 in
theorem wrong_any (b : Nat) (cs : Array Value) (T : TypeId) (er : Nat) (z : Value) (e at' : Int) (w : World) (hb : Blk w b cs T) (h11 : cs[11]? = some (.int .i64 (er : Int))) (h12 : cs[12]? = some z) :
    Calls Tryz.prog 103 #[.pointer (some ⟨b, 0, none⟩), .int .i64 e, .int .i64 at'] w fun r w' => r = .returned (.tuple #[]) ∧ Blk w' b (wrC cs er e at') T ∧ But [b] w w' ∧ w'.heap.size = w.heap.size := by
  have c11 : w.cell? ⟨b, 11, none⟩ = some (.int .i64 (er : Int)) := hb.cell h11
  have c12 : w.cell? ⟨b, 12, none⟩ = some z := hb.cell h12
  have f11 : w.frozen? ⟨b, 11, none⟩ = false := hb.free 11
  have f12 : w.frozen? ⟨b, 12, none⟩ = false := hb.free 12
  by_cases h0 : er = 0
  · have h0' : ((er : Int) == 0) = true := by simp [h0]
    have H0 : Hid _ := h0
    clear h0
    go_enter Tryz.func103, Tryz.ntmps103
    go_wp2_with fail
    go_end0
    rw [wrC, if_pos H0.out]
    exact ⟨rfl, (hb.set 11 _).set 12 _, ((But.refl _ _).setCell (by simp) _).setCell (by simp) _, by simp⟩
  · have h0' : ((er : Int) == 0) = false := by simp; omega
    go_enter Tryz.func103, Tryz.ntmps103
    go_wp2_with fail
    go_end0
    rw [wrC, if_neg h0]
    exact ⟨rfl, hb, But.refl _ _, rfl⟩

set_option maxHeartbeats 400000 in
theorem rend_any (b : Nat) (cs : Array Value) (T : TypeId) (lv : Value) (L : List LineV) (base K : Nat) (w : World) (hb : Blk w b cs T) (h1 : cs[1]? = some lv) (h2 : cs[2]? = some (.int .i64 (K : Int))) (hl : w.ownsRow base 158 3 lv L.length (L.flatMap LineV.cells)) (hK : K < L.length) :
    Calls Tryz.prog 173 #[.pointer (some ⟨b, 0, none⟩)] w fun e w' => e = .returned (.int .i64 (L[K].en : Int)) ∧ ∃ m, w' = w.drewN m := by
  obtain ⟨lb, cap, rfl, hcap, _, _, hc⟩ := ownsLine hl K hK
  have c1 : w.cell? ⟨b, 1, none⟩ = some (.slice (some ⟨lb, 0, none⟩) L.length cap) := hb.cell h1
  have c2 : w.cell? ⟨b, 2, none⟩ = some (.int .i64 (K : Int)) := hb.cell h2
  generalize L[K].en = en at *
  go_enter Tryz.func173, Tryz.ntmps173
  go_wp2_with fail
  go_quiet (fail)
  go_wp2_with fail
  go_ret
  exact ⟨rfl, _, rfl⟩

/-- The byte at hand behind blanks; 0: the line is at its end. -/
def nowB (s : ByteArray) (k en : Nat) : Int := if skipBl s k < en then byteAt s (skipBl s k) else 0

theorem skipBl_en (s : ByteArray) (k en : Nat) (h : k ≤ en) (he : en ≤ s.size) (hb : en < s.size → byteAt s en = 10) : skipBl s k ≤ en := by
  by_cases hk : k < en
  · by_cases hc : byteAt s k = 32
    · rw [skipBl_blank s k (by omega) hc]; exact skipBl_en s (k + 1) en (by omega) he hb
    · rw [skipBl_stop s k (by omega) hc]; exact h
  · have : k = en := by omega
    subst this
    by_cases hlt : k < s.size
    · rw [skipBl_stop s k hlt (by rw [hb hlt]; omega)]; exact Nat.le_refl _
    · rw [skipBl_end s k hlt]; exact Nat.le_refl _
termination_by en - k

set_option maxHeartbeats 1000000 in
theorem now_any (b : Nat) (cs : Array Value) (T : TypeId) (s : ByteArray) (lv : Value) (L : List LineV) (base K k0 : Nat) (w : World) (hb : Blk w b cs T) (h0 : cs[0]? = some (.string s)) (h1 : cs[1]? = some lv) (h2 : cs[2]? = some (.int .i64 (K : Int))) (h3 : cs[3]? = some (.int .i64 (k0 : Int)))
    (hl : w.ownsRow base 158 3 lv L.length (L.flatMap LineV.cells)) (hK : K < L.length) (hs : s.size ≤ 1000) (en : Nat) (hen : L[K].en = en) (hk : k0 ≤ en) (hes : en ≤ s.size) (hnl : en < s.size → byteAt s en = 10) :
    Calls Tryz.prog 131 #[.pointer (some ⟨b, 0, none⟩)] w fun e w' => e = .returned (.int .u8 (nowB s k0 en)) ∧ Blk w' b (cs.setIfInBounds 3 (.int .i64 (skipBl s k0))) T ∧ But [b] w w' ∧ w'.heap.size = w.heap.size := by
  have HNL : Hid _ := hnl
  have HEN : Hid _ := hen
  clear hnl hen
  go_enter Tryz.func131, Tryz.ntmps131
  go_wp2_with fail
  refine (rend_any b cs T lv L base K w hb h1 h2 hl hK).mono ?_
  rintro e w1 ⟨rfl, m, rfl⟩
  rw [HEN.out]
  go_wp2_with fail
  go_loopg [] (en - k0) (fun gk wr => ∃ k : Nat, k0 ≤ k ∧ k ≤ en ∧ gk = en - k ∧ skipBl s k0 = skipBl s k ∧ Blk wr b (cs.setIfInBounds 3 (.int .i64 k)) T ∧ But [b] w wr ∧ wr.heap.size = w.heap.size)
  case atStart => exact ⟨k0, Nat.le_refl _, hk, rfl, rfl, by rw [set_self h3]; exact hb, (But.refl _ _).drewN _, rfl⟩
  case round =>
    obtain ⟨k, hk1, hk2, rfl, hsk, hB, hbut, hsz⟩ := hrel
    have HS : Hid (skipBl s k0 = skipBl s k) := hsk
    have HZ : Hid (wr.heap.size = w.heap.size) := hsz
    clear hsk hsz
    have i3 := (Array.getElem?_eq_some_iff.1 h3).1
    have c0 : wr.cell? ⟨b, 0, none⟩ = some (.string s) := hB.cell (by simp [h0])
    have c3 : wr.cell? ⟨b, 3, none⟩ = some (.int .i64 k) := hB.cell (by simp [i3])
    have f3 : wr.frozen? ⟨b, 3, none⟩ = false := hB.free 3
    clear h0 h1 h2 h3
    by_cases hlt : k < en
    · have hd : decide ((k : Int) < (en : Int)) = true := by simpa using hlt
      have hks : k < s.size := by omega
      by_cases hbl : s[k].toNat = 32
      · go_wp2_with fail
        go_quiet (fail)
        go_wp2_with fail
        go_roundg (en - (k + 1))
        case measure => omega
        case rel => exact ⟨k + 1, by omega, by omega, rfl, by rw [HS.out, skipBl_blank s k hks (by rw [byteAt_lt s k hks]; omega)], by have := (hB.drewN nq).set 3 (.int .i64 (k + 1)); rw [set_set] at this; exact this, (hbut.drewN nq).setCell (by simp) _, by simpa using HZ.out⟩
      · go_wp2_with fail
        go_quiet (fail)
        go_wp2_with fail
        go_quiet (fail)
        go_wp2_with fail
        go_ret
        have e : skipBl s k0 = k := by rw [HS.out, skipBl_stop s k hks (by rw [byteAt_lt s k hks]; omega)]
        rw [nowB, e]
        exact ⟨ret_int (by rw [if_pos hlt, byteAt_lt s k hks]), hB, by repeat (first | exact hbut | refine But.drewN ?_ _), HZ.out⟩
    · have hd : decide ((k : Int) < (en : Int)) = false := by simpa using hlt
      have hke : k = en := by omega
      go_wp2_with fail
      go_quiet (fail)
      go_wp2_with fail
      go_ret
      have e : skipBl s k0 = k := by
        rw [HS.out]
        by_cases hks : k < s.size
        · exact skipBl_stop s k hks (by rw [hke] at hks ⊢; rw [HNL.out hks]; omega)
        · exact skipBl_end s k hks
      rw [nowB, e]
      exact ⟨ret_int (by rw [if_neg hlt]), hB, by repeat (first | exact hbut | refine But.drewN ?_ _), HZ.out⟩

/-- The next byte, without blanks; -1: the line is at its end. -/
def overB (s : ByteArray) (k en : Nat) : Int := if k < en then byteAt s k else -1

set_option maxHeartbeats 400000 in
theorem over_any (b : Nat) (cs : Array Value) (T : TypeId) (s : ByteArray) (lv : Value) (L : List LineV) (base K k : Nat) (w : World) (hb : Blk w b cs T) (h0 : cs[0]? = some (.string s)) (h1 : cs[1]? = some lv) (h2 : cs[2]? = some (.int .i64 (K : Int))) (h3 : cs[3]? = some (.int .i64 (k : Int)))
    (hl : w.ownsRow base 158 3 lv L.length (L.flatMap LineV.cells)) (hK : K < L.length) (en : Nat) (hen : L[K].en = en) (hes : en ≤ s.size) :
    Calls Tryz.prog 172 #[.pointer (some ⟨b, 0, none⟩)] w fun e w' => e = .returned (.int .i64 (overB s k en)) ∧ ∃ m, w' = w.drewN m := by
  have c0 : w.cell? ⟨b, 0, none⟩ = some (.string s) := hb.cell h0
  have c3 : w.cell? ⟨b, 3, none⟩ = some (.int .i64 (k : Int)) := hb.cell h3
  have HEN : Hid _ := hen
  clear hen
  go_enter Tryz.func172, Tryz.ntmps172
  go_wp2_with fail
  refine (rend_any b cs T lv L base K w hb h1 h2 hl hK).mono ?_
  rintro e w1 ⟨rfl, m, rfl⟩
  rw [HEN.out]
  by_cases hlt : k < en
  · have hks : k < s.size := by omega
    have hx1 : (s[k].toNat : Int) ≤ 255 := by have := s[k].toNat_lt; omega
    go_wp2_with fail
    go_quiet (fail)
    go_wp2_with fail
    go_ret
    refine ⟨ret_int ?_, m + nq, by simp⟩
    rw [overB, if_pos hlt, byteAt_lt s k hks]
  · go_wp2_with fail
    go_ret
    exact ⟨ret_int (by rw [overB, if_neg hlt]), _, rfl⟩

end Go.Proofs.YtkflkmmbakccoaaGreatDoor

/- WALKS: package grafterref: word. -/
namespace Go.Proofs.YtkflkmmbakccoaaGreatDoor
open Go.RowKit Go.Maps

/-- What is known of the Reader's cells while a line is read. -/
structure RCell (cs : Array Value) (s : ByteArray) (lv : Value) (K k er : Nat) : Prop where
  h0 : cs[0]? = some (.string s)
  h1 : cs[1]? = some lv
  h2 : cs[2]? = some (.int .i64 (K : Int))
  h3 : cs[3]? = some (.int .i64 (k : Int))
  h11 : cs[11]? = some (.int .i64 (er : Int))
  h12 : ∃ z, cs[12]? = some z

theorem RCell.at {cs : Array Value} {s : ByteArray} {lv : Value} {K k er : Nat} (h : RCell cs s lv K k er) (q : Nat) : RCell (cs.setIfInBounds 3 (.int .i64 (q : Int))) s lv K q er := by
  have i3 := (Array.getElem?_eq_some_iff.1 h.h3).1
  obtain ⟨z, hz⟩ := h.h12
  exact ⟨by simp [h.h0], by simp [h.h1], by simp [h.h2], by simp [i3], by simp [h.h11], z, by simp [hz]⟩

theorem wEnd_en (s : ByteArray) (k en : Nat) (h : k ≤ en) (he : en ≤ s.size) (hb : en < s.size → byteAt s en = 10) : wEnd s k ≤ en := by
  by_cases hk : k < en
  · by_cases hc : isWB (byteAt s k) = true
    · rw [wEnd_go s k (by omega) hc]; exact wEnd_en s (k + 1) en (by omega) he hb
    · rw [wEnd_stop s k (by omega) (by simpa using hc)]; exact h
  · have : k = en := by omega
    subst this
    by_cases hlt : k < s.size
    · rw [wEnd_stop s k hlt (by rw [hb hlt]; rfl)]; exact Nat.le_refl _
    · rw [wEnd_end s k hlt]; exact Nat.le_refl _
termination_by en - k

/-- What the reading of a word or a string leaves. -/
def WordPost (b : Nat) (cs : Array Value) (T : TypeId) (er : Nat) (rr : ByteArray × Bool × Nat) (x : ByteArray) (w' : World) : Prop :=
  if rr.2.1 = true then x = rr.1 ∧ Blk w' b (cs.setIfInBounds 3 (.int .i64 (rr.2.2 : Int))) T
  else Blk w' b (wrC (cs.setIfInBounds 3 (.int .i64 (rr.2.2 : Int))) er 3 (rr.2.2 : Int)) T

theorem conv_one (W : World) (v : Int) : (convert 96 9 (.slice (some ⟨W.heap.size, 0, none⟩) 1 1)).run Tryz.prog (W.alloc (.cells #[.int .u8 v] 5)) = .ok (.string (ByteArray.empty.push (UInt8.ofNat v.toNat))) (W.alloc (.cells #[.int .u8 v] 5)) := by
  rw [run_convert_bytes_string _ 96 9 5 _ _ _ (by kernel_rfl) (by kernel_rfl) (by kernel_rfl)]
  have hc : (W.alloc (.cells #[.int .u8 v] 5)).cell? ⟨W.heap.size, 0, none⟩ = some (.int .u8 v) := Blk.cell (cs := #[.int .u8 v]) (T := 5) (heap_alloc_new W _) rfl
  have e0 : (⟨W.heap.size, 0, none⟩ : Addr).add 0 = ⟨W.heap.size, 0, none⟩ := rfl
  rw [run_bytesToString _ _ 1 1 [v] (by simp [loadCells, loadCellsFrom, load, Sem.run, Sem.bind, bind, e0, hc])]
  rfl

theorem extract_snoc (s : ByteArray) (q k : Nat) (h1 : q ≤ k) (hk : k < s.size) : s.extract q k ++ ByteArray.empty.push (UInt8.ofNat (byteAt s k).toNat) = s.extract q (k + 1) := by
  have e : UInt8.ofNat (byteAt s k).toNat = s[k] := by rw [byteAt_lt s k hk]; simp
  rw [e]
  apply ByteArray.ext
  simp only [ByteArray.data_append, ByteArray.data_extract]
  have e2 : (ByteArray.empty.push s[k]).data = #[s.data[k]] := rfl
  rw [e2, Array.append_singleton]
  rw [Array.extract_succ_right (by omega) (by exact hk)]

set_option maxRecDepth 20000 in
set_option maxHeartbeats 1000000 in
theorem rword_any (b : Nat) (cs : Array Value) (T : TypeId) (s : ByteArray) (lv : Value) (L : List LineV) (base K k0 er : Nat) (w : World) (hb : Blk w b cs T) (hc : RCell cs s lv K k0 er)
    (hl : w.ownsRow base 158 3 lv L.length (L.flatMap LineV.cells)) (hlb : b ∉ own lv) (hK : K < L.length) (hs : s.size ≤ 1000) (en : Nat) (hen : L[K].en = en) (hk : k0 ≤ en) (hes : en ≤ s.size) (hnl : en < s.size → byteAt s en = 10) :
    Calls Tryz.prog 171 #[.pointer (some ⟨b, 0, none⟩)] w fun e w' => ∃ x, e = .returned (.string x) ∧ But [b] w w' ∧ WordPost b cs T er (rdWord s (skipBl s k0)) x w' := by
  have HNL : Hid _ := hnl
  have HEN : Hid _ := hen
  clear hnl hen
  go_enter Tryz.func171, Tryz.ntmps171
  go_wp2_with fail
  refine (now_any b cs T s lv L base K k0 w hb hc.h0 hc.h1 hc.h2 hc.h3 hl hK hs en HEN.out hk hes HNL.out).mono ?_
  rintro e w1 ⟨rfl, hB1, hb1, hz1⟩
  have hc1 := hc.at (skipBl s k0)
  have hq := skipBl_en s k0 en hk hes HNL.out
  have hl1 := ownsRow_but hl hb1 (fun x hx hy => hlb (by have := List.mem_singleton.1 hy; exact this ▸ hx))
  generalize hqq : skipBl s k0 = q at *
  have HQ : Hid (skipBl s k0 = q) := hqq
  clear hqq hz1
  go_wp2_with fail
  go_loopg [3] (en - q) (fun gk sv wr => ∃ k : Nat, q ≤ k ∧ k ≤ en ∧ k - q ≤ 12 ∧ gk = en - k ∧ (∃ x : ByteArray, sv = .string x ∧ x = s.extract q k) ∧ wEnd s q = wEnd s k ∧ Blk wr b (cs.setIfInBounds 3 (.int .i64 k)) T ∧ But [b] w wr)
  case atStart => exact ⟨q, Nat.le_refl _, hq, by omega, rfl, ⟨_, rfl, by simp; rfl⟩, rfl, hB1, hb1⟩
  case round =>
    obtain ⟨k, hk1, hk2, hk12, rfl, ⟨x, rfl, hx⟩, hsk, hB, hbut⟩ := hrel
    have HX : Hid (x = s.extract q k) := hx
    have hxs : x.size = k - q := by rw [hx, ByteArray.size_extract]; omega
    have HXS : Hid _ := hxs
    have hxb : x.size ≤ 1000 := by omega
    clear hx hxs
    have HS : Hid (wEnd s q = wEnd s k) := hsk
    clear hsk
    have hck := hc.at k
    have hlk := ownsRow_but hl hbut (fun x hx hy => hlb (by have := List.mem_singleton.1 hy; exact this ▸ hx))
    go_wp2_with fail
    refine (over_any b _ T s lv L base K k wr hB hck.h0 hck.h1 hck.h2 hck.h3 hlk hK en HEN.out hes).mono ?_
    rintro e w2 ⟨rfl, m, rfl⟩
    have c3 : wr.cell? ⟨b, 3, none⟩ = some (.int .i64 (k : Int)) := hB.cell hck.h3
    have f3 : wr.frozen? ⟨b, 3, none⟩ = false := hB.free 3
    have hov : overB s k en ≤ 255 := by unfold overB; split; exact (byteAt_bd s k).2; omega
    by_cases hw : isWB (overB s k en) = true
    · have hke : k < en := by
        by_cases h : k < en
        · exact h
        · rw [overB, if_neg h] at hw; cases hw
      have ho : overB s k en = byteAt s k := by rw [overB, if_pos hke]
      have hwb : isWB (byteAt s k) = true := by rw [← ho]; exact hw
      have h0b : 0 ≤ overB s k en := by have := byteAt_lt s k (by omega); rw [ho, this]; omega
      have HO : Hid _ := ho
      clear ho
      by_cases h12 : k - q = 12
      · have hx12 : ((x.size : Int) == 12) = true := by rw [HXS.out]; simp; omega
        go_wp2_with (go_at_call 109; refine (letter_any _ _).mono ?_; rintro e w' ⟨rfl, rfl⟩)
        obtain ⟨z, hz⟩ := hck.h12
        refine (wrong_any b _ T er z 3 (k : Int) _ (hB.drewN m) hck.h11 hz).mono ?_
        rintro e w3 ⟨rfl, hB3, hb3, _⟩
        have he : wEnd s q - q > 12 := by rw [HS.out, wEnd_go s k (by omega) hwb]; have := wEnd_ge s (k + 1); omega
        have HR : Hid (rdWord s q = (ByteArray.empty, false, k)) := by unfold Hid; rw [rdWord, if_pos he]; simp; omega
        clear he hwb hw
        go_wp2_with fail
        go_ret
        refine ⟨x, rfl, (hbut.drewN m).trans hb3 (by simp), ?_⟩
        rw [HQ.out, HR.out]
        exact hB3
      · have hx12 : ((x.size : Int) == 12) = false := by rw [HXS.out]; simp; omega
        have hcv : (convert 96 9 (.slice (some ⟨wr.heap.size, 0, none⟩) 1 1)).run Tryz.prog ((wr.drewN m).alloc (.cells #[.int .u8 (overB s k en)] 5)) = .ok (.string (ByteArray.empty.push (UInt8.ofNat (overB s k en).toNat))) ((wr.drewN m).alloc (.cells #[.int .u8 (overB s k en)] 5)) := conv_one (wr.drewN m) _
        have hys : (ByteArray.empty.push (UInt8.ofNat (overB s k en).toNat)).size = 1 := rfl
        obtain ⟨y, HY⟩ : ∃ y, Hid (y = ByteArray.empty.push (UInt8.ofNat (overB s k en).toNat)) := ⟨_, rfl⟩
        rw [← HY.out] at hcv hys
        have hy1 : y.size ≤ 1 := by omega
        clear hys
        have hBn : Blk ((wr.drewN m).alloc (.cells #[.int .u8 (overB s k en)] 5)) b (cs.setIfInBounds 3 (.int .i64 k)) T := (alloc_but _ _).blk (hB.drewN m) (by simp)
        have d3 := hBn.cell hck.h3
        have g3 := hBn.free 3
        go_wp2_with (go_at_call 109; refine (letter_any _ _).mono ?_; rintro e w' ⟨rfl, rfl⟩)
        go_roundg (en - (k + 1))
        case measure => omega
        case rel =>
          refine ⟨k + 1, by omega, by omega, by omega, rfl, ⟨_, rfl, ?_⟩, by rw [HS.out, wEnd_go s k (by omega) hwb], ?_, ?_⟩
          · rw [HX.out, HY.out, HO.out]
            exact extract_snoc s q k hk1 (by omega)
          · have := hBn.set 3 (.int .i64 ((k : Int) + 1))
            rw [set_set] at this
            exact this
          · repeat (first | exact hbut | refine But.drewN ?_ _ | refine But.setCell ?_ (by simp) _ | refine But.alloc ?_ _)
    · have hwf : isWB (overB s k en) = false := by simpa using hw
      have he : wEnd s q = k := by
        rw [HS.out]
        by_cases hke : k < en
        · rw [overB, if_pos hke] at hwf
          exact wEnd_stop s k (by omega) hwf
        · have hke' : k = en := by omega
          by_cases hks : k < s.size
          · exact wEnd_stop s k hks (by rw [hke'] at hks ⊢; rw [HNL.out hks]; rfl)
          · exact wEnd_end s k hks
      have HE : Hid _ := he
      clear he hw
      by_cases hemp : k = q
      · have hxe : x = ⟨#[]⟩ := by
          apply ByteArray.ext
          have := HXS.out
          exact Array.eq_empty_of_size_eq_zero (by show x.size = 0; omega)
        subst hxe
        have HR : Hid (rdWord s q = (s.extract q k, false, k)) := by unfold Hid; rw [rdWord, HE.out, if_neg (by omega), decide_eq_false (by omega)]
        obtain ⟨z, hz⟩ := hck.h12
        clear hemp
        go_wp2_with (go_at_call 109; refine (letter_any _ _).mono ?_; rintro e w' ⟨rfl, rfl⟩)
        refine (wrong_any b _ T er z 3 (k : Int) _ (hB.drewN m) hck.h11 hz).mono ?_
        rintro e w3 ⟨rfl, hB3, hb3, _⟩
        go_wp2_with fail
        go_ret
        refine ⟨_, rfl, (hbut.drewN m).trans hb3 (by simp), ?_⟩
        rw [HQ.out, HR.out]
        exact hB3
      · have HR : Hid (rdWord s q = (s.extract q k, true, k)) := by unfold Hid; rw [rdWord, HE.out, if_neg (by omega), decide_eq_true (by omega)]
        have hxne : (x.toList == []) = false := by
          have := HXS.out
          have e1 : x.toList = x.data.toList := ByteArray.toList_eq x
          have e2 : x.data.toList.length = x.size := by simp
          rw [e1]
          cases h : x.data.toList with
          | nil => rw [h] at e2; simp at e2; omega
          | cons a l => rfl
        go_wp2_with (go_at_call 109; refine (letter_any _ _).mono ?_; rintro e w' ⟨rfl, rfl⟩)
        go_ret
        refine ⟨x, rfl, hbut.drewN m, ?_⟩
        rw [HQ.out, HR.out]
        exact ⟨HX.out, hB⟩

end Go.Proofs.YtkflkmmbakccoaaGreatDoor

/- WALKS: package grafterref: scalar. -/
namespace Go.Proofs.YtkflkmmbakccoaaGreatDoor
open Go.RowKit Go.Maps

theorem kindB_3 (x : Int) : kindB x = 3 ↔ x = 34 := by
  constructor
  · intro h
    by_cases hx : x = 34
    · exact hx
    · exfalso
      have h1 : (x == (34 : Int)) = false := by simpa using hx
      unfold kindB at h
      rw [h1] at h
      by_cases g1 : (x == (10 : Int)) = true
      · rw [if_pos g1] at h; omega
      rw [if_neg g1, if_neg (by decide)] at h
      by_cases g2 : (x == (45 : Int)) = true
      · rw [if_pos g2] at h; omega
      rw [if_neg g2] at h
      by_cases g3 : (x == (58 : Int)) = true
      · rw [if_pos g3] at h; omega
      rw [if_neg g3] at h
      by_cases g4 : (x == (44 : Int)) = true
      · rw [if_pos g4] at h; omega
      rw [if_neg g4] at h
      by_cases g5 : (x == (42 : Int)) = true
      · rw [if_pos g5] at h; omega
      rw [if_neg g5] at h
      by_cases g6 : (x == (38 : Int)) = true
      · rw [if_pos g6] at h; omega
      rw [if_neg g6] at h
      by_cases g7 : (x == (91 : Int)) = true
      · rw [if_pos g7] at h; omega
      rw [if_neg g7] at h
      by_cases g8 : (x == (93 : Int)) = true
      · rw [if_pos g8] at h; omega
      rw [if_neg g8] at h
      by_cases g9 : (x == (123 : Int)) = true
      · rw [if_pos g9] at h; omega
      rw [if_neg g9] at h
      by_cases g10 : (x == (125 : Int)) = true
      · rw [if_pos g10] at h; omega
      rw [if_neg g10] at h
      by_cases g11 : isWB x = true
      · rw [if_pos g11] at h; omega
      rw [if_neg g11] at h; omega
  · intro h; subst h; rfl

theorem kindAt_3 {s : ByteArray} {q en : Nat} (hq : q ≤ en) (he : en ≤ s.size) (hb : en < s.size → byteAt s en = 10) : kindAt s q = 3 ↔ (q < en ∧ byteAt s q = 34) := by
  unfold kindAt
  constructor
  · intro h
    split at h
    · rename_i hs
      have h34 := (kindB_3 _).1 h
      refine ⟨?_, h34⟩
      by_cases hlt : q < en
      · exact hlt
      · have : q = en := by omega
        subst this
        have := hb hs
        omega
    · omega
  · rintro ⟨h1, h2⟩
    rw [if_pos (by omega), h2]
    rfl

theorem qEnd_en (s : ByteArray) (k en : Nat) (h : k ≤ en) (he : en ≤ s.size) (hb : en < s.size → byteAt s en = 10) : qEnd s k ≤ en := by
  by_cases hk : k < en
  · by_cases hc : byteAt s k = 10 ∨ byteAt s k = 34
    · rw [qEnd_stop s k (by omega) hc]; exact h
    · rw [qEnd_go s k (by omega) (fun e => hc (.inl e)) (fun e => hc (.inr e))]; exact qEnd_en s (k + 1) en (by omega) he hb
  · have : k = en := by omega
    subst this
    by_cases hlt : k < s.size
    · rw [qEnd_stop s k hlt (.inl (hb hlt))]; exact Nat.le_refl _
    · rw [qEnd_end s k hlt]; exact Nat.le_refl _
termination_by en - k

set_option maxRecDepth 20000 in
set_option maxHeartbeats 1000000 in
theorem rscalar_any (b : Nat) (cs : Array Value) (T : TypeId) (s : ByteArray) (lv : Value) (L : List LineV) (base K k0 er : Nat) (w : World) (hb : Blk w b cs T) (hc : RCell cs s lv K k0 er)
    (hl : w.ownsRow base 158 3 lv L.length (L.flatMap LineV.cells)) (hlb : b ∉ own lv) (hK : K < L.length) (hs : s.size ≤ 1000) (en : Nat) (hen : L[K].en = en) (hk : k0 ≤ en) (hes : en ≤ s.size) (hnl : en < s.size → byteAt s en = 10) (hln : ∀ j, k0 ≤ j → j < en → byteAt s j ≠ 10) :
    Calls Tryz.prog 130 #[.pointer (some ⟨b, 0, none⟩)] w fun e w' => ∃ x, e = .returned (.string x) ∧ But [b] w w' ∧ WordPost b cs T er (rdAny s (skipBl s k0)) x w' := by
  have HNL : Hid _ := hnl
  have HEN : Hid _ := hen
  have HLN : Hid _ := hln
  clear hnl hen hln
  go_enter Tryz.func130, Tryz.ntmps130
  go_wp2_with fail
  refine (now_any b cs T s lv L base K k0 w hb hc.h0 hc.h1 hc.h2 hc.h3 hl hK hs en HEN.out hk hes HNL.out).mono ?_
  rintro e w1 ⟨rfl, hB1, hb1, hz1⟩
  have hc1 := hc.at (skipBl s k0)
  have hq := skipBl_en s k0 en hk hes HNL.out
  have hqg := skipBl_ge s k0
  have hl1 := ownsRow_but hl hb1 (fun x hx hy => hlb (by have := List.mem_singleton.1 hy; exact this ▸ hx))
  have h3 := kindAt_3 hq hes HNL.out
  by_cases hstr : kindAt s (skipBl s k0) = 3
  · obtain ⟨hqe, h34⟩ := h3.1 hstr
    have HR : Hid (rdAny s (skipBl s k0) = rdStr s (skipBl s k0 + 1)) := by unfold Hid; rw [rdAny, if_pos hstr]
    have hnow : nowB s k0 en = 34 := by rw [nowB, if_pos hqe, h34]
    rw [hnow]
    generalize hqq : skipBl s k0 = q at *
    have HQ : Hid (skipBl s k0 = q) := hqq
    have c3 : w1.cell? ⟨b, 3, none⟩ = some (.int .i64 (q : Int)) := hB1.cell hc1.h3
    have f3 : w1.frozen? ⟨b, 3, none⟩ = false := hB1.free 3
    clear hqq hz1 h3 hstr h34 hnow
    go_wp2_with fail
    refine name_world fun W hW => ?_
    have hBW : Blk W b (cs.setIfInBounds 3 (.int .i64 ((q + 1 : Nat) : Int))) T := by
      rw [hW.out]
      have := hB1.set 3 (.int .i64 ((q : Int) + 1))
      rw [set_set] at this
      exact this
    have hbW : But [b] w W := by rw [hW.out]; exact hb1.setCell (by simp) _
    clear hW c3 f3
    obtain ⟨a, HA⟩ : ∃ a, Hid (a = q + 1) := ⟨_, rfl⟩
    rw [← HA.out] at hBW
    have ha1 : a ≤ en := by rw [HA.out]; omega
    have hak : k0 ≤ a := by rw [HA.out]; omega
    go_loopg [4] (en - a) (fun gk sv wr => ∃ k : Nat, a ≤ k ∧ k ≤ en ∧ k - a ≤ 20 ∧ gk = en - k ∧ (∃ x : ByteArray, sv = .string x ∧ x = s.extract a k) ∧ qEnd s a = qEnd s k ∧ Blk wr b (cs.setIfInBounds 3 (.int .i64 k)) T ∧ But [b] w wr)
    case atStart => exact ⟨a, Nat.le_refl _, ha1, by omega, rfl, ⟨_, rfl, by simp; rfl⟩, rfl, hBW, hbW⟩
    case round =>
      obtain ⟨k, hk1, hk2, hk12, rfl, ⟨x, rfl, hx⟩, hsk, hB, hbut⟩ := hrel
      have HX : Hid (x = s.extract a k) := hx
      have hxs : x.size = k - a := by rw [hx, ByteArray.size_extract]; omega
      have HXS : Hid _ := hxs
      have hxb : x.size ≤ 1000 := by omega
      have HS : Hid (qEnd s a = qEnd s k) := hsk
      clear hx hxs hsk
      have hck := hc.at k
      have hlk := ownsRow_but hl hbut (fun x hx hy => hlb (by have := List.mem_singleton.1 hy; exact this ▸ hx))
      go_wp2_with fail
      refine (over_any b _ T s lv L base K k wr hB hck.h0 hck.h1 hck.h2 hck.h3 hlk hK en HEN.out hes).mono ?_
      rintro e w2 ⟨rfl, m, rfl⟩
      have c3 : wr.cell? ⟨b, 3, none⟩ = some (.int .i64 (k : Int)) := hB.cell hck.h3
      have f3 : wr.frozen? ⟨b, 3, none⟩ = false := hB.free 3
      obtain ⟨z, hz⟩ := hck.h12
      by_cases hke : k < en
      · have hks : k < s.size := by omega
        have ho : overB s k en = byteAt s k := by rw [overB, if_pos hke]
        have hbd := byteAt_bd s k
        have h0b : 0 ≤ byteAt s k := by rw [byteAt_lt s k hks]; omega
        have hn10 : byteAt s k ≠ 10 := HLN.out k (by omega) hke
        rw [ho]
        by_cases h34 : byteAt s k = 34
        · have HE : Hid (rdStr s a = (s.extract a k, true, k + 1)) := by
            unfold Hid
            have he : qEnd s a = k := by rw [HS.out]; exact qEnd_stop s k hks (.inr h34)
            rw [rdStr, he, if_neg (by omega), if_pos h34]
          rw [h34]
          clear h34 hn10 h0b hbd ho
          go_wp2_with fail
          go_ret
          refine ⟨x, rfl, (hbut.drewN m).setCell (by simp) _, ?_⟩
          rw [HQ.out, HR.out, ← HA.out, HE.out]
          refine ⟨HX.out, ?_⟩
          have := (hB.drewN m).set 3 (.int .i64 ((k : Int) + 1))
          rw [set_set] at this
          exact this
        · have hgo : qEnd s k = qEnd s (k + 1) := qEnd_go s k hks hn10 h34
          have HGO : Hid _ := hgo
          have b34 : (byteAt s k == 34) = false := by simp [h34]
          by_cases h20 : k - a = 20
          · have HE : Hid (rdStr s a = (ByteArray.empty, false, k)) := by
              unfold Hid
              have := qEnd_ge s (k + 1)
              rw [rdStr, HS.out, hgo, if_pos (by omega)]
              simp; omega
            have hx20 : ((x.size : Int) == 20) = true := by rw [HXS.out]; simp; omega
            clear hgo h34 hn10 ho
            generalize byteAt s k = v at *
            go_wp2_with fail
            refine (wrong_any b _ T er z 3 (k : Int) _ (hB.drewN m) hck.h11 hz).mono ?_
            rintro e w3 ⟨rfl, hB3, hb3, _⟩
            go_wp2_with fail
            go_ret
            refine ⟨x, rfl, (hbut.drewN m).trans hb3 (by simp), ?_⟩
            rw [HQ.out, HR.out, ← HA.out, HE.out]
            exact hB3
          · have hx20 : ((x.size : Int) == 20) = false := by rw [HXS.out]; simp; omega
            have HSN := extract_snoc s a k hk1 hks
            have HSN' : Hid _ := HSN
            clear hgo h34 hn10 ho HSN
            generalize byteAt s k = v at *
            have hcv : (convert 96 9 (.slice (some ⟨wr.heap.size, 0, none⟩) 1 1)).run Tryz.prog ((wr.drewN m).alloc (.cells #[.int .u8 v] 5)) = .ok (.string (ByteArray.empty.push (UInt8.ofNat v.toNat))) ((wr.drewN m).alloc (.cells #[.int .u8 v] 5)) := conv_one (wr.drewN m) _
            have hys : (ByteArray.empty.push (UInt8.ofNat v.toNat)).size = 1 := rfl
            obtain ⟨y, HY⟩ : ∃ y, Hid (y = ByteArray.empty.push (UInt8.ofNat v.toNat)) := ⟨_, rfl⟩
            rw [← HY.out] at hcv hys
            have hy1 : y.size ≤ 1 := by omega
            clear hys
            have hBn : Blk ((wr.drewN m).alloc (.cells #[.int .u8 v] 5)) b (cs.setIfInBounds 3 (.int .i64 k)) T := (alloc_but _ _).blk (hB.drewN m) (by simp)
            have d3 := hBn.cell hck.h3
            have g3 := hBn.free 3
            go_wp2_with fail
            go_roundg (en - (k + 1))
            case measure => omega
            case rel =>
              refine ⟨k + 1, by omega, by omega, by omega, rfl, ⟨_, rfl, ?_⟩, by rw [HS.out, HGO.out], ?_, ?_⟩
              · rw [HX.out, HY.out]
                exact HSN'.out
              · have := hBn.set 3 (.int .i64 ((k : Int) + 1))
                rw [set_set] at this
                exact this
              · repeat (first | exact hbut | refine But.drewN ?_ _ | refine But.setCell ?_ (by simp) _ | refine But.alloc ?_ _)
      · have hke' : k = en := by omega
        have ho : overB s k en = -1 := by rw [overB, if_neg hke]
        have HE : Hid (rdStr s a = (ByteArray.empty, false, k)) := by
          unfold Hid
          have he : qEnd s a = k := by
            rw [HS.out]
            by_cases hks : k < s.size
            · exact qEnd_stop s k hks (.inl (by rw [hke'] at hks ⊢; exact HNL.out hks))
            · exact qEnd_end s k hks
          have hne : byteAt s k ≠ 34 := by
            by_cases hks : k < s.size
            · rw [hke'] at hks ⊢; rw [HNL.out hks]; omega
            · rw [byteAt_ge s k hks]; omega
          rw [rdStr, he, if_neg (by omega), if_neg hne]
        rw [ho]
        clear ho hke'
        go_wp2_with fail
        refine (wrong_any b _ T er z 3 (k : Int) _ (hB.drewN m) hck.h11 hz).mono ?_
        rintro e w3 ⟨rfl, hB3, hb3, _⟩
        go_wp2_with fail
        go_ret
        refine ⟨x, rfl, (hbut.drewN m).trans hb3 (by simp), ?_⟩
        rw [HQ.out, HR.out, ← HA.out, HE.out]
        exact hB3
  · have HR : Hid (rdAny s (skipBl s k0) = rdWord s (skipBl s k0)) := by unfold Hid; rw [rdAny, if_neg hstr]
    have hnow : (nowB s k0 en != 34) = true := by
      unfold nowB
      split
      · rename_i hlt
        simp
        exact fun h => hstr (h3.2 ⟨hlt, h⟩)
      · rfl
    have hcall := rword_any b _ T s lv L base K (skipBl s k0) er w1 hB1 hc1 hl1 hlb hK hs en HEN.out hq hes HNL.out
    rw [skipBl_idem] at hcall
    clear hz1 h3 hstr
    go_wp2_with fail
    refine hcall.mono ?_
    rintro e w2 ⟨x, rfl, hb2, hp2⟩
    go_wp2_with fail
    go_ret
    refine ⟨x, rfl, hb1.trans hb2 (by simp), ?_⟩
    rw [HR.out]
    unfold WordPost at hp2 ⊢
    rw [set_set] at hp2
    exact hp2

end Go.Proofs.YtkflkmmbakccoaaGreatDoor
