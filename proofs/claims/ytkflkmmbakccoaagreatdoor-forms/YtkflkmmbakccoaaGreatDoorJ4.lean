/- PARTS: W6, W7, W8, W9, Inv2, W10, Inv3, W11. -/
import Derived.Test.YtkflkmmbakccoaaGreatDoorJ2
import Derived.Test.YtkflkmmbakccoaaGreatDoorJ3
import Derived.Test.YtkflkmmbakccoaaGreatDoorChecked
import Derived.Lib.Strings
import Derived.Lib.Walk
import Derived.Lib.BufferWrite
import Derived.Lib.UnsafeStr
import Derived.Laws.MakeOwn

/- WALKS: package parse: fail, wrongByte, expect, lineIsOver, beginsText, beginsValue. -/
namespace Go.Proofs.YtkflkmmbakccoaaGreatDoor
open Go.RowKit

abbrev pp (E : Env) : Value := .pointer (some ⟨E.p, 0, none⟩)

set_option maxHeartbeats 400000 in
theorem fail_any (E : Env) (t : PS) (nv : Value) (rows : List Row) (w : World) (h : PInv E t nv rows w) (er pl : Nat) (her : er ≠ 0 := by omega) :
    Calls Tryz.prog 86 #[pp E, .int .i64 (er : Int), .int .i64 (pl : Int)] w fun e w' => e = .returned (.bool false) ∧ Bad E nv w er pl w' := by
  have f9 : w.frozen? ⟨E.p, 9, none⟩ = false := h.par.free 9
  have f10 : w.frozen? ⟨E.p, 10, none⟩ = false := h.par.free 10
  have c9 : w.cell? ⟨E.p, 9, none⟩ = some (.int .i64 0) := h.par.cell rfl
  have c10 : w.cell? ⟨E.p, 10, none⟩ = some (.int .i64 0) := h.par.cell rfl
  go_enter Tryz.func86, Tryz.ntmps86
  go_wp2_with fail
  go_ret
  refine ⟨rfl, ((But.refl _ _).setCell (by simp) _).setCell (by simp) _, ?_, ?_, her⟩
  · exact ((h.par.set 9 _).set 10 _).cell (by simp [pcells])
  · exact ((h.par.set 9 _).set 10 _).cell (by simp [pcells])

set_option maxHeartbeats 400000 in
theorem wrongByte_any (E : Env) (t : PS) (nv : Value) (rows : List Row) (w : World) (h : PInv E t nv rows w) :
    Calls Tryz.prog 57 #[pp E] w fun e w' => e = .returned (.bool false) ∧ Bad E nv w 3 t.k w' := by
  go_enter Tryz.func57, Tryz.ntmps57
  go_wp2_with fail
  refine (place_any E.p _ _ (.int .i64 (t.k : Int)) w h.par rfl).mono ?_
  rintro e w1 ⟨rfl, rfl⟩
  go_wp2_with fail
  refine (fail_any E t nv rows _ h 3 t.k).mono ?_
  rintro e w2 ⟨rfl, hb⟩
  go_wp2_with fail
  go_ret
  exact ⟨rfl, hb⟩

/-- Peek, of the parser's own scanner. -/
theorem ppeek_any (E : Env) (hE : EnvOk E) (t : PS) (nv : Value) (rows : List Row) (w : World) (h : PInv E t nv rows w) :
    Calls Tryz.prog 59 #[pp E] w fun e w' => e = .returned (.int .i64 (kindAt E.s (skipBl E.s t.k))) ∧ PInv E { t with k := skipBl E.s t.k } nv rows w' ∧ But [E.p] w w' :=
  (peek_any E.p _ _ E.s t.k w h.par rfl rfl h.wf.k hE.s).mono fun _ _ ⟨he, hB, hb, _⟩ => ⟨he, h.move (skipBl_le _ _ h.wf.k) hb hB, hb⟩

theorem pskip_any (E : Env) (hE : EnvOk E) (t : PS) (nv : Value) (rows : List Row) (w : World) (h : PInv E t nv rows w) (hk : t.k < E.s.size) :
    Calls Tryz.prog 148 #[pp E] w fun e w' => e = .returned (.tuple #[]) ∧ PInv E { t with k := t.k + 1 } nv rows w' ∧ But [E.p] w w' :=
  (skip_any E.p _ _ E.s t.k w h.par rfl rfl hk hE.s).mono fun _ _ ⟨he, hB, hb, _⟩ => ⟨he, h.move (by omega) hb hB, hb⟩

theorem pplace_any (E : Env) (t : PS) (nv : Value) (rows : List Row) (w : World) (h : PInv E t nv rows w) :
    Calls Tryz.prog 87 #[pp E] w fun e w' => e = .returned (.int .i64 (t.k : Int)) ∧ w' = w :=
  place_any E.p _ _ (.int .i64 (t.k : Int)) w h.par rfl

theorem pread0_any (E : Env) (hE : EnvOk E) (t : PS) (nv : Value) (rows : List Row) (w : World) (h : PInv E t nv rows w) :
    Calls Tryz.prog 110 #[pp E] w fun e w' => e = .returned (.tuple #[.string (rdAny E.s (skipBl E.s t.k)).1, .bool (rdAny E.s (skipBl E.s t.k)).2.1]) ∧ PInv E { t with k := (rdAny E.s (skipBl E.s t.k)).2.2 } nv rows w' ∧ But [E.p] w w' :=
  (read_any E.p _ _ E.s t.k w h.par rfl rfl h.wf.k hE.s).mono fun _ _ ⟨he, hB, hb, _⟩ => ⟨he, h.move (rdAny_le _ _ (skipBl_le _ _ h.wf.k)).2 hb hB, hb⟩

theorem pnext_any (E : Env) (hE : EnvOk E) (t : PS) (nv : Value) (rows : List Row) (w : World) (h : PInv E t nv rows w) :
    Calls Tryz.prog 56 #[pp E] w fun e w' => e = .returned (.int .i64 ((nlGo E.s t.k t.k).1 : Int)) ∧ PInv E { t with k := (nlGo E.s t.k t.k).2 } nv rows w' ∧ But [E.p] w w' :=
  (nextLine_any E.p _ _ E.s t.k w h.par rfl rfl h.wf.k hE.s).mono fun _ _ ⟨he, hB, hb, _⟩ => ⟨he, h.move (nlGo_le _ _ _ h.wf.k).2 hb hB, hb⟩

/-- A method of the parser that answers whether all went well. -/
abbrev PostB (E : Env) (nv : Value) (rows : List Row) (w : World) (r : Res Unit) (e : Ending) (w' : World) : Prop := Post E nv rows w (fun _ => .bool true) (.bool false) r e w'

set_option maxHeartbeats 400000 in
theorem expect_any (E : Env) (hE : EnvOk E) (t : PS) (nv : Value) (rows : List Row) (w : World) (h : PInv E t nv rows w) (kd : Int) (hkd : kd ≠ 0) :
    Calls Tryz.prog 143 #[pp E, .int .i64 kd] w fun e w' => PostB E nv rows w (expectM E.s kd t) e w' := by
  go_enter Tryz.func143, Tryz.ntmps143
  go_wp2_with fail
  refine (ppeek_any E hE t nv rows w h).mono ?_
  rintro e w1 ⟨rfl, hI1, hb1⟩
  by_cases hk : kindAt E.s (skipBl E.s t.k) = kd
  · have HM : Hid (expectM E.s kd t = .ok () { t with k := skipBl E.s t.k + 1 }) := by unfold Hid expectM; rw [if_pos hk]
    have hlt : skipBl E.s t.k < E.s.size := kindAt_lt (by omega)
    have hbq : (kindAt E.s (skipBl E.s t.k) != kd) = false := by simp [hk]
    generalize kindAt E.s (skipBl E.s t.k) = kq at *
    clear hk
    go_wp2_with fail
    refine (pskip_any E hE _ nv rows w1 hI1 hlt).mono ?_
    rintro e w2 ⟨rfl, hI2, hb2⟩
    go_wp2_with fail
    go_ret
    rw [HM.out]
    exact ⟨rfl, nv, rows, hI2, (hb1.trans hb2 (by simp)).mono (by simp), fun _ hx => .inl hx, fun _ hx => .inl hx⟩
  · have HM : Hid (expectM E.s kd t = .bad 3 (skipBl E.s t.k)) := by unfold Hid expectM; rw [if_neg hk]
    have hbq : (kindAt E.s (skipBl E.s t.k) != kd) = true := by simp [hk]
    go_wp2_with fail
    refine (wrongByte_any E _ nv rows w1 hI1).mono ?_
    rintro e w2 ⟨rfl, hb2⟩
    go_wp2_with fail
    go_ret
    rw [HM.out]
    exact ⟨rfl, Bad.trans (hb1.mono (by simp)) (fun _ hx => .inl hx) hb2⟩

end Go.Proofs.YtkflkmmbakccoaaGreatDoor

/- WALKS: strings.Clone. -/
namespace Go.Proofs.YtkflkmmbakccoaaGreatDoor
open Go.RowKit

theorem infoU8 : (Tryz.prog.info? 5).map (fun i => (i.zero, i.size, i.bytes)) = some (some (.int .u8 0), 1, 1) := by kernel_rfl

set_option maxHeartbeats 1000000 in
set_option maxRecDepth 100000 in
theorem liteClone_any (s : ByteArray) (w : World) (hlim : s.size ≤ 1000) :
    Calls Tryz.prog 191 #[.string s] w fun e w' => e = .returned (.string s) ∧ Below w.heap.size w w' := by
  by_cases h0 : s.size = 0
  · have hs : s = ⟨#[]⟩ := by
      apply ByteArray.ext
      exact Array.eq_empty_of_size_eq_zero h0
    subst hs
    go_enter Tryz.func191, Tryz.ntmps191
    go_wp2
    go_ret
    exact ⟨rfl, Below.refl _ _⟩
  · obtain ⟨i0, hi, hz0, hz1, hz2⟩ := info_parts infoU8
    have hinfo : (Tryz.prog.info? 5).map (·.size) = some 1 := by rw [hi]; simp [hz1]
    have hco : Tryz.prog.cellsOf 5 = 1 := by simp [Program.cellsOf, hi, hz1]
    obtain ⟨M, hM⟩ : ∃ M, M = madeCells (Value.int .u8 0).cells (((s.size : Nat) : Int).toNat * i0.size) := ⟨_, rfl⟩
    have hMs : M.size = s.size := by rw [hM, size_madeCells, hz1]; simp
    have hmk : ∀ W : World, (Instr.makeSlice 96 (.int .i64 (s.size : Int)) (.int .i64 (s.size : Int))).run Tryz.prog W = .ok (.slice (some ⟨W.heap.size, 0, none⟩) s.size s.size) (W.alloc (.cells M 5)) := fun W => by
      have h := run_make (P := Tryz.prog) W 96 5 i0 (.int .u8 0) (by kernel_rfl) hi hz0 .i64 .i64 (s.size : Int) (s.size : Int) (by omega) (by omega) (by rw [hz2]; omega) (by omega)
      rw [← hM] at h
      simpa using h
    clear hM
    have hcp := Lib.run_copy_row_string (P := Tryz.prog) (w.alloc (.cells M 5)) 96 9 3 5 w.heap.size 0 s.size s.size s M 5 (by kernel_rfl) hinfo (heap_alloc_new w _) (Nat.le_refl _) (by omega)
    obtain ⟨Y, hY⟩ : ∃ Y, Y = (M.toList.take 0 ++ Lib.byteCells s.data.toList ++ M.toList.drop (0 + s.size)).toArray := ⟨_, rfl⟩
    rw [← hY] at hcp
    have hYl : Y.toList = Lib.byteCells s.data.toList := by
      rw [hY, List.toList_toArray, List.take_zero, List.nil_append, List.drop_of_length_le (by rw [Array.length_toList]; omega), List.append_nil]
    have hYs : Y.size = s.size := by rw [← Array.length_toList, hYl, Lib.byteCells_length, ← Lib.size_eq]
    have hgY : ((w.alloc (.cells M 5)).setRow w.heap.size Y).heap[w.heap.size]? = some (.cells Y 5 (0, 0)) := setRow_heap _ _ M _ 5 (0, 0) (heap_alloc_new w _)
    have hne : s.data.toList ≠ [] := fun e => h0 (by rw [Lib.size_eq, e]; rfl)
    have hUS := Lib.run_unsafeString_row (P := Tryz.prog) ((w.alloc (.cells M 5)).setRow w.heap.size Y) 137 3 9 5 (by kernel_rfl) hco w.heap.size Y.size (by unfold World.shape?; rw [hgY]) s.data.toList hne (by rw [← Lib.size_eq]; omega) (by rw [← Lib.size_eq]; omega)
      (fun j x hx => Lib.cells_of_row hgY Y.size j _ (by rw [List.take_of_length_le (by rw [Array.length_toList]; exact Nat.le_refl _), hYl]; simp [Lib.byteCells, hx]))
    rw [← Lib.size_eq] at hUS
    clear hY
    go_enter Tryz.func191, Tryz.ntmps191
    go_wp2
    go_ret
    have hb1 : Below w.heap.size w (w.alloc (.cells M 5)) := (Below.refl _ w).alloc (Nat.le_refl _) _
    have hb2 : Below w.heap.size (w.alloc (.cells M 5)) ((w.alloc (.cells M 5)).setRow w.heap.size Y) := ⟨rfl, rfl, rfl, by simp, fun k hk => setRow_other _ _ _ _ (by omega)⟩
    exact ⟨rfl, Lib.below_freeze (hb1.trans hb2) (p := ⟨w.heap.size, 0, none⟩) (Nat.le_refl _) _⟩

set_option maxHeartbeats 400000 in
theorem clone_any (s : ByteArray) (w : World) (hlim : s.size ≤ 1000) :
    Calls Tryz.prog 179 #[.string s] w fun e w' => e = .returned (.string s) ∧ But [] w w' := by
  go_enter Tryz.func179, Tryz.ntmps179
  go_wp2_with fail
  refine (liteClone_any s w hlim).mono ?_
  rintro e w1 ⟨rfl, hb⟩
  go_wp2_with fail
  go_ret
  exact ⟨rfl, hb.os, hb.tape, hb.output, hb.size, fun k hk _ => hb.block k hk⟩

end Go.Proofs.YtkflkmmbakccoaaGreatDoor

/- WALKS: package parse: lineIsOver, beginsText, beginsValue, read, word, endLine, goBelow. -/
namespace Go.Proofs.YtkflkmmbakccoaaGreatDoor
open Go.RowKit

theorem rdAny_size (s : ByteArray) (q : Nat) : (rdAny s q).1.size ≤ s.size := by
  have h : ∀ a b, (s.extract a b).size ≤ s.size := fun a b => by rw [ByteArray.size_extract]; omega
  unfold rdAny rdStr rdWord
  split <;> split
  · simp
  · split
    · exact h _ _
    · simp
  · simp
  · exact h _ _

set_option maxHeartbeats 400000 in
theorem beginsText_any (x : Int) (w : World) :
    Calls Tryz.prog 153 #[.int .i64 x] w fun e w' => e = .returned (.bool (x == 2 || x == 3)) ∧ w' = w := by
  go_enter Tryz.func153, Tryz.ntmps153
  go_wp2_with fail
  all_goals
    go_ret
    refine ⟨?_, rfl⟩
    first | rfl | (refine ret_bool ?_; simp [*])

def begV (x : Int) : Bool := x == 2 || x == 3 || x == 9 || x == 11

set_option maxHeartbeats 400000 in
theorem beginsValue_any (x : Int) (w : World) :
    Calls Tryz.prog 119 #[.int .i64 x] w fun e w' => e = .returned (.bool (begV x)) ∧ w' = w := by
  go_enter Tryz.func119, Tryz.ntmps119
  go_wp2_with (go_at_call 153; refine (beginsText_any _ _).mono ?_; rintro e w' ⟨rfl, rfl⟩)
  all_goals
    go_ret
    refine ⟨ret_bool ?_, rfl⟩
    simp_all [begV]
    try omega

set_option maxHeartbeats 400000 in
theorem lineIsOver_any (E : Env) (hE : EnvOk E) (t : PS) (nv : Value) (rows : List Row) (w : World) (h : PInv E t nv rows w) :
    Calls Tryz.prog 120 #[pp E] w fun e w' => e = .returned (.bool (lineOver E.s (skipBl E.s t.k))) ∧ PInv E { t with k := skipBl E.s t.k } nv rows w' ∧ But [E.p] w w' := by
  go_enter Tryz.func120, Tryz.ntmps120
  go_wp2_with fail
  refine (ppeek_any E hE t nv rows w h).mono ?_
  rintro e w1 ⟨rfl, hI1, hb1⟩
  go_wp2_with fail
  all_goals
    go_ret
    refine ⟨ret_bool ?_, hI1, hb1⟩
    simp_all [lineOver]

/-- A method of the parser that answers a text, and whether all went well. -/
abbrev PostS (E : Env) (nv : Value) (rows : List Row) (w : World) (r : Res ByteArray) (e : Ending) (w' : World) : Prop := Post E nv rows w (fun x => .tuple #[.string x, .bool true]) (.tuple #[.string ByteArray.empty, .bool false]) r e w'

set_option maxHeartbeats 400000 in
theorem pread_any (E : Env) (hE : EnvOk E) (t : PS) (nv : Value) (rows : List Row) (w : World) (h : PInv E t nv rows w) :
    Calls Tryz.prog 151 #[pp E] w fun e w' => PostS E nv rows w (readM E.s t) e w' := by
  go_enter Tryz.func151, Tryz.ntmps151
  go_wp2_with fail
  refine (pread0_any E hE t nv rows w h).mono ?_
  rintro e w1 ⟨rfl, hI1, hb1⟩
  have hsz := rdAny_size E.s (skipBl E.s t.k)
  have hs := hE.s
  by_cases hok : (rdAny E.s (skipBl E.s t.k)).2.1 = true
  · have HM : Hid (readM E.s t = .ok (rdAny E.s (skipBl E.s t.k)).1 { t with k := (rdAny E.s (skipBl E.s t.k)).2.2 }) := by unfold Hid readM; rw [if_pos hok]
    generalize rdAny E.s (skipBl E.s t.k) = r at *
    go_wp2_with fail
    refine (clone_any _ _ (by omega)).mono ?_
    rintro e w2 ⟨rfl, hb2⟩
    go_wp2_with fail
    go_ret2
    rw [HM.out]
    exact ⟨rfl, nv, rows, hI1.frame hb2 (by simp), (hb1.trans hb2 (by simp)).mono (by simp), fun _ hx => .inl hx, fun _ hx => .inl hx⟩
  · have hok' : (rdAny E.s (skipBl E.s t.k)).2.1 = false := by simpa using hok
    have HM : Hid (readM E.s t = .bad 3 (rdAny E.s (skipBl E.s t.k)).2.2) := by unfold Hid readM; rw [if_neg hok]
    generalize rdAny E.s (skipBl E.s t.k) = r at *
    go_wp2_with fail
    refine (wrongByte_any E _ nv rows w1 hI1).mono ?_
    rintro e w2 ⟨rfl, hb2⟩
    go_wp2_with fail
    go_ret2
    rw [HM.out]
    exact ⟨rfl, Bad.trans (hb1.mono (by simp)) (fun _ hx => .inl hx) hb2⟩

set_option maxHeartbeats 400000 in
theorem pword_any (E : Env) (hE : EnvOk E) (t : PS) (nv : Value) (rows : List Row) (w : World) (h : PInv E t nv rows w) :
    Calls Tryz.prog 149 #[pp E] w fun e w' => PostS E nv rows w (wordM E.s t) e w' := by
  go_enter Tryz.func149, Tryz.ntmps149
  go_wp2_with fail
  refine (ppeek_any E hE t nv rows w h).mono ?_
  rintro e w1 ⟨rfl, hI1, hb1⟩
  by_cases hk : kindAt E.s (skipBl E.s t.k) = 2
  · have HM : Hid (wordM E.s t = readM E.s { t with k := skipBl E.s t.k }) := by unfold Hid wordM; rw [if_pos hk]
    have hbq : (kindAt E.s (skipBl E.s t.k) != 2) = false := by simp [hk]
    generalize kindAt E.s (skipBl E.s t.k) = kq at *
    clear hk
    go_wp2_with fail
    refine (pread_any E hE _ nv rows w1 hI1).mono ?_
    intro e w2 hp
    rw [← HM.out] at hp
    have hp' := Post.moved hb1 hp
    cases hm : wordM E.s t with
    | ok x t1 =>
      rw [hm] at hp'
      obtain ⟨rfl, hg⟩ := hp'
      have HM2 : Hid _ := hm
      clear hm hp
      go_wp2_with fail
      go_ret2
      rw [HM2.out]
      exact ⟨rfl, hg⟩
    | bad er pl =>
      rw [hm] at hp'
      obtain ⟨rfl, hg⟩ := hp'
      have HM2 : Hid _ := hm
      clear hm hp
      go_wp2_with fail
      go_ret2
      rw [HM2.out]
      exact ⟨rfl, hg⟩
  · have HM : Hid (wordM E.s t = .bad 3 (skipBl E.s t.k)) := by unfold Hid wordM; rw [if_neg hk]
    have hbq : (kindAt E.s (skipBl E.s t.k) != 2) = true := by simp [hk]
    go_wp2_with fail
    refine (wrongByte_any E _ nv rows w1 hI1).mono ?_
    rintro e w2 ⟨rfl, hb2⟩
    go_wp2_with fail
    go_ret2
    rw [HM.out]
    exact ⟨rfl, Bad.trans (hb1.mono (by simp)) (fun _ hx => .inl hx) hb2⟩

end Go.Proofs.YtkflkmmbakccoaaGreatDoor

/- WALKS: package parse: endLine, goBelow. -/
namespace Go.Proofs.YtkflkmmbakccoaaGreatDoor
open Go.RowKit

/-- The line's number of blanks is written down. -/
theorem PInv.setInd {E : Env} {t : PS} {nv : Value} {rows : List Row} {w : World} (h : PInv E t nv rows w) (ind : Nat) :
    PInv E { t with ind := ind } nv rows (w.setCell ⟨E.p, 8, none⟩ (.int .i64 (ind : Int))) :=
  h.move (k := t.k) h.wf.k ((But.refl _ _).setCell (by simp) _) (by have := h.par.set 8 (.int .i64 (ind : Int)); simpa [pcells] using this)

set_option maxHeartbeats 400000 in
theorem endLine_any (E : Env) (hE : EnvOk E) (t : PS) (nv : Value) (rows : List Row) (w : World) (h : PInv E t nv rows w) :
    Calls Tryz.prog 92 #[pp E] w fun e w' => PostB E nv rows w (endLineM E.s t) e w' := by
  go_enter Tryz.func92, Tryz.ntmps92
  go_wp2_with fail
  refine (lineIsOver_any E hE t nv rows w h).mono ?_
  rintro e w1 ⟨rfl, hI1, hb1⟩
  by_cases hk : lineOver E.s (skipBl E.s t.k) = true
  · have HM : Hid (endLineM E.s t = .ok () (nextM E.s { t with k := skipBl E.s t.k })) := by unfold Hid endLineM; rw [if_pos hk]
    go_wp2_with fail
    refine (pnext_any E hE _ nv rows w1 hI1).mono ?_
    rintro e w2 ⟨rfl, hI2, hb2⟩
    have c8 : w2.cell? ⟨E.p, 8, none⟩ = some (.int .i64 (t.ind : Int)) := hI2.par.cell rfl
    have f8 : w2.frozen? ⟨E.p, 8, none⟩ = false := hI2.par.free 8
    go_wp2_with fail
    go_ret
    rw [HM.out]
    refine ⟨rfl, nv, rows, hI2.setInd _, ?_, fun _ hx => .inl hx, fun _ hx => .inl hx⟩
    exact ((hb1.trans hb2 (by simp)).setCell (by simp) _).mono (by simp)
  · have HM : Hid (endLineM E.s t = .bad 3 (skipBl E.s t.k)) := by unfold Hid endLineM; rw [if_neg hk]
    have hk' : lineOver E.s (skipBl E.s t.k) = false := by simpa using hk
    go_wp2_with fail
    refine (wrongByte_any E _ nv rows w1 hI1).mono ?_
    rintro e w2 ⟨rfl, hb2⟩
    go_wp2_with fail
    go_ret
    rw [HM.out]
    exact ⟨rfl, Bad.trans (hb1.mono (by simp)) (fun _ hx => .inl hx) hb2⟩

set_option maxHeartbeats 400000 in
theorem goBelow_any (E : Env) (hE : EnvOk E) (t : PS) (nv : Value) (rows : List Row) (w : World) (h : PInv E t nv rows w) (d : Nat) (hd : d ≤ 100) :
    Calls Tryz.prog 178 #[pp E, .int .i64 (d : Int)] w fun e w' => PostB E nv rows w (goBelowM E.s d t) e w' := by
  go_enter Tryz.func178, Tryz.ntmps178
  go_wp2_with fail
  refine (pnext_any E hE _ nv rows w h).mono ?_
  rintro e w1 ⟨rfl, hI1, hb1⟩
  have c8 : w1.cell? ⟨E.p, 8, none⟩ = some (.int .i64 (t.ind : Int)) := hI1.par.cell rfl
  have f8 : w1.frozen? ⟨E.p, 8, none⟩ = false := hI1.par.free 8
  go_wp2_with fail
  have hI2 := hI1.setInd (nlGo E.s t.k t.k).1
  have hb2 : But [E.p] w (w1.setCell ⟨E.p, 8, none⟩ (.int .i64 ((nlGo E.s t.k t.k).1 : Int))) := hb1.setCell (by simp) _
  clear c8 f8
  refine (ppeek_any E hE _ nv rows _ hI2).mono ?_
  rintro e w3 ⟨rfl, hI3, hb3⟩
  have c8 : w3.cell? ⟨E.p, 8, none⟩ = some (.int .i64 ((nlGo E.s t.k t.k).1 : Int)) := hI3.par.cell rfl
  have hb4 := hb2.trans hb3 (by simp)
  have HM : Hid (goBelowM E.s d t = if (nlGo E.s t.k t.k).1 = 2 * d ∧ (kindAt E.s (skipBl E.s (nlGo E.s t.k t.k).2) = 4 ∨ kindAt E.s (skipBl E.s (nlGo E.s t.k t.k).2) = 2 ∨ kindAt E.s (skipBl E.s (nlGo E.s t.k t.k).2) = 3) then
    .ok () { t with k := skipBl E.s (nlGo E.s t.k t.k).2, ind := (nlGo E.s t.k t.k).1 } else .bad 3 (skipBl E.s (nlGo E.s t.k t.k).2)) := rfl
  clear hb1 hb2 hb3 hI1 hI2 h
  simp only at hI3 c8 ⊢
  generalize skipBl E.s (nlGo E.s t.k t.k).2 = q at *
  generalize (nlGo E.s t.k t.k).1 = i at *
  generalize kindAt E.s q = kq at *
  by_cases hi : i = 2 * d
  · have hi' : ((i : Int) != 2 * (d : Int)) = false := by simp; omega
    by_cases hk : kq = 4 ∨ kq = 2 ∨ kq = 3
    · have HM2 : Hid _ := HM.out.trans (if_pos ⟨hi, hk⟩)
      clear hi
      rcases hk with rfl | rfl | rfl
      all_goals
        go_wp2_with (go_at_call 153; refine (beginsText_any _ _).mono ?_; rintro e w' ⟨rfl, rfl⟩)
        go_ret
        rw [HM2.out]
        exact ⟨rfl, nv, rows, hI3, hb4.mono (by simp), fun _ hx => .inl hx, fun _ hx => .inl hx⟩
    · have HM2 : Hid _ := HM.out.trans (if_neg (fun c => hk c.2))
      have h1 : (kq != 4) = true := by simp; omega
      have h2 : (kq == 2) = false := by simp; omega
      have h3 : (kq == 3) = false := by simp; omega
      clear hi hk
      go_wp2_with (go_at_call 153; refine (beginsText_any _ _).mono ?_; rintro e w' ⟨rfl, rfl⟩)
      refine (wrongByte_any E _ nv rows _ hI3).mono ?_
      rintro e w5 ⟨rfl, hb5⟩
      go_wp2_with fail
      go_ret
      rw [HM2.out]
      exact ⟨rfl, Bad.trans (hb4.mono (by simp)) (fun _ hx => .inl hx) hb5⟩
  · have HM2 : Hid _ := HM.out.trans (if_neg (fun c => hi c.1))
    have hi' : ((i : Int) != 2 * (d : Int)) = true := by simp; omega
    go_wp2_with fail
    refine (wrongByte_any E _ nv rows _ hI3).mono ?_
    rintro e w5 ⟨rfl, hb5⟩
    go_wp2_with fail
    go_ret
    rw [HM2.out]
    exact ⟨rfl, Bad.trans (hb4.mono (by simp)) (fun _ hx => .inl hx) hb5⟩

end Go.Proofs.YtkflkmmbakccoaaGreatDoor

/- THE PARSER IN MEMORY: the classes of blocks; a node that begins. -/
namespace Go.Proofs.YtkflkmmbakccoaaGreatDoor
open Go.RowKit Go.Maps

def zeroNode : Value := .agg #[.int .i64 0, .string ⟨#[]⟩, .slice none 0 0, .slice none 0 0, .int .i64 0, .int .i64 0]
def blankRow : Row := ⟨NodeV.blank, .slice none 0 0, .slice none 0 0⟩

theorem grown_but {w w' : World} {v : Value} (h : w.grownBy w' v.ownBlock) : But (own v) w w' :=
  ⟨h.os, h.tape, h.output, h.size, fun k hk hn => h.block k hk (fun e => hn (mem_own.2 e.symm))⟩

theorem alloc_but (w : World) (o : Obj) : But [] w (w.alloc o) := (But.refl _ _).alloc o

theorem cells_new (w : World) (cs : Array Value) (T : TypeId) (l : List Value) (hl : l = cs.toList) : ∀ (j : Nat) (u : Value), l[j]? = some u → (w.alloc (.cells cs T)).cell? ((⟨w.heap.size, 0, none⟩ : Addr).add j) = some u := by
  intro j u hj
  subst hl
  have hb : Blk (w.alloc (.cells cs T)) w.heap.size cs T := heap_alloc_new w _
  have e : (⟨w.heap.size, 0, none⟩ : Addr).add j = ⟨w.heap.size, j, none⟩ := by
    unfold Addr.add
    split <;> simp_all
  rw [e]
  exact hb.cell (i := j) (v := u) (by simpa using hj)

theorem PInv.m_block {E : Env} {t : PS} {nv : Value} {rows : List Row} {w : World} (h : PInv E t nv rows w) {cs : Array Value} {T : TypeId} (hb : Blk w E.m cs T) : False := by
  obtain ⟨D, h1, _⟩ := h.map
  exact hb.not_map h1

theorem PInv.pub_block {E : Env} {t : PS} {nv : Value} {rows : List Row} {w : World} (h : PInv E t nv rows w) {x : Nat} (hx : x ∈ pub rows) : ∃ cs T, Blk w x cs T ∧ (T = 9 ∨ T = 3) := by
  simp only [pub, List.mem_flatMap, Row.pub, List.mem_append] at hx
  obtain ⟨r, hr, hx | hx⟩ := hx
  · obtain ⟨_, cs, hc⟩ := ownsRow_lt (h.rows r hr).1 hx
    exact ⟨cs, _, hc, .inl rfl⟩
  · obtain ⟨_, cs, hc⟩ := ownsRow_lt (h.rows r hr).2 hx
    exact ⟨cs, _, hc, .inr rfl⟩

theorem PInv.own_block {E : Env} {t : PS} {nv : Value} {rows : List Row} {w : World} (h : PInv E t nv rows w) {x : Nat} (hx : x ∈ own nv) : ∃ cs, Blk w x cs 79 := (ownsRow_lt h.nodes hx).2

/-- A block of another type than those of the reading is none of them. -/
theorem PInv.not_foot {E : Env} {t : PS} {nv : Value} {rows : List Row} {w : World} (h : PInv E t nv rows w) {x : Nat} {cs : Array Value} {T : TypeId} (hb : Blk w x cs T) (hp : T ≠ 90) (hg : T ≠ 82) (ho : x ∉ own nv) (hq : x ∉ pub rows) : x ∉ foot E nv rows := by
  intro hx
  simp only [foot, List.mem_cons, List.mem_append] at hx
  rcases hx with rfl | rfl | rfl | hx | hx
  · exact hp (hb.inj h.par).2
  · exact hg (hb.inj h.gr).2
  · exact h.m_block hb
  · exact ho hx
  · exact hq hx

theorem PInv.g_not {E : Env} {t : PS} {nv : Value} {rows : List Row} {w : World} (h : PInv E t nv rows w) : E.g ∉ E.p :: E.m :: (own nv ++ pub rows) := by
  intro hx
  simp only [List.mem_cons, List.mem_append] at hx
  rcases hx with hx | hx | hx | hx
  · exact h.pg hx.symm
  · exact h.m_block (hx ▸ h.gr)
  · obtain ⟨cs, hc⟩ := h.own_block hx
    exact absurd (h.gr.inj hc).2 (by decide)
  · obtain ⟨cs, T, hc, hT⟩ := h.pub_block hx
    have := (h.gr.inj hc).2
    rcases hT with rfl | rfl <;> exact absurd this (by decide)

theorem PInv.own_not {E : Env} {t : PS} {nv : Value} {rows : List Row} {w : World} (h : PInv E t nv rows w) {x : Nat} (hx : x ∈ own nv) : x ∉ E.p :: E.g :: E.m :: pub rows := by
  intro hy
  obtain ⟨cs, hc⟩ := h.own_block hx
  simp only [List.mem_cons] at hy
  rcases hy with rfl | rfl | rfl | hy
  · exact absurd (h.par.inj hc).2 (by decide)
  · exact absurd (h.gr.inj hc).2 (by decide)
  · exact h.m_block hc
  · obtain ⟨cs', T, hc', hT⟩ := h.pub_block hy
    have := (hc.inj hc').2
    rcases hT with rfl | rfl <;> exact absurd this (by decide)

theorem WF.begin {s : ByteArray} {t : PS} (h : WF s t) (hn : t.nodes.length < 500) : WF s { t with nodes := t.nodes ++ [NodeV.blank] } := by
  have hb : beginM ⟨1, 500, 0, 0⟩ 0 t = .ok t.nodes.length { t with nodes := t.nodes ++ [NodeV.blank] } := by
    unfold beginM
    rw [if_neg (by simp), if_neg (by simp; omega)]
  exact (beginM_ok (B := ⟨1, 500, 0, 0⟩) (by simp) h hb).2.2.2.2.2.wf

/-- A node has begun. -/
theorem PInv.begun {E : Env} {t : PS} {nv v' : Value} {rows : List Row} {w w1 : World} {o : Obj} (h : PInv E t nv rows w) (hn : rows.length < 500)
    (hown : w1.ownsRow E.base 79 6 v' (rows.length + 1) (rows.flatMap Row.cells ++ blankRow.cells)) (hgrow : (w.alloc o).grownBy w1 nv.ownBlock) (hloc : v'.ownBlock = nv.ownBlock ∨ v'.ownBlock = some (w.alloc o).heap.size) :
    Blk w1 E.g #[nv, .int .i64 (t.anchors : Int)] 82 ∧ Good E nv rows w { t with nodes := t.nodes ++ [NodeV.blank] } (w1.setCell ⟨E.g, 0, none⟩ v') := by
  have hb1 : But (own nv) w w1 := ((alloc_but w o).mono (by simp)).trans (grown_but hgrow) (fun x hx => .inl hx)
  have hgn := h.g_not
  have hpn := h.p_not
  have hg1 : Blk w1 E.g #[nv, .int .i64 (t.anchors : Int)] 82 := hb1.blk h.gr (fun hx => hgn (by simp [hx]))
  refine ⟨hg1, v', rows ++ [blankRow], ?_, ?_, ?_, ?_⟩
  · have hb2 : But (E.g :: own nv) w (w1.setCell ⟨E.g, 0, none⟩ v') := (hb1.mono (fun x hx => .inl (List.mem_cons_of_mem _ hx))).setCell (by simp) _
    refine ⟨hb2.blk h.par (fun hx => hpn (by simp only [List.mem_cons, List.mem_append] at hx ⊢; rcases hx with hx | hx; exact .inl hx; exact .inr (.inr (.inl hx)))), ?_, ?_, ?_, ?_, ?_, ?_, Nat.le_trans h.base hb2.size⟩
    · have := hg1.set 0 v'
      simpa using this
    · have h2 := ownsRow_but (S := [E.g]) hown ((But.refl _ w1).setCell (by simp) v' (p := ⟨E.g, 0, none⟩)) (fun x hx hy => by
        obtain ⟨_, cs, hc⟩ := ownsRow_lt hown hx
        have := List.mem_singleton.1 hy
        subst this
        exact absurd (hg1.inj hc).2 (by decide))
      simpa using h2
    · simp [h.same, blankRow]
    · intro r hr
      rcases List.mem_append.1 hr with hr | hr
      · refine (h.rows r hr).but hb2 (fun x hx hy => ?_)
        have hxp : x ∈ pub rows := by simp only [pub, List.mem_flatMap]; exact ⟨r, hr, hx⟩
        rcases List.mem_cons.1 hy with rfl | hy
        · exact hgn (by simp [hxp])
        · exact h.own_not hy (by simp [hxp])
      · have := List.mem_singleton.1 hr
        subst this
        exact ⟨⟨rfl, .inl ⟨rfl, rfl⟩⟩, ⟨rfl, .inl ⟨rfl, rfl⟩⟩⟩
    · obtain ⟨D, h1, h2⟩ := h.map
      refine ⟨D, ownsMap_but h1 hb2 (fun hy => ?_), h2⟩
      rcases List.mem_cons.1 hy with hy | hy
      · exact hgn (by simp [hy])
      · exact h.own_not hy (by simp)
    · exact h.wf.begin (by rw [h.same]; simpa using hn)
  · exact ((hb1.mono (S' := E.p :: E.g :: E.m :: own nv) (fun x hx => .inl (by simp [hx]))).setCell (by simp) _)
  · intro x hx
    rcases hloc with e | e
    · exact .inl (mem_own.2 (e ▸ mem_own.1 hx))
    · have := mem_own.1 hx
      rw [e] at this
      simp at this
      right; omega
  · intro x hx
    simp only [pub, List.flatMap_append, List.mem_append] at hx ⊢
    rcases hx with hx | hx
    · exact .inl hx
    · simp [blankRow, Row.pub, own] at hx

end Go.Proofs.YtkflkmmbakccoaaGreatDoor

/- WALKS: package graph: Begin; package parse: begin. -/
namespace Go.Proofs.YtkflkmmbakccoaaGreatDoor
open Go.RowKit

theorem infoNode : (Tryz.prog.info? 79).map (fun i => (i.zero, i.size, i.bytes)) = some (some zeroNode, 6, 88) := by kernel_rfl
theorem undNodes : Tryz.prog.underlying 80 = some (.slice 79) := by kernel_rfl

set_option maxHeartbeats 400000 in
theorem gBegin_any (E : Env) (t : PS) (nv : Value) (rows : List Row) (w : World) (h : PInv E t nv rows w) (hn : rows.length < 500) :
    Calls Tryz.prog 111 #[.pointer (some ⟨E.g, 0, none⟩)] w fun e w' => e = .returned (.int .i64 (t.nodes.length : Int)) ∧ Good E nv rows w { t with nodes := t.nodes ++ [NodeV.blank] } w' := by
  obtain ⟨i0, hi, hz0, hz1, hz2⟩ := info_parts infoNode
  have c0 : w.cell? ⟨E.g, 0, none⟩ = some nv := h.gr.cell rfl
  have hbase := h.base
  have hlen : t.nodes.length = rows.length := by rw [h.same]; simp
  have HL : Hid _ := hlen
  clear hlen
  go_enter Tryz.func111, Tryz.ntmps111
  go_wp2_with (at_builtin; refine wpList_append_own_at _ rfl _ _ 80 rfl E.base 79 i0 zeroNode 6 88 undNodes hi hz0 hz1 hz2 rfl (by decide) _ _ _ rfl (h.nodes.alloc _) ⟨w.heap.size, 0, none⟩ 1 1 blankRow.cells rfl rfl ?c1 ?c2 ?c3 ?c4 ?c5 ?_)
  case c1 => exact cells_new w _ _ _ rfl
  case c2 => intro u hu; simp [blankRow, Row.cells, NodeV.blank] at hu; rcases hu with rfl | rfl | rfl | rfl | rfl <;> rfl
  case c3 => unfold maxLen; omega
  case c4 => omega
  case c5 => simp; omega
  intro v' w1 hown hgrow hnil hloc
  obtain ⟨hg1, hgood⟩ := h.begun hn hown hgrow (hloc.imp id (fun e => by rw [e]; simp))
  have hv : ∃ a cap, v' = .slice a (rows.length + 1) cap := by
    rcases hown.2 with ⟨_, h0⟩ | ⟨g, cap, cur, rfl, _⟩
    · omega
    · exact ⟨_, _, rfl⟩
  obtain ⟨a, cap, rfl⟩ := hv
  have c1 : w1.cell? ⟨E.g, 0, none⟩ = some nv := hg1.cell rfl
  have f1 : w1.frozen? ⟨E.g, 0, none⟩ = false := hg1.free 0
  clear hown hgrow hnil hloc c0 hg1
  go_wp2_with fail
  go_ret
  exact ⟨ret_int (by rw [HL.out]), hgood⟩

/-- A method of the parser that answers a node's number, and whether all went well. -/
abbrev PostN (E : Env) (nv : Value) (rows : List Row) (w : World) (r : Res Nat) (e : Ending) (w' : World) : Prop := ∃ z : Int, Post E nv rows w (fun (x : Nat) => .tuple #[.int .i64 (x : Int), .bool true]) (.tuple #[.int .i64 z, .bool false]) r e w'

set_option maxHeartbeats 400000 in
theorem begin_any (E : Env) (hE : EnvOk E) (t : PS) (nv : Value) (rows : List Row) (w : World) (h : PInv E t nv rows w) (lv : Int) :
    Calls Tryz.prog 89 #[pp E, .int .i64 lv] w fun e w' => PostN E nv rows w (beginM E.B lv t) e w' := by
  have c2 : w.cell? ⟨E.p, 2, none⟩ = some (.int .i64 E.B.depth) := h.par.cell rfl
  have c3 : w.cell? ⟨E.p, 3, none⟩ = some (.int .i64 E.B.nodes) := h.par.cell rfl
  have c6 : w.cell? ⟨E.p, 6, none⟩ = some (.pointer (some ⟨E.g, 0, none⟩)) := h.par.cell rfl
  have g0 : w.cell? ⟨E.g, 0, none⟩ = some nv := h.gr.cell rfl
  have hv : ∃ a cap, nv = .slice a rows.length cap := by
    rcases h.nodes.2 with ⟨e, h0⟩ | ⟨g, cap, cur, e, _⟩
    · exact ⟨_, _, by rw [e, h0]⟩
    · exact ⟨_, _, e⟩
  obtain ⟨a, cap, rfl⟩ := hv
  have hlen : t.nodes.length = rows.length := by rw [h.same]; simp
  have HL : Hid _ := hlen
  clear hlen
  have hN := hE.n
  have hD := hE.d
  by_cases hlv : E.B.depth < lv
  · have HM : Hid (beginM E.B lv t = .bad 4 t.k) := by unfold Hid beginM; rw [if_pos hlv]
    go_enter Tryz.func89, Tryz.ntmps89
    go_wp2_with fail
    refine (pplace_any E t _ rows w h).mono ?_
    rintro e w1 ⟨rfl, rfl⟩
    go_wp2_with fail
    refine (fail_any E t _ rows _ h 4 t.k).mono ?_
    rintro e w2 ⟨rfl, hb⟩
    go_wp2_with fail
    go_ret2
    rw [HM.out]
    exact ⟨0, rfl, hb⟩
  · by_cases hnn : E.B.nodes ≤ (rows.length : Int)
    · have HM : Hid (beginM E.B lv t = .bad 5 t.k) := by unfold Hid beginM; rw [if_neg hlv, if_pos (by rw [HL.out]; exact hnn)]
      go_enter Tryz.func89, Tryz.ntmps89
      go_wp2_with fail
      go_quiet (fail)
      go_wp2_with fail
      refine (pplace_any E t _ rows _ (h.frame ((But.refl [] w).drewN _) (by simp))).mono ?_
      rintro e w1 ⟨rfl, rfl⟩
      go_wp2_with fail
      refine (fail_any E t _ rows _ (h.frame ((But.refl [] w).drewN _) (by simp)) 5 t.k).mono ?_
      rintro e w2 ⟨rfl, hb⟩
      go_wp2_with fail
      go_ret2
      rw [HM.out]
      exact ⟨0, rfl, Bad.trans ((But.refl _ w).drewN _) (fun _ hx => .inl hx) hb⟩
    · have HM : Hid (beginM E.B lv t = .ok t.nodes.length { t with nodes := t.nodes ++ [NodeV.blank] }) := by unfold Hid beginM; rw [if_neg hlv, if_neg (by rw [HL.out]; exact hnn)]
      go_enter Tryz.func89, Tryz.ntmps89
      go_wp2_with fail
      go_quiet (fail)
      go_wp2_with fail
      refine (gBegin_any E t _ rows _ (h.frame ((But.refl [] w).drewN _) (by simp)) (by omega)).mono ?_
      rintro e w1 ⟨rfl, hg⟩
      go_wp2_with fail
      go_ret2
      rw [HM.out]
      exact ⟨0, rfl, Good.trans ((But.refl _ w).drewN _) (fun _ hx => .inl hx) (fun _ hx => .inl hx) hg⟩

end Go.Proofs.YtkflkmmbakccoaaGreatDoor

/- THE PARSER IN MEMORY: a node's cells; the names. -/
namespace Go.Proofs.YtkflkmmbakccoaaGreatDoor
open Go.RowKit Go.Maps

theorem flat_at (rows : List Row) (i j : Nat) (hi : i < rows.length) (hj : j < 6) : (rows.flatMap Row.cells)[i * 6 + j]? = (rows[i]).cells[j]? := by
  induction rows generalizing i with
  | nil => simp at hi
  | cons r rows ih =>
    cases i with
    | zero =>
      simp only [List.flatMap_cons, Nat.zero_mul, Nat.zero_add, List.getElem_cons_zero]
      rw [List.getElem?_append_left (by simp [Row.cells]; omega)]
    | succ i =>
      simp only [List.flatMap_cons, List.getElem_cons_succ]
      rw [List.getElem?_append_right (by simp [Row.cells]; omega)]
      have e : (i + 1) * 6 + j - r.cells.length = i * 6 + j := by simp [Row.cells]; omega
      rw [e]
      exact ih i (by simpa using hi)

theorem flat_len (rows : List Row) : (rows.flatMap Row.cells).length = rows.length * 6 := by
  induction rows with
  | nil => rfl
  | cons r rows ih => simp only [List.flatMap_cons, List.length_append, ih, List.length_cons]; simp [Row.cells]; omega

/-- The nodes' slice, and a node's cells. -/
theorem PInv.node {E : Env} {t : PS} {nv : Value} {rows : List Row} {w : World} (h : PInv E t nv rows w) (i : Nat) (hi : i < rows.length) :
    ∃ nb cap, nv = .slice (some ⟨nb, 0, none⟩) rows.length cap ∧ rows.length ≤ cap ∧ ∀ j, j < 6 → w.cell? ⟨nb, i * 6 + j, none⟩ = (rows[i]).cells[j]? ∧ w.frozen? ⟨nb, i * 6 + j, none⟩ = false := by
  rcases h.nodes.2 with ⟨_, h0⟩ | ⟨g, cap, cur, e, hb, hg, hc, hm, hs, ht⟩
  · omega
  · refine ⟨g, cap, e, hc, fun j hj => ⟨?_, Blk.free (cs := cur) (T := 79) hg _⟩⟩
    have h1 := flat_at rows i j hi hj
    rw [← ht, List.getElem?_take, if_pos (by omega)] at h1
    rw [← h1]
    simp only [World.cell?, hg]
    simp

theorem PInv.len {E : Env} {t : PS} {nv : Value} {rows : List Row} {w : World} (h : PInv E t nv rows w) : t.nodes.length = rows.length := by rw [h.same]; simp

theorem PInv.highAt {E : Env} {t : PS} {nv : Value} {rows : List Row} {w : World} (h : PInv E t nv rows w) (i : Nat) (hi : i < rows.length) : highOf t.nodes i = (rows[i]).n.high := by
  simp [highOf, h.same, List.getD, hi]
theorem PInv.heavyAt {E : Env} {t : PS} {nv : Value} {rows : List Row} {w : World} (h : PInv E t nv rows w) (i : Nat) (hi : i < rows.length) : heavyOf t.nodes i = (rows[i]).n.heavy := by
  simp [heavyOf, h.same, List.getD, hi]

theorem wordM_size {s : ByteArray} {t t' : PS} {x : ByteArray} (h : wordM s t = .ok x t') (hr : ∀ q, (rdAny s q).1.size ≤ s.size) : x.size ≤ s.size := by
  unfold wordM at h
  split at h
  · unfold readM at h
    split at h
    · cases h; exact hr _
    · cases h
  · cases h

theorem key_inj {x y : ByteArray} (h : x ≠ y) : (Lit.string y.data.toList) ≠ .string x.data.toList := fun e => h (by
  simp at e
  apply ByteArray.ext
  exact e.symm)

/-- A name is taken over. -/
theorem NamesOk.put {D : DataW Unit} {names : List (ByteArray × Nat)} (h : NamesOk D names) (x : ByteArray) (i : Nat) : NamesOk ((D.del (.string x.data.toList)).put (.string x.data.toList) (.lit (.int .i64 (i : Int)))) ((x, i) :: names) := by
  have hk : WideAt.IsKeyLit (.string x.data.toList) := trivial
  have hd : IsMap (D.del (.string x.data.toList)) := by
    obtain ⟨es, rfl⟩ := h.isMap
    exact ⟨_, rfl⟩
  refine ⟨?_, fun y hy => ?_, fun y j hy => ?_⟩
  · obtain ⟨es, he⟩ := hd
    rw [he]
    exact ⟨_, rfl⟩
  · have hxy : x ≠ y := fun e => by subst e; simp [lookM] at hy
    have hy' : lookM names y = .none := by simpa [lookM, hxy] using hy
    rw [has_put_other (key_inj hxy), has_del_other (key_inj hxy)]
    exact h.none y hy'
  · by_cases hxy : x = y
    · subst hxy
      have hj : j = i := by simp [lookM] at hy; exact hy.symm
      subst hj
      exact ⟨has_put_same hd hk _, atKey_put_same hd hk _ _⟩
    · have hy' : lookM names y = .some j := by simpa [lookM, hxy] using hy
      rw [has_put_other (key_inj hxy), has_del_other (key_inj hxy), atKey_put_other (key_inj hxy), atKey_del_other (key_inj hxy)]
      exact h.some y j hy'

end Go.Proofs.YtkflkmmbakccoaaGreatDoor

/- WALKS: package parse: alias, takeOver. -/
namespace Go.Proofs.YtkflkmmbakccoaaGreatDoor
open Go.RowKit Go.Maps Go.WideMaps

theorem undStr : Tryz.prog.underlying 9 = some .string := by kernel_rfl
theorem undInt : Tryz.prog.underlying 3 = some (.int .i64) := by kernel_rfl
theorem undMap : Tryz.prog.underlying 88 = some (.map 9 3) := by kernel_rfl
theorem zeroInt (w : World) : (zeroValue 3).run Tryz.prog w = .ok (.int .i64 0) w := by kernel_rfl
theorem strKey : Keyed Tryz.prog 9 := string_keyed undStr

set_option maxHeartbeats 400000 in
theorem alias_any (E : Env) (hE : EnvOk E) (t : PS) (nv : Value) (rows : List Row) (w : World) (h : PInv E t nv rows w) (hk : t.k < E.s.size) (lv : Int) (hl0 : 0 ≤ lv) (hl1 : lv ≤ 100) :
    Calls Tryz.prog 115 #[pp E, .int .i64 lv] w fun e w' => PostN E nv rows w (aliasM E.s E.B lv t) e w' := by
  go_enter Tryz.func115, Tryz.ntmps115
  go_wp2_with fail
  refine (pplace_any E t _ rows w h).mono ?_
  rintro e w0 ⟨rfl, rfl⟩
  go_wp2_with fail
  refine (pskip_any E hE t nv rows _ h hk).mono ?_
  rintro e w1 ⟨rfl, hI1, hb1⟩
  go_wp2_with fail
  refine (pword_any E hE _ nv rows w1 hI1).mono ?_
  intro e w2 hp
  have hp' := Post.moved hb1 hp
  clear hp
  cases hm : wordM E.s { t with k := t.k + 1 } with
  | bad er pl =>
    rw [hm] at hp'
    obtain ⟨rfl, hg⟩ := hp'
    have HM : Hid (aliasM E.s E.B lv t = .bad er pl) := by unfold Hid aliasM; rw [hm]; rfl
    clear hm
    go_wp2_with fail
    go_ret2
    rw [HM.out]
    exact ⟨0, rfl, hg⟩
  | ok x t1 =>
    rw [hm] at hp'
    obtain ⟨rfl, nv1, rows1, hI2, hb2, ho2, hq2⟩ := hp'
    have hxs := wordM_size hm (rdAny_size E.s)
    have hs := hE.s
    have c7 : w2.cell? ⟨E.p, 7, none⟩ = some (.map (some E.m)) := hI2.par.cell rfl
    obtain ⟨D, hmap, hnm⟩ := hI2.map
    have hkey := keyOf_string_mk (P := Tryz.prog) undStr (s := x) (by unfold maxLen; omega)
    cases hlk : lookM t1.names x with
    | none =>
      have HM : Hid (aliasM E.s E.B lv t = .bad 7 t.k) := by unfold Hid aliasM; rw [hm]; simp [hlk]
      have hhas := hnm.none x hlk
      clear hm hlk hnm
      go_wp2_with (at_lookup; refine wpList_lookup_own_ok_int _ rfl _ _ 88 rfl 9 3 .i64 strKey undMap undInt (zeroInt _) E.m _ D rfl hmap _ _ rfl hkey ?_; intro c hat hwc)
      refine (fail_any E t1 _ rows1 _ hI2 7 t.k).mono ?_
      rintro e w3 ⟨rfl, hb3⟩
      go_wp2_with fail
      go_ret2
      rw [HM.out]
      exact ⟨0, rfl, Bad.trans hb2 ho2 hb3⟩
    | some i =>
      obtain ⟨hhas, hat0⟩ := hnm.some x i hlk
      obtain ⟨pr, hpr, rfl⟩ := lookM_mem hlk
      have hhi := hI2.wf.named pr hpr
      have hlt : pr.2 < rows1.length := by have := highOf_lt hhi; rw [hI2.len] at this; exact this
      have hHM : aliasM E.s E.B lv t = if E.B.depth < lv + (highOf t1.nodes pr.2 : Int) - 1 then .bad 4 t.k else .ok pr.2 t1 := by unfold aliasM; rw [hm]; simp [hlk]
      have hhb := hI2.wf.high pr.2
      have hhe := hI2.highAt pr.2 hlt
      obtain ⟨nb, cap, rfl, hcap, hcell⟩ := hI2.node pr.2 hlt
      have cn := (hcell 4 (by omega)).1
      simp only [Row.cells, List.getElem?_cons_succ, List.getElem?_cons_zero] at cn
      rw [← hhe] at cn
      have c6 : w2.cell? ⟨E.p, 6, none⟩ = some (.pointer (some ⟨E.g, 0, none⟩)) := hI2.par.cell rfl
      have c2 : w2.cell? ⟨E.p, 2, none⟩ = some (.int .i64 E.B.depth) := hI2.par.cell rfl
      have g0 : w2.cell? ⟨E.g, 0, none⟩ = some (.slice (some ⟨nb, 0, none⟩) rows1.length cap) := hI2.gr.cell rfl
      generalize hH : highOf t1.nodes pr.2 = H at *
      generalize pr.2 = i at *
      have HHM : Hid _ := hHM
      clear hm hlk hnm hHM hcell hhe hH hpr hhi
      have hD0 := hE.d0
      have hD := hE.d
      go_wp2_with (at_lookup; refine wpList_lookup_own_ok_int _ rfl _ _ 88 rfl 9 3 .i64 strKey undMap undInt (zeroInt _) E.m _ D rfl hmap _ _ rfl hkey ?_; intro c hat hwc; obtain rfl : c = (i : Int) := by { rw [hat0] at hat; simpa using hat.symm })
      by_cases hdp : E.B.depth < lv + (H : Int) - 1
      · have HM : Hid _ := HHM.out.trans (if_pos hdp)
        go_quiet (fail)
        go_wp2_with fail
        refine (fail_any E t1 _ rows1 _ (hI2.frame ((But.refl [] _).drewN _) (by simp)) 4 t.k).mono ?_
        rintro e w3 ⟨rfl, hb3⟩
        go_wp2_with fail
        go_ret2
        rw [HM.out]
        exact ⟨0, rfl, Bad.trans (hb2.drewN _) ho2 hb3⟩
      · have HM : Hid _ := HHM.out.trans (if_neg hdp)
        go_quiet (fail)
        go_wp2_with fail
        go_ret2
        rw [HM.out]
        exact ⟨0, rfl, _, rows1, hI2.frame ((But.refl [] _).drewN _) (by simp), hb2.drewN _, ho2, hq2⟩

theorem turned_but {w w' : World} {b : Nat} (h : w.mapTurned w' b) : But [b] w w' := by
  obtain ⟨es, clock, es', clock', h1, rfl⟩ := h
  refine ⟨rfl, rfl, rfl, by simp [ChangeMaps.setBlock], fun k _ hn => ?_⟩
  simp only [ChangeMaps.setBlock]
  rw [Array.getElem?_setIfInBounds_ne (fun e => hn (by simp [e]))]

theorem grown_one {w w' : World} {b : Nat} (h : w.grownBy w' (some b)) : But [b] w w' :=
  ⟨h.os, h.tape, h.output, h.size, fun k hk hn => h.block k hk (fun e => hn (by simp at e; simp [e]))⟩

set_option maxHeartbeats 400000 in
theorem takeOver_any (E : Env) (t : PS) (nv : Value) (rows : List Row) (w : World) (h : PInv E t nv rows w) (x : ByteArray) (hx : x.size ≤ 1000) (i : Nat) (hi : highOf t.nodes i ≠ 0) (hn : t.names.length < t.anchors) :
    Calls Tryz.prog 150 #[pp E, .string x, .int .i64 (i : Int)] w fun e w' => e = .returned (.tuple #[]) ∧ Good E nv rows w { t with names := (x, i) :: t.names } w' := by
  have c7 : w.cell? ⟨E.p, 7, none⟩ = some (.map (some E.m)) := h.par.cell rfl
  obtain ⟨D, hmap, hnm⟩ := h.map
  have hkey := keyOf_string_mk (P := Tryz.prog) undStr (s := x) (by unfold maxLen; omega)
  have hnn := h.wf.names
  have hna := h.wf.anchors
  have hwf : (Lit.int .i64 (i : Int)).wf = true := WalkArith.wf_i64 (by have := highOf_lt hi; have := h.wf.nodes; omega)
  go_enter Tryz.func150, Tryz.ntmps150
  go_wp2_with (first
    | (at_delete; refine wpList_delete_own _ rfl _ _ 88 9 rfl 3 strKey undMap _ E.m _ D rfl hmap _ _ rfl hkey ?_; intro w1 hmap1 hturn; have hb1 := turned_but hturn; have c71 : w1.cell? ⟨E.p, 7, none⟩ = some (.map (some E.m)) := (hb1.blk h.par (by have := h.p_not; simp at this ⊢; exact this.2.1)).cell rfl)
    | (at_mapUpdate; refine wpList_mapUpdate_own _ rfl _ _ _ 88 rfl 9 3 strKey undMap _ E.m _ _ rfl hmap1 (by unfold maxLen; omega) _ _ _ rfl rfl hkey _ [] (plainElem_int undInt hwf) ?_; intro w2 hmap2 hgrow2))
  go_end0
  have hb2 : But [E.m] w w2 := hb1.trans (grown_one hgrow2) (by simp)
  have hm1 : ∀ x ∈ E.p :: E.g :: (own nv ++ pub rows), x ∉ [E.m] := by
    intro x hx hy
    have := List.mem_singleton.1 hy
    subst this
    simp only [List.mem_cons, List.mem_append] at hx
    rcases hx with hx | hx | hx | hx
    · exact h.p_not (by simp [hx])
    · exact h.g_not (by simp [hx])
    · exact h.own_not hx (by simp)
    · obtain ⟨cs, T, hc, _⟩ := h.pub_block hx
      exact h.m_block hc
  refine ⟨rfl, nv, rows, ⟨hb2.blk h.par (hm1 _ (by simp)), hb2.blk h.gr (hm1 _ (by simp)), ownsRow_but h.nodes hb2 (fun x hx => hm1 x (by simp [hx])), h.same, fun r hr => (h.rows r hr).but hb2 (fun x hx => hm1 x ?_), ⟨_, hmap2, hnm.put x i⟩, ⟨h.wf.k, h.wf.nodes, h.wf.anchors, by simp; omega, ?_, h.wf.heavy, h.wf.high⟩, Nat.le_trans h.base hb2.size⟩, hb2.mono (by simp), fun _ hx => .inl hx, fun _ hx => .inl hx⟩
  · simp only [List.mem_cons, List.mem_append, pub, List.mem_flatMap]
    exact .inr (.inr (.inr ⟨r, hr, hx⟩))
  · intro p hp
    rcases List.mem_cons.1 hp with rfl | hp
    · exact hi
    · exact h.wf.named p hp

end Go.Proofs.YtkflkmmbakccoaaGreatDoor
