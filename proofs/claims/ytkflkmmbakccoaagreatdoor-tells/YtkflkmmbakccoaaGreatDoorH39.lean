/- PARTS: B1, B2. -/
import Derived.Test.YtkflkmmbakccoaaGreatDoorH5
import Derived.Lib.FrozenHead2

/- THE BUILDER IN THE WRITER's FIELD: an append says where the row lies; copyCheck, Len, Reset. -/
namespace Go.Proofs.YtkflkmmbakccoaaGreatDoor
open Go.RowKit Go.Maps

section
variable {P : Program} (w : World)

theorem appStr_loc (base : Nat) (t u ty e : TypeId) (i : TypeInfo) (ht : P.underlying t = some (.slice e)) (hu : P.underlying u = some .string) (hi : P.info? e = some i) (hz : i.zero = some (.int .u8 0))
    (hsize : i.size = 1) (hby : i.bytes = 1) (v : Value) (n : Nat) (xs : List Value) (hown : w.ownsRowF base e 1 v n xs) (s : ByteArray) (h63 : n + s.size ≤ maxLen) (hbytes : n + s.size ≤ 140737488355328) (hbase : base ≤ w.heap.size) :
    ∃ v' w', (Builtin.append_ #[t, u] ty #[v, .string s]).run P w = .ok v' w' ∧ w'.ownsRowF base e 1 v' (n + s.size) (xs ++ Lib.strCells s) ∧ w.grownBy w' v.ownBlock ∧ (v'.ownBlock = v.ownBlock ∨ ∃ k, v'.ownBlock = some k ∧ w.heap.size ≤ k) := by
  obtain ⟨v', w', hr, h2, h3, _⟩ := Lib.run_append_own_stringF (P := P) w base t u ty e i ht hu hi hz hsize hby v n xs hown s h63 hbytes hbase
  refine ⟨v', w', hr, h2, h3, ?_⟩
  have hsmall : n + s.size ≤ 9223372036854775807 := by simp only [maxLen] at h63; omega
  rcases hown.2 with ⟨rfl, rfl⟩ | ⟨g, cap, cur, fz, rfl, hbg, hg, hfz, hnc, hcm, hcs, htake⟩
  · have hx : xs = [] := List.eq_nil_of_length_eq_zero (by simpa using hown.1)
    subst hx
    obtain ⟨v'', w'', hr2, g2, _⟩ := Lib.run_append_own_stringF (P := P) w w.heap.size t u ty e i ht hu hi hz hsize hby (.slice none 0 0) 0 [] (World.ownsRowF_nil _ _ _ _) s h63 hbytes (Nat.le_refl _)
    rw [hr] at hr2
    simp only [Result.ok.injEq] at hr2
    obtain ⟨rfl, rfl⟩ := hr2
    cases ho : v'.ownBlock with
    | none => exact .inl rfl
    | some k => exact .inr ⟨k, rfl, (g2.lt k ho).1⟩
  · by_cases hroom : n + s.size ≤ cap
    · have hcs' : cur.size = cap := by simpa using hcs
      have hr2 := Lib.run_append_room_stringF (P := P) w t u ty e i ht hu hi hsize g n cap cur fz hg (by simpa using hfz) s hroom (by omega)
      rw [hr] at hr2
      simp only [Result.ok.injEq] at hr2
      exact .inl (by rw [hr2.1]; rfl)
    · have hxl : xs.length = n := by simpa using hown.1
      have hr2 := Lib.run_append_grow_string (P := P) w t u ty e i (.int .u8 0) ht hu hi hz ⟨g, 0, none⟩ n cap xs (by rw [hsize]; simpa using hxl) (hown.cells (g := g) rfl) s (by omega) (by omega) (by rw [hby]; exact growslice_fits (by omega) (by omega))
      rw [hr] at hr2
      simp only [Result.ok.injEq] at hr2
      exact .inr ⟨w.heap.size, by rw [hr2.1]; rfl, Nat.le_refl _⟩

theorem appOne_loc (base : Nat) (t ty e : TypeId) (i : TypeInfo) (ht : P.underlying t = some (.slice e)) (hi : P.info? e = some i) (hz : i.zero = some (.int .u8 0))
    (hsize : i.size = 1) (hby : i.bytes = 1) (v : Value) (n : Nat) (xs : List Value) (hown : w.ownsRowF base e 1 v n xs) (a : Addr) (c : Nat) (x : Value) (hx : w.cell? a = some x) (h1 : x.oneCell' = true) (h63 : n + 1 ≤ maxLen) (hbytes : n + 1 ≤ 140737488355328) (hbase : base ≤ w.heap.size) :
    ∃ v' w', (Builtin.append_ #[t, t] ty #[v, .slice (some a) 1 c]).run P w = .ok v' w' ∧ w'.ownsRowF base e 1 v' (n + 1) (xs ++ [x]) ∧ w.grownBy w' v.ownBlock ∧ (v'.ownBlock = v.ownBlock ∨ ∃ k, v'.ownBlock = some k ∧ w.heap.size ≤ k) := by
  have hnews : ∀ (j : Nat) (u : Value), [x][j]? = some u → w.cell? (a.add j) = some u := fun j u hj => by
    match j, hj with
    | 0, hj => simp at hj; subst hj; simpa [Addr.add] using hx
  have h1' : ∀ u ∈ [x], u.oneCell' = true := fun u hu => by rw [List.mem_singleton.1 hu]; exact h1
  obtain ⟨v', w', hr, h2, h3, _⟩ := run_append_ownF (P := P) w base t ty e i (.int .u8 0) 1 1 ht hi hz hsize hby rfl (by decide) v n xs hown a 1 c [x] rfl hnews h1' h63 (by omega) hbase
  refine ⟨v', w', hr, h2, h3, ?_⟩
  have hsmall : n + 1 ≤ 9223372036854775807 := by simp only [maxLen] at h63; omega
  rcases hown.2 with ⟨rfl, rfl⟩ | ⟨g, cap, cur, fz, rfl, hbg, hg, hfz, hnc, hcm, hcs, htake⟩
  · have hx0 : xs = [] := List.eq_nil_of_length_eq_zero (by simpa using hown.1)
    subst hx0
    obtain ⟨v'', w'', hr2, g2, _⟩ := run_append_ownF (P := P) w w.heap.size t ty e i (.int .u8 0) 1 1 ht hi hz hsize hby rfl (by decide) (.slice none 0 0) 0 [] (World.ownsRowF_nil _ _ _ _) a 1 c [x] rfl hnews h1' h63 (by omega) (Nat.le_refl _)
    rw [hr] at hr2
    simp only [Result.ok.injEq] at hr2
    obtain ⟨rfl, rfl⟩ := hr2
    cases ho : v'.ownBlock with
    | none => exact .inl rfl
    | some k => exact .inr ⟨k, rfl, (g2.lt k ho).1⟩
  · have hxl : xs.length = n := by simpa using hown.1
    by_cases hroom : n + 1 ≤ cap
    · have hcs' : cur.size = cap := by simpa using hcs
      have hr2 := run_append_roomF (P := P) w t ty e i ht hi g n cap cur fz hg (by rw [hsize]; exact hfz) a 1 c [x] (by rw [hsize]; rfl) hnews h1' hroom (by rw [hsize]; simp; omega)
      rw [hr] at hr2
      simp only [Result.ok.injEq] at hr2
      exact .inl (by rw [hr2.1]; rfl)
    · have hr2 := run_append_grow (P := P) w t ty e i (.int .u8 0) ht hi hz ⟨g, 0, none⟩ n cap xs (by rw [hsize]; simpa using hxl) (hown.cells (g := g) rfl) a 1 c [x] (by rw [hsize]; rfl) hnews (by omega) (by omega) (by rw [hby]; exact growslice_fits (by omega) (by omega))
      rw [hr] at hr2
      simp only [Result.ok.injEq] at hr2
      exact .inr ⟨w.heap.size, by rw [hr2.1]; rfl, Nat.le_refl _⟩

theorem wpApp_str {ops : Array Oper} {rest : List Oper} {o : Oper} {a : Act} {Q : Exit → Act → World → Prop} (hgd : o.guard = none) (sl x : Operand) (t u : TypeId)
    (ho : o.op = .call { callee := .builtin .append, args := #[sl, x], argTypes := #[t, u] })
    (base : Nat) (e : TypeId) (i : TypeInfo) (ht : P.underlying t = some (.slice e)) (hu : P.underlying u = some .string) (hi : P.info? e = some i) (hz : i.zero = some (.int .u8 0)) (hsize : i.size = 1) (hby : i.bytes = 1)
    (v : Value) (n : Nat) (xs : List Value) (hs : a.eval sl = v) (hown : w.ownsRowF base e 1 v n xs) (s : ByteArray) (hx : a.eval x = .string s) (h63 : n + s.size ≤ maxLen) (hbytes : n + s.size ≤ 140737488355328) (hbase : base ≤ w.heap.size)
    (h : ∀ v' w', w'.ownsRowF base e 1 v' (n + s.size) (xs ++ Lib.strCells s) → w.grownBy w' v.ownBlock → (v'.ownBlock = v.ownBlock ∨ ∃ k, v'.ownBlock = some k ∧ w.heap.size ≤ k) → wpList P ops Q rest (a.put o.dst v') w') : wpList P ops Q (o :: rest) a w := by
  refine wpList_plain hgd fun K hK => ?_
  obtain ⟨v', w', hr, h2, h3, h4⟩ := appStr_loc (P := P) w base t u o.type e i ht hu hi hz hsize hby v n xs hown s h63 hbytes hbase
  unfold Oper.wp execOp
  simp only [ho, resolve, invoke, builtin, Sem.run_bind, Sem.run_pure, Result.andThen_ok, List.map_toArray, List.map_cons, List.map_nil, hs, hx, hr]
  exact hK _ _ (h v' w' h2 h3 h4)

theorem wpApp_one {ops : Array Oper} {rest : List Oper} {o : Oper} {a : Act} {Q : Exit → Act → World → Prop} (hgd : o.guard = none) (sl x : Operand) (t : TypeId)
    (ho : o.op = .call { callee := .builtin .append, args := #[sl, x], argTypes := #[t, t] })
    (base : Nat) (e : TypeId) (i : TypeInfo) (ht : P.underlying t = some (.slice e)) (hi : P.info? e = some i) (hz : i.zero = some (.int .u8 0)) (hsize : i.size = 1) (hby : i.bytes = 1)
    (v : Value) (n : Nat) (xs : List Value) (hs : a.eval sl = v) (hown : w.ownsRowF base e 1 v n xs) (ad : Addr) (c : Nat) (y : Value) (hx : a.eval x = .slice (some ad) 1 c) (hy : w.cell? ad = some y) (h1 : y.oneCell' = true) (h63 : n + 1 ≤ maxLen) (hbytes : n + 1 ≤ 140737488355328) (hbase : base ≤ w.heap.size)
    (h : ∀ v' w', w'.ownsRowF base e 1 v' (n + 1) (xs ++ [y]) → w.grownBy w' v.ownBlock → (v'.ownBlock = v.ownBlock ∨ ∃ k, v'.ownBlock = some k ∧ w.heap.size ≤ k) → wpList P ops Q rest (a.put o.dst v') w') : wpList P ops Q (o :: rest) a w := by
  refine wpList_plain hgd fun K hK => ?_
  obtain ⟨v', w', hr, h2, h3, h4⟩ := appOne_loc (P := P) w base t o.type e i ht hi hz hsize hby v n xs hown ad c y hy h1 h63 hbytes hbase
  unfold Oper.wp execOp
  simp only [ho, resolve, invoke, builtin, Sem.run_bind, Sem.run_pure, Result.andThen_ok, List.map_toArray, List.map_cons, List.map_nil, hs, hx, hr]
  exact hK _ _ (h v' w' h2 h3 h4)
end

/-- The writer's blocks: from N on they are the writing's own. g: the graph; wr: the writer; wk, m: its walker and what that has met; nm: the names; pc: the pieces; bx: the box with the writer's address. -/
structure WEnv where
  N : Nat
  g : Nat
  wr : Nat
  wk : Nat
  m : Nat
  nm : Nat
  pc : Nat

def wcells (X : WEnv) (A bv : Value) : Array Value := #[.pointer (some ⟨X.g, 0, none⟩), .pointer (some ⟨X.wk, 0, none⟩), .map (some X.nm), .map (some X.pc), A, bv]

/-- The writer with what it has written. -/
structure BW (X : WEnv) (out : List UInt8) (bv : Value) (w : World) : Prop where
  N : X.N ≤ w.heap.size
  blk : ∃ A, (A = .pointer none ∨ A = .pointer (some ⟨X.wr, 4, none⟩)) ∧ Blk w X.wr (wcells X A bv) 100
  row : w.ownsRowF X.N 5 1 bv out.length (Lib.byteCells out)

abbrev bpt (X : WEnv) : Value := .pointer (some ⟨X.wr, 4, none⟩)
abbrev wpt (X : WEnv) : Value := .pointer (some ⟨X.wr, 0, none⟩)

theorem ownsRowF_mem {w : World} {base e sz n : Nat} {v : Value} {xs : List Value} (h : w.ownsRowF base e sz v n xs) {x : Nat} (hx : x ∈ own v) : base ≤ x ∧ ∃ cs fz, w.heap[x]? = some (.cells cs e fz) := by
  rcases h.2 with ⟨rfl, _⟩ | ⟨g, cap, cur, fz, rfl, hb, hg, _⟩
  · cases hx
  · simp [own] at hx
    subst hx
    exact ⟨hb, cur, fz, hg⟩

theorem ownsRowF_but {w w' : World} {base e sz n : Nat} {v : Value} {xs : List Value} {S : List Nat} (h : w.ownsRowF base e sz v n xs) (hb : But S w w') (hS : ∀ x ∈ own v, x ∉ S) : w'.ownsRowF base e sz v n xs := by
  refine ⟨h.1, ?_⟩
  rcases h.2 with h2 | ⟨g, cap, cur, fz, rfl, hB, hg, r⟩
  · exact .inl h2
  · exact .inr ⟨g, cap, cur, fz, rfl, hB, by rw [hb.block g (Array.getElem?_eq_some_iff.1 hg).1 (hS g (by simp [own]))]; exact hg, r⟩

theorem ownsRowF_lt {w : World} {base e sz n : Nat} {v : Value} {xs : List Value} (h : w.ownsRowF base e sz v n xs) {x : Nat} (hx : x ∈ own v) : x < w.heap.size := by
  obtain ⟨_, cs, fz, hg⟩ := ownsRowF_mem h hx
  exact (Array.getElem?_eq_some_iff.1 hg).1

theorem BW.frame {X : WEnv} {out : List UInt8} {bv : Value} {w w' : World} {S : List Nat} (h : BW X out bv w) (hb : But S w w') (h1 : X.wr ∉ S) (h2 : ∀ x ∈ own bv, x ∉ S) : BW X out bv w' := by
  obtain ⟨A, hA, hB⟩ := h.blk
  exact ⟨Nat.le_trans h.N hb.size, ⟨A, hA, hb.blk hB h1⟩, ownsRowF_but h.row hb h2⟩

/-- The writer's block is no row of bytes. -/
theorem BW.apart {X : WEnv} {out : List UInt8} {bv : Value} {w : World} (h : BW X out bv w) : X.wr ∉ own bv := fun hx => by
  obtain ⟨_, cs, fz, hg⟩ := ownsRowF_mem h.row hx
  obtain ⟨A, _, hB⟩ := h.blk
  unfold Blk at hB
  rw [hg] at hB
  simp only [Option.some.injEq, Obj.cells.injEq] at hB
  exact absurd hB.2.1 (by decide)

theorem BW.lt {X : WEnv} {out : List UInt8} {bv : Value} {w : World} (h : BW X out bv w) : X.wr < w.heap.size := by
  obtain ⟨A, _, hB⟩ := h.blk
  exact hB.lt

/-- What is left behind a writing. -/
def WPost (X : WEnv) (out : List UInt8) (bv : Value) (w w' : World) : Prop := ∃ bv', BW X out bv' w' ∧ But (X.wr :: own bv) w w' ∧ ∀ x ∈ own bv', x ∈ own bv ∨ w.heap.size ≤ x

theorem WPost.trans {X : WEnv} {o2 : List UInt8} {bv bv1 : Value} {w w1 w2 : World} (hb : But (X.wr :: own bv) w w1) (ho : ∀ x ∈ own bv1, x ∈ own bv ∨ w.heap.size ≤ x) (h : WPost X o2 bv1 w1 w2) : WPost X o2 bv w w2 := by
  obtain ⟨bv2, hB, hb2, ho2⟩ := h
  refine ⟨bv2, hB, hb.trans hb2 (fun x hx => ?_), fun x hx => ?_⟩
  · rcases List.mem_cons.1 hx with rfl | hx
    · exact .inl (List.mem_cons_self ..)
    · rcases ho x hx with h1 | h1
      · exact .inl (List.mem_cons_of_mem _ h1)
      · exact .inr h1
  · rcases ho2 x hx with h1 | h1
    · exact ho x h1
    · exact .inr (Nat.le_trans hb.size h1)

theorem WPost.refl {X : WEnv} {out : List UInt8} {bv : Value} {w w' : World} (h : BW X out bv w) (hb : But [] w w') : WPost X out bv w w' :=
  ⟨bv, h.frame hb (by simp) (by simp), hb.mono (by simp), fun _ hx => .inl hx⟩

theorem builderSize : (Tryz.prog.info? 98).map (·.size) = some 2 := by kernel_rfl
theorem builderLies : liesAt Tryz.prog Tryz.prog.depth 100 (6 / Tryz.prog.cellsOf 100) 4 98 1 = true := by kernel_rfl
theorem infoByte : (Tryz.prog.info? 5).map (fun i => (i.zero, i.size, i.bytes)) = some (some (.int .u8 0), 1, 1) := by kernel_rfl

theorem u_ptrB : Tryz.prog.underlying 95 = some (.pointer 98) := by kernel_rfl
theorem u_rawPtr : Tryz.prog.underlying 173 = some .unsafePointer := by kernel_rfl

set_option maxHeartbeats 1000000 in
set_option maxRecDepth 100000 in
theorem copyCheck_any (X : WEnv) (out : List UInt8) (bv : Value) (w : World) (h : BW X out bv w) :
    Calls Tryz.prog 101 #[bpt X] w fun e w' => e = .returned (.tuple #[]) ∧ Blk w' X.wr (wcells X (bpt X) bv) 100 ∧ But [X.wr] w w' := by
  obtain ⟨A, hA, hB⟩ := h.blk
  rcases hA with rfl | rfl
  · obtain ⟨j, hj, hjs⟩ := Option.map_eq_some_iff.1 builderSize
    have hsh : w.shape? X.wr = some (100, 6) := by unfold Blk at hB; simp [World.shape?, hB, wcells]
    have c4 : w.cell? ⟨X.wr, 4, none⟩ = some (.pointer none) := hB.cell rfl
    have f4 : w.frozen? ⟨X.wr, 4, none⟩ = false := hB.free 4
    go_enter Tryz.func101, Tryz.ntmps101
    go_wp2
    rw [Lib.run_to_unsafe w ⟨X.wr, 4, none⟩ u_ptrB u_rawPtr hj (by rw [hjs]; decide) hsh (by show 4 < 6; omega)]
    simp only [Result.andThen]
    rw [Oper.upon_value]
    go_wp2
    rw [run_callFunc_extern Tryz.func127 (by kernel_rfl) (by kernel_rfl) (by kernel_rfl) (e := Extern.AbiNoEscape.same) (by kernel_rfl)]
    rw [Lib.run_noEscape]
    simp only [Result.andThen]
    rw [Oper.upon_value]
    go_wp2
    rw [Lib.run_from_unsafe w ⟨X.wr, 4, none⟩ u_rawPtr u_ptrB hj hsh builderLies]
    simp only [Result.andThen]
    rw [Oper.upon_value]
    go_wp2
    go_end0
    exact ⟨rfl, by simpa [wcells] using hB.set 4 (bpt X), (But.refl _ _).setCell (by simp) _⟩
  · have c4 : w.cell? ⟨X.wr, 4, none⟩ = some (.pointer (some ⟨X.wr, 4, none⟩)) := hB.cell rfl
    have hnq : ∀ W : World, (binOp .neq 95 (.pointer (some ⟨X.wr, 4, none⟩)) (.pointer (some ⟨X.wr, 4, none⟩))).run Tryz.prog W = .ok (.bool false) W := fun W => by
      obtain ⟨j, hj, _⟩ := Option.map_eq_some_iff.1 builderSize
      exact Lib.run_neq_ptr_same W _ u_ptrB hj
    go_enter Tryz.func101, Tryz.ntmps101
    go_wp2
    go_end0
    exact ⟨rfl, hB, But.refl _ _⟩

set_option maxHeartbeats 400000 in
theorem bLen_any (X : WEnv) (out : List UInt8) (bv : Value) (w : World) (h : BW X out bv w) :
    Calls Tryz.prog 51 #[bpt X] w fun e w' => e = .returned (.int .i64 (out.length : Int)) ∧ w' = w := by
  obtain ⟨A, hA, hB⟩ := h.blk
  obtain ⟨a, cap, rfl⟩ : ∃ a cap, bv = .slice a out.length cap := by
    rcases h.row.2 with ⟨e, h0⟩ | ⟨g, cap, cur, fz, e, _⟩
    · exact ⟨_, _, by rw [e, h0]⟩
    · exact ⟨_, _, e⟩
  have c5 : w.cell? ⟨X.wr, 5, none⟩ = some (.slice a out.length cap) := hB.cell rfl
  go_enter Tryz.func51, Tryz.ntmps51
  go_wp2_with fail
  go_ret
  exact ⟨rfl, rfl⟩

set_option maxHeartbeats 400000 in
theorem bReset_any (X : WEnv) (out : List UInt8) (bv : Value) (w : World) (h : BW X out bv w) :
    Calls Tryz.prog 60 #[bpt X] w fun e w' => e = .returned (.tuple #[]) ∧ BW X [] (.slice none 0 0) w' ∧ But [X.wr] w w' := by
  obtain ⟨A, hA, hB⟩ := h.blk
  obtain ⟨a, cap, rfl⟩ : ∃ a cap, bv = .slice a out.length cap := by
    rcases h.row.2 with ⟨e, h0⟩ | ⟨g, cap, cur, fz, e, _⟩
    · exact ⟨_, _, by rw [e, h0]⟩
    · exact ⟨_, _, e⟩
  have c4 : w.cell? ⟨X.wr, 4, none⟩ = some A := hB.cell rfl
  have f4 : w.frozen? ⟨X.wr, 4, none⟩ = false := hB.free 4
  have c5 : w.cell? ⟨X.wr, 5, none⟩ = some (.slice a out.length cap) := hB.cell rfl
  have f5 : w.frozen? ⟨X.wr, 5, none⟩ = false := hB.free 5
  have hbb : But [X.wr] w ((w.setCell ⟨X.wr, 4, none⟩ (.pointer none)).setCell ⟨X.wr, 5, none⟩ (.slice none 0 0)) := ((But.refl _ _).setCell (by simp) _).setCell (by simp) _
  have hBB := (hB.set 4 (.pointer none)).set 5 (.slice none 0 0)
  go_enter Tryz.func60, Tryz.ntmps60
  go_wp2_with fail
  go_end0
  exact ⟨rfl, ⟨Nat.le_trans h.N hbb.size, ⟨.pointer none, .inl rfl, by simpa [wcells] using hBB⟩, World.ownsRowF_nil _ _ _ _⟩, hbb⟩

end Go.Proofs.YtkflkmmbakccoaaGreatDoor

/- THE BUILDER IN THE WRITER's FIELD: WriteByte, WriteString, String. -/
namespace Go.Proofs.YtkflkmmbakccoaaGreatDoor
open Go.RowKit Go.Maps

theorem own_of_ownBlock {v : Value} {x : Nat} (h : v.ownBlock = some x) : x ∈ own v := mem_own.2 h

theorem loc_own {v v' : Value} {n : Nat} (h : v'.ownBlock = v.ownBlock ∨ ∃ k, v'.ownBlock = some k ∧ n ≤ k) : ∀ x ∈ own v', x ∈ own v ∨ n ≤ x := fun x hx => by
  have e := mem_own.1 hx
  rcases h with h | ⟨k, h, hk⟩
  · exact .inl (mem_own.2 (h ▸ e))
  · rw [h] at e
    exact .inr (by have := Option.some.inj e; omega)

/-- The new row is laid into the field. -/
theorem BW.put {X : WEnv} {o' : List UInt8} {bv v' : Value} {w2 : World} (hN : X.N ≤ w2.heap.size) (hB : Blk w2 X.wr (wcells X (bpt X) bv) 100) (hown : w2.ownsRowF X.N 5 1 v' o'.length (Lib.byteCells o')) :
    BW X o' v' (w2.setCell ⟨X.wr, 5, none⟩ v') := by
  have hne : ∀ x ∈ own v', x ∉ [X.wr] := fun x hx hy => by
    obtain ⟨_, cs, fz, hg⟩ := ownsRowF_mem hown hx
    have := List.mem_singleton.1 hy
    subst this
    unfold Blk at hB
    rw [hg] at hB
    simp only [Option.some.injEq, Obj.cells.injEq] at hB
    exact absurd hB.2.1 (by decide)
  have hbb : But [X.wr] w2 (w2.setCell ⟨X.wr, 5, none⟩ v') := (But.refl _ _).setCell (by simp) _
  exact ⟨Nat.le_trans hN hbb.size, ⟨bpt X, .inr rfl, by simpa [wcells] using hB.set 5 v'⟩, ownsRowF_but hown hbb hne⟩

theorem strCells_list (s : ByteArray) : Lib.strCells s = Lib.byteCells s.data.toList := rfl

theorem u_bytes : Tryz.prog.underlying 96 = some (.slice 5) := by kernel_rfl
theorem u_string : Tryz.prog.underlying 9 = some .string := by kernel_rfl

set_option maxHeartbeats 1000000 in
set_option maxRecDepth 100000 in
theorem wByte_any (X : WEnv) (out : List UInt8) (bv : Value) (w : World) (h : BW X out bv w) (c : UInt8) (n : Int) (hn : n = (c.toNat : Int)) (hl : out.length ≤ 1000000000) :
    Calls Tryz.prog 70 #[bpt X, .int .u8 n] w fun e w' => e = .returned .nilIface ∧ WPost X (out ++ [c]) bv w w' := by
  obtain ⟨i0, hi, hz0, hz1, hz2⟩ := info_parts infoByte
  have hap := h.apart
  have HC : Hid _ := copyCheck_any X out bv w h
  have HN : Hid _ := hn
  clear hn
  go_enter Tryz.func70, Tryz.ntmps70
  go_wp2_with fail
  refine Calls.mono HC.out ?_
  rintro e w1 ⟨rfl, hB1, hb1⟩
  have hown1 : w1.ownsRowF X.N 5 1 bv out.length (Lib.byteCells out) := ownsRowF_but h.row hb1 (fun x hx hy => hap (by have := List.mem_singleton.1 hy; exact this ▸ hx))
  obtain ⟨a, cap, rfl⟩ : ∃ a cap, bv = .slice a out.length cap := by
    rcases h.row.2 with ⟨e, h0⟩ | ⟨g, cap, cur, fz, e, _⟩
    · exact ⟨_, _, by rw [e, h0]⟩
    · exact ⟨_, _, e⟩
  have hN1 : X.N ≤ w1.heap.size := Nat.le_trans h.N hb1.size
  have c5 : w1.cell? ⟨X.wr, 5, none⟩ = some (.slice a out.length cap) := hB1.cell rfl
  clear HC
  go_wp2_with (at_builtin; refine wpApp_one _ rfl _ _ 96 rfl X.N 5 i0 u_bytes hi hz0 hz1 hz2 _ _ _ rfl (hown1.alloc _) ⟨w1.heap.size, 0, none⟩ 1 (.int .u8 n) rfl ?c1 rfl ?c3 ?c4 ?c5 ?_)
  case c1 => simp
  case c3 => unfold maxLen; omega
  case c4 => omega
  case c5 => simp; omega
  intro v' w2 hown' hgrow hloc
  have hb2 : But (own (.slice a out.length cap)) w1 w2 := ((alloc_but w1 _).mono (by simp)).trans (grown_but hgrow) (fun x hx => .inl hx)
  have hB2 := hb2.blk hB1 hap
  have d5 : w2.cell? ⟨X.wr, 5, none⟩ = some (.slice a out.length cap) := hB2.cell rfl
  have f5 : w2.frozen? ⟨X.wr, 5, none⟩ = false := hB2.free 5
  obtain ⟨a', n', cap', rfl⟩ : ∃ a' n' cap', v' = .slice a' n' cap' := by
    rcases hown'.2 with ⟨hv, _⟩ | ⟨g, cap, cur, fz, hv, _⟩
    · exact ⟨_, _, _, hv⟩
    · exact ⟨_, _, _, hv⟩
  clear c5
  go_wp2_with fail
  go_ret
  have hloc' := loc_own hloc
  refine ⟨rfl, _, BW.put (Nat.le_trans hN1 hb2.size) hB2 ?_, ?_, fun x hx => ?_⟩
  · rw [HN.out] at hown'
    have e1 : (out ++ [c]).length = out.length + 1 := by simp
    have e2 : Lib.byteCells (out ++ [c]) = Lib.byteCells out ++ [.int .u8 (c.toNat : Int)] := by simp [Lib.byteCells]
    rw [e1, e2]
    exact hown'
  · exact ((hb1.mono (fun x hx => .inl (by rw [List.mem_singleton.1 hx]; exact List.mem_cons_self ..))).trans hb2 (fun x hx => .inl (List.mem_cons_of_mem _ hx))).setCell (by simp) _
  · rcases hloc' x hx with h1 | h1
    · exact .inl h1
    · exact .inr (by have := hb1.size; first | omega | (simp at h1; omega))

set_option maxHeartbeats 1000000 in
set_option maxRecDepth 100000 in
theorem wStr_any (X : WEnv) (out : List UInt8) (bv : Value) (w : World) (h : BW X out bv w) (s : ByteArray) (hl : out.length + s.size ≤ 1000000000) :
    Calls Tryz.prog 98 #[bpt X, .string s] w fun e w' => e = .returned (.tuple #[.int .i64 s.size, .nilIface]) ∧ WPost X (out ++ s.data.toList) bv w w' := by
  obtain ⟨i0, hi, hz0, hz1, hz2⟩ := info_parts infoByte
  have hap := h.apart
  have HC : Hid _ := copyCheck_any X out bv w h
  go_enter Tryz.func98, Tryz.ntmps98
  go_wp2_with fail
  refine Calls.mono HC.out ?_
  rintro e w1 ⟨rfl, hB1, hb1⟩
  have hown1 : w1.ownsRowF X.N 5 1 bv out.length (Lib.byteCells out) := ownsRowF_but h.row hb1 (fun x hx hy => hap (by have := List.mem_singleton.1 hy; exact this ▸ hx))
  obtain ⟨a, cap, rfl⟩ : ∃ a cap, bv = .slice a out.length cap := by
    rcases h.row.2 with ⟨e, h0⟩ | ⟨g, cap, cur, fz, e, _⟩
    · exact ⟨_, _, by rw [e, h0]⟩
    · exact ⟨_, _, e⟩
  have hN1 : X.N ≤ w1.heap.size := Nat.le_trans h.N hb1.size
  have c5 : w1.cell? ⟨X.wr, 5, none⟩ = some (.slice a out.length cap) := hB1.cell rfl
  clear HC
  go_wp2_with (at_builtin; refine wpApp_str _ rfl _ _ 96 9 rfl X.N 5 i0 u_bytes u_string hi hz0 hz1 hz2 _ _ _ rfl hown1 s rfl ?c3 ?c4 ?c5 ?_)
  case c3 => unfold maxLen; omega
  case c4 => omega
  case c5 => omega
  intro v' w2 hown' hgrow hloc
  have hb2 : But (own (.slice a out.length cap)) w1 w2 := grown_but hgrow
  have hB2 := hb2.blk hB1 hap
  have d5 : w2.cell? ⟨X.wr, 5, none⟩ = some (.slice a out.length cap) := hB2.cell rfl
  have f5 : w2.frozen? ⟨X.wr, 5, none⟩ = false := hB2.free 5
  obtain ⟨a', n', cap', rfl⟩ : ∃ a' n' cap', v' = .slice a' n' cap' := by
    rcases hown'.2 with ⟨hv, _⟩ | ⟨g, cap, cur, fz, hv, _⟩
    · exact ⟨_, _, _, hv⟩
    · exact ⟨_, _, _, hv⟩
  clear c5
  go_wp2_with fail
  go_ret2
  have hloc' := loc_own hloc
  refine ⟨rfl, _, BW.put (Nat.le_trans hN1 hb2.size) hB2 ?_, ?_, fun x hx => ?_⟩
  · have e1 : (out ++ s.data.toList).length = out.length + s.size := by simp
    rw [e1, Lib.byteCells_append]
    exact hown'
  · exact ((hb1.mono (fun x hx => .inl (by rw [List.mem_singleton.1 hx]; exact List.mem_cons_self ..))).trans hb2 (fun x hx => .inl (List.mem_cons_of_mem _ hx))).setCell (by simp) _
  · rcases hloc' x hx with h1 | h1
    · exact .inl h1
    · exact .inr (by have := hb1.size; omega)

theorem But.freeze {S : List Nat} {a w : World} (h : But S a w) {p : Addr} (hp : p.block ∈ S ∨ a.heap.size ≤ p.block) (n : Nat) : But S a (w.freeze p n) := by
  unfold World.freeze
  split
  · exact h
  · refine ⟨h.os, h.tape, h.output, by simpa using h.size, fun i hi hn => ?_⟩
    rw [← h.block i hi hn]
    simp only [Array.getElem?_modify]
    rw [if_neg]
    intro e
    rcases hp with h1 | h1
    · exact hn (e ▸ h1)
    · omega

theorem ownsRowF_freeze {w : World} {base e g cap n : Nat} {xs : List Value} (h : w.ownsRowF base e 1 (.slice (some ⟨g, 0, none⟩) n cap) n xs) : (w.freeze ⟨g, 0, none⟩ n).ownsRowF base e 1 (.slice (some ⟨g, 0, none⟩) n cap) n xs := by
  unfold World.freeze
  split
  · exact h
  · refine ⟨h.1, ?_⟩
    rcases h.2 with ⟨hv, _⟩ | ⟨g', cap', cur, fz, hv, hbg, hg, hfz, rest⟩
    · cases hv
    · injection hv with ha _ hcap
      injection ha with ha
      injection ha with hgg _ _
      subst hgg
      subst hcap
      obtain ⟨lo, hi⟩ := fz
      refine .inr ⟨g, _, cur, (if lo == hi then (0, 0 + n) else (min lo 0, max hi (0 + n))), rfl, hbg, ?_, ?_, rest⟩
      · simp [Array.getElem?_modify, hg]
      · simp only at hfz
        split <;> simp <;> omega

set_option maxHeartbeats 2000000 in
set_option maxRecDepth 100000 in
theorem bString_any (X : WEnv) (out : List UInt8) (bv : Value) (w : World) (h : BW X out bv w) (h0 : out ≠ []) :
    Calls Tryz.prog 48 #[bpt X] w fun e w' => e = .returned (.string ⟨out.toArray⟩) ∧ BW X out bv w' ∧ But (own bv) w w' := by
  have hap := h.apart
  obtain ⟨A, hA, hB⟩ := h.blk
  have hl0 : out.length ≠ 0 := by simpa using h0
  obtain ⟨g, cap, cur, fz, rfl, hbg, hg, hfz, hnc, hcm, hcs, htake⟩ : ∃ g cap cur fz, bv = .slice (some ⟨g, 0, none⟩) out.length cap ∧ X.N ≤ g ∧ w.heap[g]? = some (.cells cur 5 fz) ∧ fz.2 ≤ out.length * 1 ∧ out.length ≤ cap ∧ cap ≤ maxLen ∧ cur.size = cap * 1 ∧ cur.toList.take (out.length * 1) = Lib.byteCells out := by
    rcases h.row.2 with ⟨_, hz⟩ | ⟨g, cap, cur, fz, hv, r⟩
    · exact absurd hz hl0
    · exact ⟨g, cap, cur, fz, hv, r⟩
  have c5 : w.drew.cell? ⟨X.wr, 5, none⟩ = some (.slice (some ⟨g, 0, none⟩) out.length cap) := hB.drew.cell rfl
  have c5' : w.cell? ⟨X.wr, 5, none⟩ = some (.slice (some ⟨g, 0, none⟩) out.length cap) := hB.cell rfl
  have hSD : (Builtin.unsafeSliceData_ #[96] 137 #[.slice (some ⟨g, 0, none⟩) out.length cap]).run Tryz.prog w.drew = .ok (.pointer (some ⟨g, 0, none⟩)) w.drew := Lib.run_unsafeSliceData_row _ _ _ _ _ _ (by omega)
  have hco : Tryz.prog.cellsOf 5 = 1 := by kernel_rfl
  have hUS : (Builtin.unsafeString_ #[137, 3] 9 #[.pointer (some ⟨g, 0, none⟩), .int .i64 out.length]).run Tryz.prog w.drew = .ok (.string ⟨out.toArray⟩) (w.drew.freeze ⟨g, 0, none⟩ out.length) := by
    refine Lib.run_unsafeString_row w.drew 137 3 9 5 (by kernel_rfl) hco g cur.size (by have hg' : w.drew.heap[g]? = some (.cells cur 5 fz) := hg; simp [World.shape?, hg']) out h0 (by omega) (by unfold maxLen at hcm; omega) ?_
    intro j x hx
    have := h.row.cells (g := g) rfl j (.int .u8 x.toNat) (by simp [Lib.byteCells, hx])
    exact this
  have hbb : But (own (.slice (some ⟨g, 0, none⟩) out.length cap)) w (w.drew.freeze ⟨g, 0, none⟩ out.length) := ((But.refl _ w).drew).freeze (.inl (by simp [own])) _
  have hBW : BW X out (.slice (some ⟨g, 0, none⟩) out.length cap) (w.drew.freeze ⟨g, 0, none⟩ out.length) := by
    refine ⟨Nat.le_trans h.N hbb.size, ⟨A, hA, hbb.blk hB hap⟩, ?_⟩
    exact ownsRowF_freeze (w := w.drew) h.row
  have HBW : Hid _ := hBW
  have HBB : Hid _ := hbb
  clear hBW hbb hg htake hcs hcm hfz hB
  go_enter Tryz.func48, Tryz.ntmps48
  go_wp2_with fail
  go_region
  all_goals
    try go_wp2_with fail
    go_ret
    exact ⟨rfl, HBW.out, HBB.out⟩

end Go.Proofs.YtkflkmmbakccoaaGreatDoor
