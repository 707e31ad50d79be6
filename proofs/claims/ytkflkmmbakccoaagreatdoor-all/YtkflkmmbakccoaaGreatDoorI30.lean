/- PARTS: B1, B2, B3, B4. -/
import Derived.Test.YtkflkmmbakccoaaGreatDoorI4
import Derived.Lib.FrozenHead2
import Derived.Test.YtkflkmmbakccoaaGreatDoorI3
import Derived.Test.YtkflkmmbakccoaaGreatDoorI13
import Derived.Test.YtkflkmmbakccoaaGreatDoorI12

/- THE BUILDER IN THE WRITER's FIELD: an append says where the row lies; copyCheck, Len, Reset. -/
namespace Go.Proofs.YtkflkmmbakccoaaGreatDoor
open Go.RowKit Go.Maps

section
variable {P : Program} (w : World)

theorem appStr_loc (base : Nat) (t u ty e : TypeId) (i : TypeInfo) (ht : P.underlying t = some (.slice e)) (hu : P.underlying u = some .string) (hi : P.info? e = some i) (hz : i.zero = some (.int .u8 0))
    (hsize : i.size = 1) (hby : i.bytes = 1) (v : Value) (n : Nat) (xs : List Value) (hown : w.ownsRowF base e 1 v n xs) (s : ByteArray) (h63 : n + s.size ≤ maxLen) (hbytes : n + s.size ≤ 140737488355328) (hbase : base ≤ w.heap.size) :
    ∃ v' w', (Builtin.append_ #[t, u] ty #[v, .string s]).run P w = .ok v' w' ∧ w'.ownsRowF base e 1 v' (n + s.size) (xs ++ Lib.strCells s) ∧ w.grownBy w' v.ownBlock ∧ (v'.ownBlock = v.ownBlock ∨ ∃ k, v'.ownBlock = some k ∧ w.heap.size ≤ k) := by
  obtain ⟨v', w', hr, h2, h3, _⟩ := Lib.run_append_own_stringF (P := P) w base t u ty e i ht hu hi hz hsize hby v n xs hown s h63 hbytes hbase
  refine ⟨v', w', hr, h2, h3, ?_⟩
  have hsmall : n + s.size ≤ 9223372036854775807 := by simp only [maxLen] at h63; omega
  rcases hown.2 with ⟨rfl, rfl⟩ | ⟨g, cap, cur, fz, rfl, hbg, hg, hfz, hnc, hcm, hcs, htake⟩
  · have hx : xs = [] := List.eq_nil_of_length_eq_zero (by simpa using hown.1)
    subst hx
    obtain ⟨v'', w'', hr2, g2, _⟩ := Lib.run_append_own_stringF (P := P) w w.heap.size t u ty e i ht hu hi hz hsize hby (.slice none 0 0) 0 [] (World.ownsRowF_nil _ _ _ _) s h63 hbytes (Nat.le_refl _)
    rw [hr] at hr2
    simp only [Result.ok.injEq] at hr2
    obtain ⟨rfl, rfl⟩ := hr2
    cases ho : v'.ownBlock with
    | none => exact .inl rfl
    | some k => exact .inr ⟨k, rfl, (g2.lt k ho).1⟩
  · by_cases hroom : n + s.size ≤ cap
    · have hcs' : cur.size = cap := by simpa using hcs
      have hr2 := Lib.run_append_room_stringF (P := P) w t u ty e i ht hu hi hsize g n cap cur fz hg (by simpa using hfz) s hroom (by omega)
      rw [hr] at hr2
      simp only [Result.ok.injEq] at hr2
      exact .inl (by rw [hr2.1]; rfl)
    · have hxl : xs.length = n := by simpa using hown.1
      have hr2 := Lib.run_append_grow_string (P := P) w t u ty e i (.int .u8 0) ht hu hi hz ⟨g, 0, none⟩ n cap xs (by rw [hsize]; simpa using hxl) (hown.cells (g := g) rfl) s (by omega) (by omega) (by rw [hby]; exact growslice_fits (by omega) (by omega))
      rw [hr] at hr2
      simp only [Result.ok.injEq] at hr2
      exact .inr ⟨w.heap.size, by rw [hr2.1]; rfl, Nat.le_refl _⟩

theorem appOne_loc (base : Nat) (t ty e : TypeId) (i : TypeInfo) (ht : P.underlying t = some (.slice e)) (hi : P.info? e = some i) (hz : i.zero = some (.int .u8 0))
    (hsize : i.size = 1) (hby : i.bytes = 1) (v : Value) (n : Nat) (xs : List Value) (hown : w.ownsRowF base e 1 v n xs) (a : Addr) (c : Nat) (x : Value) (hx : w.cell? a = some x) (h1 : x.oneCell' = true) (h63 : n + 1 ≤ maxLen) (hbytes : n + 1 ≤ 140737488355328) (hbase : base ≤ w.heap.size) :
    ∃ v' w', (Builtin.append_ #[t, t] ty #[v, .slice (some a) 1 c]).run P w = .ok v' w' ∧ w'.ownsRowF base e 1 v' (n + 1) (xs ++ [x]) ∧ w.grownBy w' v.ownBlock ∧ (v'.ownBlock = v.ownBlock ∨ ∃ k, v'.ownBlock = some k ∧ w.heap.size ≤ k) := by
  have hnews : ∀ (j : Nat) (u : Value), [x][j]? = some u → w.cell? (a.add j) = some u := fun j u hj => by
    match j, hj with
    | 0, hj => simp at hj; subst hj; simpa [Addr.add] using hx
  have h1' : ∀ u ∈ [x], u.oneCell' = true := fun u hu => by rw [List.mem_singleton.1 hu]; exact h1
  obtain ⟨v', w', hr, h2, h3, _⟩ := run_append_ownF (P := P) w base t ty e i (.int .u8 0) 1 1 ht hi hz hsize hby rfl (by decide) v n xs hown a 1 c [x] rfl hnews h1' h63 (by omega) hbase
  refine ⟨v', w', hr, h2, h3, ?_⟩
  have hsmall : n + 1 ≤ 9223372036854775807 := by simp only [maxLen] at h63; omega
  rcases hown.2 with ⟨rfl, rfl⟩ | ⟨g, cap, cur, fz, rfl, hbg, hg, hfz, hnc, hcm, hcs, htake⟩
  · have hx0 : xs = [] := List.eq_nil_of_length_eq_zero (by simpa using hown.1)
    subst hx0
    obtain ⟨v'', w'', hr2, g2, _⟩ := run_append_ownF (P := P) w w.heap.size t ty e i (.int .u8 0) 1 1 ht hi hz hsize hby rfl (by decide) (.slice none 0 0) 0 [] (World.ownsRowF_nil _ _ _ _) a 1 c [x] rfl hnews h1' h63 (by omega) (Nat.le_refl _)
    rw [hr] at hr2
    simp only [Result.ok.injEq] at hr2
    obtain ⟨rfl, rfl⟩ := hr2
    cases ho : v'.ownBlock with
    | none => exact .inl rfl
    | some k => exact .inr ⟨k, rfl, (g2.lt k ho).1⟩
  · have hxl : xs.length = n := by simpa using hown.1
    by_cases hroom : n + 1 ≤ cap
    · have hcs' : cur.size = cap := by simpa using hcs
      have hr2 := run_append_roomF (P := P) w t ty e i ht hi g n cap cur fz hg (by rw [hsize]; exact hfz) a 1 c [x] (by rw [hsize]; rfl) hnews h1' hroom (by rw [hsize]; simp; omega)
      rw [hr] at hr2
      simp only [Result.ok.injEq] at hr2
      exact .inl (by rw [hr2.1]; rfl)
    · have hr2 := run_append_grow (P := P) w t ty e i (.int .u8 0) ht hi hz ⟨g, 0, none⟩ n cap xs (by rw [hsize]; simpa using hxl) (hown.cells (g := g) rfl) a 1 c [x] (by rw [hsize]; rfl) hnews (by omega) (by omega) (by rw [hby]; exact growslice_fits (by omega) (by omega))
      rw [hr] at hr2
      simp only [Result.ok.injEq] at hr2
      exact .inr ⟨w.heap.size, by rw [hr2.1]; rfl, Nat.le_refl _⟩

theorem wpApp_str {ops : Array Oper} {rest : List Oper} {o : Oper} {a : Act} {Q : Exit → Act → World → Prop} (hgd : o.guard = none) (sl x : Operand) (t u : TypeId)
    (ho : o.op = .call { callee := .builtin .append, args := #[sl, x], argTypes := #[t, u] })
    (base : Nat) (e : TypeId) (i : TypeInfo) (ht : P.underlying t = some (.slice e)) (hu : P.underlying u = some .string) (hi : P.info? e = some i) (hz : i.zero = some (.int .u8 0)) (hsize : i.size = 1) (hby : i.bytes = 1)
    (v : Value) (n : Nat) (xs : List Value) (hs : a.eval sl = v) (hown : w.ownsRowF base e 1 v n xs) (s : ByteArray) (hx : a.eval x = .string s) (h63 : n + s.size ≤ maxLen) (hbytes : n + s.size ≤ 140737488355328) (hbase : base ≤ w.heap.size)
    (h : ∀ v' w', w'.ownsRowF base e 1 v' (n + s.size) (xs ++ Lib.strCells s) → w.grownBy w' v.ownBlock → (v'.ownBlock = v.ownBlock ∨ ∃ k, v'.ownBlock = some k ∧ w.heap.size ≤ k) → wpList P ops Q rest (a.put o.dst v') w') : wpList P ops Q (o :: rest) a w := by
  refine wpList_plain hgd fun K hK => ?_
  obtain ⟨v', w', hr, h2, h3, h4⟩ := appStr_loc (P := P) w base t u o.type e i ht hu hi hz hsize hby v n xs hown s h63 hbytes hbase
  unfold Oper.wp execOp
  simp only [ho, resolve, invoke, builtin, Sem.run_bind, Sem.run_pure, Result.andThen_ok, List.map_toArray, List.map_cons, List.map_nil, hs, hx, hr]
  exact hK _ _ (h v' w' h2 h3 h4)

theorem wpApp_one {ops : Array Oper} {rest : List Oper} {o : Oper} {a : Act} {Q : Exit → Act → World → Prop} (hgd : o.guard = none) (sl x : Operand) (t : TypeId)
    (ho : o.op = .call { callee := .builtin .append, args := #[sl, x], argTypes := #[t, t] })
    (base : Nat) (e : TypeId) (i : TypeInfo) (ht : P.underlying t = some (.slice e)) (hi : P.info? e = some i) (hz : i.zero = some (.int .u8 0)) (hsize : i.size = 1) (hby : i.bytes = 1)
    (v : Value) (n : Nat) (xs : List Value) (hs : a.eval sl = v) (hown : w.ownsRowF base e 1 v n xs) (ad : Addr) (c : Nat) (y : Value) (hx : a.eval x = .slice (some ad) 1 c) (hy : w.cell? ad = some y) (h1 : y.oneCell' = true) (h63 : n + 1 ≤ maxLen) (hbytes : n + 1 ≤ 140737488355328) (hbase : base ≤ w.heap.size)
    (h : ∀ v' w', w'.ownsRowF base e 1 v' (n + 1) (xs ++ [y]) → w.grownBy w' v.ownBlock → (v'.ownBlock = v.ownBlock ∨ ∃ k, v'.ownBlock = some k ∧ w.heap.size ≤ k) → wpList P ops Q rest (a.put o.dst v') w') : wpList P ops Q (o :: rest) a w := by
  refine wpList_plain hgd fun K hK => ?_
  obtain ⟨v', w', hr, h2, h3, h4⟩ := appOne_loc (P := P) w base t o.type e i ht hi hz hsize hby v n xs hown ad c y hy h1 h63 hbytes hbase
  unfold Oper.wp execOp
  simp only [ho, resolve, invoke, builtin, Sem.run_bind, Sem.run_pure, Result.andThen_ok, List.map_toArray, List.map_cons, List.map_nil, hs, hx, hr]
  exact hK _ _ (h v' w' h2 h3 h4)
end

/-- The writer's blocks: from N on they are the writing's own. g: the graph; wr: the writer; wk, m: its walker and what that has met; nm: the names; pc: the pieces; bx: the box with the writer's address. -/
structure WEnv where
  N : Nat
  g : Nat
  wr : Nat
  wk : Nat
  m : Nat
  nm : Nat
  pc : Nat

def wcells (X : WEnv) (A bv : Value) : Array Value := #[.pointer (some ⟨X.g, 0, none⟩), .pointer (some ⟨X.wk, 0, none⟩), .map (some X.nm), .map (some X.pc), A, bv]

/-- The writer with what it has written. -/
structure BW (X : WEnv) (out : List UInt8) (bv : Value) (w : World) : Prop where
  N : X.N ≤ w.heap.size
  blk : ∃ A, (A = .pointer none ∨ A = .pointer (some ⟨X.wr, 4, none⟩)) ∧ Blk w X.wr (wcells X A bv) 100
  row : w.ownsRowF X.N 5 1 bv out.length (Lib.byteCells out)

abbrev bpt (X : WEnv) : Value := .pointer (some ⟨X.wr, 4, none⟩)
abbrev wpt (X : WEnv) : Value := .pointer (some ⟨X.wr, 0, none⟩)

theorem ownsRowF_mem {w : World} {base e sz n : Nat} {v : Value} {xs : List Value} (h : w.ownsRowF base e sz v n xs) {x : Nat} (hx : x ∈ own v) : base ≤ x ∧ ∃ cs fz, w.heap[x]? = some (.cells cs e fz) := by
  rcases h.2 with ⟨rfl, _⟩ | ⟨g, cap, cur, fz, rfl, hb, hg, _⟩
  · cases hx
  · simp [own] at hx
    subst hx
    exact ⟨hb, cur, fz, hg⟩

theorem ownsRowF_but {w w' : World} {base e sz n : Nat} {v : Value} {xs : List Value} {S : List Nat} (h : w.ownsRowF base e sz v n xs) (hb : But S w w') (hS : ∀ x ∈ own v, x ∉ S) : w'.ownsRowF base e sz v n xs := by
  refine ⟨h.1, ?_⟩
  rcases h.2 with h2 | ⟨g, cap, cur, fz, rfl, hB, hg, r⟩
  · exact .inl h2
  · exact .inr ⟨g, cap, cur, fz, rfl, hB, by rw [hb.block g (Array.getElem?_eq_some_iff.1 hg).1 (hS g (by simp [own]))]; exact hg, r⟩

theorem ownsRowF_lt {w : World} {base e sz n : Nat} {v : Value} {xs : List Value} (h : w.ownsRowF base e sz v n xs) {x : Nat} (hx : x ∈ own v) : x < w.heap.size := by
  obtain ⟨_, cs, fz, hg⟩ := ownsRowF_mem h hx
  exact (Array.getElem?_eq_some_iff.1 hg).1

theorem BW.frame {X : WEnv} {out : List UInt8} {bv : Value} {w w' : World} {S : List Nat} (h : BW X out bv w) (hb : But S w w') (h1 : X.wr ∉ S) (h2 : ∀ x ∈ own bv, x ∉ S) : BW X out bv w' := by
  obtain ⟨A, hA, hB⟩ := h.blk
  exact ⟨Nat.le_trans h.N hb.size, ⟨A, hA, hb.blk hB h1⟩, ownsRowF_but h.row hb h2⟩

/-- The writer's block is no row of bytes. -/
theorem BW.apart {X : WEnv} {out : List UInt8} {bv : Value} {w : World} (h : BW X out bv w) : X.wr ∉ own bv := fun hx => by
  obtain ⟨_, cs, fz, hg⟩ := ownsRowF_mem h.row hx
  obtain ⟨A, _, hB⟩ := h.blk
  unfold Blk at hB
  rw [hg] at hB
  simp only [Option.some.injEq, Obj.cells.injEq] at hB
  exact absurd hB.2.1 (by decide)

theorem BW.lt {X : WEnv} {out : List UInt8} {bv : Value} {w : World} (h : BW X out bv w) : X.wr < w.heap.size := by
  obtain ⟨A, _, hB⟩ := h.blk
  exact hB.lt

/-- What is left behind a writing. -/
def WPost (X : WEnv) (out : List UInt8) (bv : Value) (w w' : World) : Prop := ∃ bv', BW X out bv' w' ∧ But (X.wr :: own bv) w w' ∧ ∀ x ∈ own bv', x ∈ own bv ∨ w.heap.size ≤ x

theorem WPost.trans {X : WEnv} {o2 : List UInt8} {bv bv1 : Value} {w w1 w2 : World} (hb : But (X.wr :: own bv) w w1) (ho : ∀ x ∈ own bv1, x ∈ own bv ∨ w.heap.size ≤ x) (h : WPost X o2 bv1 w1 w2) : WPost X o2 bv w w2 := by
  obtain ⟨bv2, hB, hb2, ho2⟩ := h
  refine ⟨bv2, hB, hb.trans hb2 (fun x hx => ?_), fun x hx => ?_⟩
  · rcases List.mem_cons.1 hx with rfl | hx
    · exact .inl (List.mem_cons_self ..)
    · rcases ho x hx with h1 | h1
      · exact .inl (List.mem_cons_of_mem _ h1)
      · exact .inr h1
  · rcases ho2 x hx with h1 | h1
    · exact ho x h1
    · exact .inr (Nat.le_trans hb.size h1)

theorem WPost.refl {X : WEnv} {out : List UInt8} {bv : Value} {w w' : World} (h : BW X out bv w) (hb : But [] w w') : WPost X out bv w w' :=
  ⟨bv, h.frame hb (by simp) (by simp), hb.mono (by simp), fun _ hx => .inl hx⟩

theorem builderSize : (Tryz.prog.info? 98).map (·.size) = some 2 := by kernel_rfl
theorem builderLies : liesAt Tryz.prog Tryz.prog.depth 100 (6 / Tryz.prog.cellsOf 100) 4 98 1 = true := by kernel_rfl
theorem infoByte : (Tryz.prog.info? 5).map (fun i => (i.zero, i.size, i.bytes)) = some (some (.int .u8 0), 1, 1) := by kernel_rfl

theorem u_ptrB : Tryz.prog.underlying 95 = some (.pointer 98) := by kernel_rfl
theorem u_rawPtr : Tryz.prog.underlying 173 = some .unsafePointer := by kernel_rfl

set_option maxHeartbeats 1000000 in
set_option maxRecDepth 100000 in
theorem copyCheck_any (X : WEnv) (out : List UInt8) (bv : Value) (w : World) (h : BW X out bv w) :
    Calls Tryz.prog 101 #[bpt X] w fun e w' => e = .returned (.tuple #[]) ∧ Blk w' X.wr (wcells X (bpt X) bv) 100 ∧ But [X.wr] w w' := by
  obtain ⟨A, hA, hB⟩ := h.blk
  rcases hA with rfl | rfl
  · obtain ⟨j, hj, hjs⟩ := Option.map_eq_some_iff.1 builderSize
    have hsh : w.shape? X.wr = some (100, 6) := by unfold Blk at hB; simp [World.shape?, hB, wcells]
    have c4 : w.cell? ⟨X.wr, 4, none⟩ = some (.pointer none) := hB.cell rfl
    have f4 : w.frozen? ⟨X.wr, 4, none⟩ = false := hB.free 4
    go_enter Tryz.func101, Tryz.ntmps101
    go_wp2
    rw [Lib.run_to_unsafe w ⟨X.wr, 4, none⟩ u_ptrB u_rawPtr hj (by rw [hjs]; decide) hsh (by show 4 < 6; omega)]
    simp only [Result.andThen]
    rw [Oper.upon_value]
    go_wp2
    rw [run_callFunc_extern Tryz.func127 (by kernel_rfl) (by kernel_rfl) (by kernel_rfl) (e := Extern.AbiNoEscape.same) (by kernel_rfl)]
    rw [Lib.run_noEscape]
    simp only [Result.andThen]
    rw [Oper.upon_value]
    go_wp2
    rw [Lib.run_from_unsafe w ⟨X.wr, 4, none⟩ u_rawPtr u_ptrB hj hsh builderLies]
    simp only [Result.andThen]
    rw [Oper.upon_value]
    go_wp2
    go_end0
    exact ⟨rfl, by simpa [wcells] using hB.set 4 (bpt X), (But.refl _ _).setCell (by simp) _⟩
  · have c4 : w.cell? ⟨X.wr, 4, none⟩ = some (.pointer (some ⟨X.wr, 4, none⟩)) := hB.cell rfl
    have hnq : ∀ W : World, (binOp .neq 95 (.pointer (some ⟨X.wr, 4, none⟩)) (.pointer (some ⟨X.wr, 4, none⟩))).run Tryz.prog W = .ok (.bool false) W := fun W => by
      obtain ⟨j, hj, _⟩ := Option.map_eq_some_iff.1 builderSize
      exact Lib.run_neq_ptr_same W _ u_ptrB hj
    go_enter Tryz.func101, Tryz.ntmps101
    go_wp2
    go_end0
    exact ⟨rfl, hB, But.refl _ _⟩

set_option maxHeartbeats 400000 in
theorem bLen_any (X : WEnv) (out : List UInt8) (bv : Value) (w : World) (h : BW X out bv w) :
    Calls Tryz.prog 51 #[bpt X] w fun e w' => e = .returned (.int .i64 (out.length : Int)) ∧ w' = w := by
  obtain ⟨A, hA, hB⟩ := h.blk
  obtain ⟨a, cap, rfl⟩ : ∃ a cap, bv = .slice a out.length cap := by
    rcases h.row.2 with ⟨e, h0⟩ | ⟨g, cap, cur, fz, e, _⟩
    · exact ⟨_, _, by rw [e, h0]⟩
    · exact ⟨_, _, e⟩
  have c5 : w.cell? ⟨X.wr, 5, none⟩ = some (.slice a out.length cap) := hB.cell rfl
  go_enter Tryz.func51, Tryz.ntmps51
  go_wp2_with fail
  go_ret
  exact ⟨rfl, rfl⟩

set_option maxHeartbeats 400000 in
theorem bReset_any (X : WEnv) (out : List UInt8) (bv : Value) (w : World) (h : BW X out bv w) :
    Calls Tryz.prog 60 #[bpt X] w fun e w' => e = .returned (.tuple #[]) ∧ BW X [] (.slice none 0 0) w' ∧ But [X.wr] w w' := by
  obtain ⟨A, hA, hB⟩ := h.blk
  obtain ⟨a, cap, rfl⟩ : ∃ a cap, bv = .slice a out.length cap := by
    rcases h.row.2 with ⟨e, h0⟩ | ⟨g, cap, cur, fz, e, _⟩
    · exact ⟨_, _, by rw [e, h0]⟩
    · exact ⟨_, _, e⟩
  have c4 : w.cell? ⟨X.wr, 4, none⟩ = some A := hB.cell rfl
  have f4 : w.frozen? ⟨X.wr, 4, none⟩ = false := hB.free 4
  have c5 : w.cell? ⟨X.wr, 5, none⟩ = some (.slice a out.length cap) := hB.cell rfl
  have f5 : w.frozen? ⟨X.wr, 5, none⟩ = false := hB.free 5
  have hbb : But [X.wr] w ((w.setCell ⟨X.wr, 4, none⟩ (.pointer none)).setCell ⟨X.wr, 5, none⟩ (.slice none 0 0)) := ((But.refl _ _).setCell (by simp) _).setCell (by simp) _
  have hBB := (hB.set 4 (.pointer none)).set 5 (.slice none 0 0)
  go_enter Tryz.func60, Tryz.ntmps60
  go_wp2_with fail
  go_end0
  exact ⟨rfl, ⟨Nat.le_trans h.N hbb.size, ⟨.pointer none, .inl rfl, by simpa [wcells] using hBB⟩, World.ownsRowF_nil _ _ _ _⟩, hbb⟩

end Go.Proofs.YtkflkmmbakccoaaGreatDoor

/- THE BUILDER IN THE WRITER's FIELD: WriteByte, WriteString, String. -/
namespace Go.Proofs.YtkflkmmbakccoaaGreatDoor
open Go.RowKit Go.Maps

theorem own_of_ownBlock {v : Value} {x : Nat} (h : v.ownBlock = some x) : x ∈ own v := mem_own.2 h

theorem loc_own {v v' : Value} {n : Nat} (h : v'.ownBlock = v.ownBlock ∨ ∃ k, v'.ownBlock = some k ∧ n ≤ k) : ∀ x ∈ own v', x ∈ own v ∨ n ≤ x := fun x hx => by
  have e := mem_own.1 hx
  rcases h with h | ⟨k, h, hk⟩
  · exact .inl (mem_own.2 (h ▸ e))
  · rw [h] at e
    exact .inr (by have := Option.some.inj e; omega)

/-- The new row is laid into the field. -/
theorem BW.put {X : WEnv} {o' : List UInt8} {bv v' : Value} {w2 : World} (hN : X.N ≤ w2.heap.size) (hB : Blk w2 X.wr (wcells X (bpt X) bv) 100) (hown : w2.ownsRowF X.N 5 1 v' o'.length (Lib.byteCells o')) :
    BW X o' v' (w2.setCell ⟨X.wr, 5, none⟩ v') := by
  have hne : ∀ x ∈ own v', x ∉ [X.wr] := fun x hx hy => by
    obtain ⟨_, cs, fz, hg⟩ := ownsRowF_mem hown hx
    have := List.mem_singleton.1 hy
    subst this
    unfold Blk at hB
    rw [hg] at hB
    simp only [Option.some.injEq, Obj.cells.injEq] at hB
    exact absurd hB.2.1 (by decide)
  have hbb : But [X.wr] w2 (w2.setCell ⟨X.wr, 5, none⟩ v') := (But.refl _ _).setCell (by simp) _
  exact ⟨Nat.le_trans hN hbb.size, ⟨bpt X, .inr rfl, by simpa [wcells] using hB.set 5 v'⟩, ownsRowF_but hown hbb hne⟩

theorem strCells_list (s : ByteArray) : Lib.strCells s = Lib.byteCells s.data.toList := rfl

theorem u_bytes : Tryz.prog.underlying 96 = some (.slice 5) := by kernel_rfl
theorem u_string : Tryz.prog.underlying 9 = some .string := by kernel_rfl

set_option maxHeartbeats 1000000 in
set_option maxRecDepth 100000 in
theorem wByte_any (X : WEnv) (out : List UInt8) (bv : Value) (w : World) (h : BW X out bv w) (c : UInt8) (n : Int) (hn : n = (c.toNat : Int)) (hl : out.length ≤ 1000000000) :
    Calls Tryz.prog 70 #[bpt X, .int .u8 n] w fun e w' => e = .returned .nilIface ∧ WPost X (out ++ [c]) bv w w' := by
  obtain ⟨i0, hi, hz0, hz1, hz2⟩ := info_parts infoByte
  have hap := h.apart
  have HC : Hid _ := copyCheck_any X out bv w h
  have HN : Hid _ := hn
  clear hn
  go_enter Tryz.func70, Tryz.ntmps70
  go_wp2_with fail
  refine Calls.mono HC.out ?_
  rintro e w1 ⟨rfl, hB1, hb1⟩
  have hown1 : w1.ownsRowF X.N 5 1 bv out.length (Lib.byteCells out) := ownsRowF_but h.row hb1 (fun x hx hy => hap (by have := List.mem_singleton.1 hy; exact this ▸ hx))
  obtain ⟨a, cap, rfl⟩ : ∃ a cap, bv = .slice a out.length cap := by
    rcases h.row.2 with ⟨e, h0⟩ | ⟨g, cap, cur, fz, e, _⟩
    · exact ⟨_, _, by rw [e, h0]⟩
    · exact ⟨_, _, e⟩
  have hN1 : X.N ≤ w1.heap.size := Nat.le_trans h.N hb1.size
  have c5 : w1.cell? ⟨X.wr, 5, none⟩ = some (.slice a out.length cap) := hB1.cell rfl
  clear HC
  go_wp2_with (at_builtin; refine wpApp_one _ rfl _ _ 96 rfl X.N 5 i0 u_bytes hi hz0 hz1 hz2 _ _ _ rfl (hown1.alloc _) ⟨w1.heap.size, 0, none⟩ 1 (.int .u8 n) rfl ?c1 rfl ?c3 ?c4 ?c5 ?_)
  case c1 => simp
  case c3 => unfold maxLen; omega
  case c4 => omega
  case c5 => simp; omega
  intro v' w2 hown' hgrow hloc
  have hb2 : But (own (.slice a out.length cap)) w1 w2 := ((alloc_but w1 _).mono (by simp)).trans (grown_but hgrow) (fun x hx => .inl hx)
  have hB2 := hb2.blk hB1 hap
  have d5 : w2.cell? ⟨X.wr, 5, none⟩ = some (.slice a out.length cap) := hB2.cell rfl
  have f5 : w2.frozen? ⟨X.wr, 5, none⟩ = false := hB2.free 5
  obtain ⟨a', n', cap', rfl⟩ : ∃ a' n' cap', v' = .slice a' n' cap' := by
    rcases hown'.2 with ⟨hv, _⟩ | ⟨g, cap, cur, fz, hv, _⟩
    · exact ⟨_, _, _, hv⟩
    · exact ⟨_, _, _, hv⟩
  clear c5
  go_wp2_with fail
  go_ret
  have hloc' := loc_own hloc
  refine ⟨rfl, _, BW.put (Nat.le_trans hN1 hb2.size) hB2 ?_, ?_, fun x hx => ?_⟩
  · rw [HN.out] at hown'
    have e1 : (out ++ [c]).length = out.length + 1 := by simp
    have e2 : Lib.byteCells (out ++ [c]) = Lib.byteCells out ++ [.int .u8 (c.toNat : Int)] := by simp [Lib.byteCells]
    rw [e1, e2]
    exact hown'
  · exact ((hb1.mono (fun x hx => .inl (by rw [List.mem_singleton.1 hx]; exact List.mem_cons_self ..))).trans hb2 (fun x hx => .inl (List.mem_cons_of_mem _ hx))).setCell (by simp) _
  · rcases hloc' x hx with h1 | h1
    · exact .inl h1
    · exact .inr (by have := hb1.size; first | omega | (simp at h1; omega))

set_option maxHeartbeats 1000000 in
set_option maxRecDepth 100000 in
theorem wStr_any (X : WEnv) (out : List UInt8) (bv : Value) (w : World) (h : BW X out bv w) (s : ByteArray) (hl : out.length + s.size ≤ 1000000000) :
    Calls Tryz.prog 98 #[bpt X, .string s] w fun e w' => e = .returned (.tuple #[.int .i64 s.size, .nilIface]) ∧ WPost X (out ++ s.data.toList) bv w w' := by
  obtain ⟨i0, hi, hz0, hz1, hz2⟩ := info_parts infoByte
  have hap := h.apart
  have HC : Hid _ := copyCheck_any X out bv w h
  go_enter Tryz.func98, Tryz.ntmps98
  go_wp2_with fail
  refine Calls.mono HC.out ?_
  rintro e w1 ⟨rfl, hB1, hb1⟩
  have hown1 : w1.ownsRowF X.N 5 1 bv out.length (Lib.byteCells out) := ownsRowF_but h.row hb1 (fun x hx hy => hap (by have := List.mem_singleton.1 hy; exact this ▸ hx))
  obtain ⟨a, cap, rfl⟩ : ∃ a cap, bv = .slice a out.length cap := by
    rcases h.row.2 with ⟨e, h0⟩ | ⟨g, cap, cur, fz, e, _⟩
    · exact ⟨_, _, by rw [e, h0]⟩
    · exact ⟨_, _, e⟩
  have hN1 : X.N ≤ w1.heap.size := Nat.le_trans h.N hb1.size
  have c5 : w1.cell? ⟨X.wr, 5, none⟩ = some (.slice a out.length cap) := hB1.cell rfl
  clear HC
  go_wp2_with (at_builtin; refine wpApp_str _ rfl _ _ 96 9 rfl X.N 5 i0 u_bytes u_string hi hz0 hz1 hz2 _ _ _ rfl hown1 s rfl ?c3 ?c4 ?c5 ?_)
  case c3 => unfold maxLen; omega
  case c4 => omega
  case c5 => omega
  intro v' w2 hown' hgrow hloc
  have hb2 : But (own (.slice a out.length cap)) w1 w2 := grown_but hgrow
  have hB2 := hb2.blk hB1 hap
  have d5 : w2.cell? ⟨X.wr, 5, none⟩ = some (.slice a out.length cap) := hB2.cell rfl
  have f5 : w2.frozen? ⟨X.wr, 5, none⟩ = false := hB2.free 5
  obtain ⟨a', n', cap', rfl⟩ : ∃ a' n' cap', v' = .slice a' n' cap' := by
    rcases hown'.2 with ⟨hv, _⟩ | ⟨g, cap, cur, fz, hv, _⟩
    · exact ⟨_, _, _, hv⟩
    · exact ⟨_, _, _, hv⟩
  clear c5
  go_wp2_with fail
  go_ret2
  have hloc' := loc_own hloc
  refine ⟨rfl, _, BW.put (Nat.le_trans hN1 hb2.size) hB2 ?_, ?_, fun x hx => ?_⟩
  · have e1 : (out ++ s.data.toList).length = out.length + s.size := by simp
    rw [e1, Lib.byteCells_append]
    exact hown'
  · exact ((hb1.mono (fun x hx => .inl (by rw [List.mem_singleton.1 hx]; exact List.mem_cons_self ..))).trans hb2 (fun x hx => .inl (List.mem_cons_of_mem _ hx))).setCell (by simp) _
  · rcases hloc' x hx with h1 | h1
    · exact .inl h1
    · exact .inr (by have := hb1.size; omega)

theorem But.freeze {S : List Nat} {a w : World} (h : But S a w) {p : Addr} (hp : p.block ∈ S ∨ a.heap.size ≤ p.block) (n : Nat) : But S a (w.freeze p n) := by
  unfold World.freeze
  split
  · exact h
  · refine ⟨h.os, h.tape, h.output, by simpa using h.size, fun i hi hn => ?_⟩
    rw [← h.block i hi hn]
    simp only [Array.getElem?_modify]
    rw [if_neg]
    intro e
    rcases hp with h1 | h1
    · exact hn (e ▸ h1)
    · omega

theorem ownsRowF_freeze {w : World} {base e g cap n : Nat} {xs : List Value} (h : w.ownsRowF base e 1 (.slice (some ⟨g, 0, none⟩) n cap) n xs) : (w.freeze ⟨g, 0, none⟩ n).ownsRowF base e 1 (.slice (some ⟨g, 0, none⟩) n cap) n xs := by
  unfold World.freeze
  split
  · exact h
  · refine ⟨h.1, ?_⟩
    rcases h.2 with ⟨hv, _⟩ | ⟨g', cap', cur, fz, hv, hbg, hg, hfz, rest⟩
    · cases hv
    · injection hv with ha _ hcap
      injection ha with ha
      injection ha with hgg _ _
      subst hgg
      subst hcap
      obtain ⟨lo, hi⟩ := fz
      refine .inr ⟨g, _, cur, (if lo == hi then (0, 0 + n) else (min lo 0, max hi (0 + n))), rfl, hbg, ?_, ?_, rest⟩
      · simp [Array.getElem?_modify, hg]
      · simp only at hfz
        split <;> simp <;> omega

set_option maxHeartbeats 2000000 in
set_option maxRecDepth 100000 in
theorem bString_any (X : WEnv) (out : List UInt8) (bv : Value) (w : World) (h : BW X out bv w) (h0 : out ≠ []) :
    Calls Tryz.prog 48 #[bpt X] w fun e w' => e = .returned (.string ⟨out.toArray⟩) ∧ BW X out bv w' ∧ But (own bv) w w' := by
  have hap := h.apart
  obtain ⟨A, hA, hB⟩ := h.blk
  have hl0 : out.length ≠ 0 := by simpa using h0
  obtain ⟨g, cap, cur, fz, rfl, hbg, hg, hfz, hnc, hcm, hcs, htake⟩ : ∃ g cap cur fz, bv = .slice (some ⟨g, 0, none⟩) out.length cap ∧ X.N ≤ g ∧ w.heap[g]? = some (.cells cur 5 fz) ∧ fz.2 ≤ out.length * 1 ∧ out.length ≤ cap ∧ cap ≤ maxLen ∧ cur.size = cap * 1 ∧ cur.toList.take (out.length * 1) = Lib.byteCells out := by
    rcases h.row.2 with ⟨_, hz⟩ | ⟨g, cap, cur, fz, hv, r⟩
    · exact absurd hz hl0
    · exact ⟨g, cap, cur, fz, hv, r⟩
  have c5 : w.drew.cell? ⟨X.wr, 5, none⟩ = some (.slice (some ⟨g, 0, none⟩) out.length cap) := hB.drew.cell rfl
  have c5' : w.cell? ⟨X.wr, 5, none⟩ = some (.slice (some ⟨g, 0, none⟩) out.length cap) := hB.cell rfl
  have hSD : (Builtin.unsafeSliceData_ #[96] 137 #[.slice (some ⟨g, 0, none⟩) out.length cap]).run Tryz.prog w.drew = .ok (.pointer (some ⟨g, 0, none⟩)) w.drew := Lib.run_unsafeSliceData_row _ _ _ _ _ _ (by omega)
  have hco : Tryz.prog.cellsOf 5 = 1 := by kernel_rfl
  have hUS : (Builtin.unsafeString_ #[137, 3] 9 #[.pointer (some ⟨g, 0, none⟩), .int .i64 out.length]).run Tryz.prog w.drew = .ok (.string ⟨out.toArray⟩) (w.drew.freeze ⟨g, 0, none⟩ out.length) := by
    refine Lib.run_unsafeString_row w.drew 137 3 9 5 (by kernel_rfl) hco g cur.size (by have hg' : w.drew.heap[g]? = some (.cells cur 5 fz) := hg; simp [World.shape?, hg']) out h0 (by omega) (by unfold maxLen at hcm; omega) ?_
    intro j x hx
    have := h.row.cells (g := g) rfl j (.int .u8 x.toNat) (by simp [Lib.byteCells, hx])
    exact this
  have hbb : But (own (.slice (some ⟨g, 0, none⟩) out.length cap)) w (w.drew.freeze ⟨g, 0, none⟩ out.length) := ((But.refl _ w).drew).freeze (.inl (by simp [own])) _
  have hBW : BW X out (.slice (some ⟨g, 0, none⟩) out.length cap) (w.drew.freeze ⟨g, 0, none⟩ out.length) := by
    refine ⟨Nat.le_trans h.N hbb.size, ⟨A, hA, hbb.blk hB hap⟩, ?_⟩
    exact ownsRowF_freeze (w := w.drew) h.row
  have HBW : Hid _ := hBW
  have HBB : Hid _ := hbb
  clear hBW hbb hg htake hcs hcm hfz hB
  go_enter Tryz.func48, Tryz.ntmps48
  go_wp2_with fail
  go_region
  all_goals
    try go_wp2_with fail
    go_ret
    exact ⟨rfl, HBW.out, HBB.out⟩

end Go.Proofs.YtkflkmmbakccoaaGreatDoor

/- WALKS: scan.IsWord; package write: text, open, shut, lead. The graph in memory, as the writer reads it. -/
namespace Go.Proofs.YtkflkmmbakccoaaGreatDoor
open Go.RowKit Go.Maps

theorem isWord_take (x : ByteArray) (k : Nat) (h : k < x.size) : (x.data.toList.take (k + 1)).all (fun b => isWB (b.toNat : Int)) = ((x.data.toList.take k).all (fun b => isWB (b.toNat : Int)) && isWB ((x[k]'h).toNat : Int)) := by
  have e : x.data.toList.take (k + 1) = x.data.toList.take k ++ [x[k]] := by
    rw [List.take_succ_eq_append_getElem (by simpa using h)]; rfl
  rw [e, List.all_append]
  simp

set_option maxHeartbeats 400000 in
theorem isWord_any (x : ByteArray) (w : World) (hs : x.size ≤ 9223372036854775807) :
    Calls Tryz.prog 125 #[.string x] w fun e w' => e = .returned (.bool (isWordB x)) ∧ w' = w := by
  go_enter Tryz.func125, Tryz.ntmps125
  go_wp2_with fail
  go_loop [6] (fun i => ∃ k : Nat, k ≤ x.size ∧ i = .int .i64 k ∧ (x.data.toList.take k).all (fun b => isWB (b.toNat : Int)) = true) (fun i => x.size - (intOf i).toNat)
  case atStart => exact ⟨0, Nat.zero_le _, rfl, rfl⟩
  case round =>
    obtain ⟨k, hk, rfl, hall⟩ := hrel
    have HA : Hid _ := hall
    clear hall
    by_cases hlt : k < x.size
    · have hx0 : (0 : Int) ≤ (x[k].toNat : Int) := by omega
      have hx1 : (x[k].toNat : Int) ≤ 255 := by have := x[k].toNat_lt; omega
      have HT : Hid _ := isWord_take x k hlt
      by_cases hw : isWB (x[k].toNat : Int) = true
      · go_wp2_with (go_at_call 121; refine (isWordByte_any _ _ hx0 hx1).mono ?_; rintro e w' ⟨rfl, rfl⟩)
        go_round
        case rel => exact ⟨k + 1, by omega, by go_num, by rw [HT.out, HA.out, hw]; rfl⟩
        case measure => simp [intOf]; omega
      · have hw' : isWB (x[k].toNat : Int) = false := by simpa using hw
        have HF : Hid (isWordB x = false) := by
          unfold Hid isWordB
          have : x.data.toList.all (fun b => isWB (b.toNat : Int)) = false := by
            rw [List.all_eq_false]
            exact ⟨x[k], by rw [Array.mem_toList_iff]; exact Array.getElem_mem _, by simp [hw']⟩
          rw [this]; simp
        clear hw
        go_wp2_with (go_at_call 121; refine (isWordByte_any _ _ hx0 hx1).mono ?_; rintro e w' ⟨rfl, rfl⟩)
        go_ret
        exact ⟨ret_bool HF.out.symm, rfl⟩
    · have hall : x.data.toList.all (fun b => isWB (b.toNat : Int)) = true := by
        have := HA.out
        rwa [List.take_of_length_le (by simp; omega)] at this
      have HF : Hid (isWordB x = (decide (1 ≤ x.size) && decide (x.size ≤ 12))) := by
        unfold Hid isWordB; rw [hall]; simp
      clear hall HA
      by_cases h0 : 0 < x.size
      all_goals
        go_wp2_with fail
        go_ret
        refine ⟨ret_bool ?_, rfl⟩
        rw [HF.out, Bool.eq_iff_iff]
        simp
        omega

/-- How a writer's step ends. -/
abbrev WSaid (X : WEnv) (out : List UInt8) (bv : Value) (w : World) (e : Ending) (w' : World) : Prop := e = .returned (.tuple #[]) ∧ WPost X out bv w w'

set_option maxHeartbeats 400000 in
theorem wText_any (X : WEnv) (out : List UInt8) (bv : Value) (w : World) (h : BW X out bv w) (x : ByteArray) (hx : x.size ≤ 1000) (hl : out.length + x.size + 2 ≤ 1000000000) :
    Calls Tryz.prog 99 #[wpt X, .string x] w fun e w' => WSaid X (out ++ textL x) bv w e w' := by
  by_cases hw : isWordB x = true
  · have HT : Hid (textL x = x.data.toList) := by unfold Hid textL; rw [if_pos hw]
    have HW : Hid _ := wStr_any X out bv w h x (by omega)
    go_enter Tryz.func99, Tryz.ntmps99
    go_wp2_with (go_at_call 125; refine (isWord_any x _ (by omega)).mono ?_; rintro e w' ⟨rfl, hww⟩; have hww2 := hww.symm; clear hww; subst hww2)
    refine Calls.mono HW.out ?_
    rintro e w1 ⟨rfl, hp⟩
    go_wp2_with fail
    go_end0
    exact ⟨rfl, by rw [HT.out]; exact hp⟩
  · have hw' : isWordB x = false := by simpa using hw
    have HT : Hid (textL x = 34 :: (x.data.toList ++ [34])) := by unfold Hid textL; rw [if_neg hw]
    have HW : Hid _ := wByte_any X out bv w h 34 34 rfl (by omega)
    clear hw
    go_enter Tryz.func99, Tryz.ntmps99
    go_wp2_with (go_at_call 125; refine (isWord_any x _ (by omega)).mono ?_; rintro e w' ⟨rfl, hww⟩; have hww2 := hww.symm; clear hww; subst hww2)
    refine Calls.mono HW.out ?_
    rintro e w1 ⟨rfl, bv1, hB1, hb1, ho1⟩
    go_wp2_with fail
    refine (wStr_any X _ bv1 w1 hB1 x (by simp; omega)).mono ?_
    rintro e w2 ⟨rfl, hp2⟩
    obtain ⟨bv2, hB2, hb2, ho2⟩ := WPost.trans hb1 ho1 hp2
    go_wp2_with fail
    refine (wByte_any X _ bv2 w2 hB2 34 34 rfl (by simp; omega)).mono ?_
    rintro e w3 ⟨rfl, hp3⟩
    go_wp2_with fail
    go_end0
    refine ⟨rfl, ?_⟩
    rw [HT.out]
    have := WPost.trans hb2 ho2 hp3
    simpa [List.append_assoc] using this

/-- The graph, as the writer finds it: all of it lies below N. -/
structure GI (X : WEnv) (an : Nat) (nv : Value) (rows : List Row) (base : Nat) (w : World) : Prop where
  gr : Blk w X.g #[nv, .int .i64 (an : Int)] 82
  nodes : w.ownsRow base 79 6 nv rows.length (rows.flatMap Row.cells)
  each : ∀ r ∈ rows, RowOk w base r
  lt : ∀ x ∈ X.g :: (own nv ++ pub rows), x < X.N
  N : X.N ≤ w.heap.size

theorem GI.below {X : WEnv} {an : Nat} {nv : Value} {rows : List Row} {base : Nat} {w w' : World} (h : GI X an nv rows base w) (hb : Below X.N w w') : GI X an nv rows base w' := by
  have hB : ∀ x, x < X.N → w'.heap[x]? = w.heap[x]? := fun x hx => hb.block x hx
  have hrow : ∀ {e sz n : Nat} {v : Value} {xs : List Value}, w.ownsRow base e sz v n xs → (∀ x ∈ own v, x < X.N) → w'.ownsRow base e sz v n xs := fun {e sz n v xs} h1 h2 => by
    refine ⟨h1.1, ?_⟩
    rcases h1.2 with h3 | ⟨g, cap, cur, rfl, hB', hg, r⟩
    · exact .inl h3
    · exact .inr ⟨g, cap, cur, rfl, hB', by rw [hB g (h2 g (by simp [own]))]; exact hg, r⟩
  refine ⟨?_, hrow h.nodes (fun x hx => h.lt x (by simp [hx])), fun r hr => ?_, h.lt, Nat.le_trans h.N hb.size⟩
  · have := h.gr
    unfold Blk at *
    rw [hB X.g (h.lt _ (List.mem_cons_self ..))]
    exact this
  · have hp : ∀ x ∈ r.pub, x < X.N := fun x hx => h.lt x (by
      simp only [List.mem_cons, List.mem_append, pub, List.mem_flatMap]
      exact .inr (.inr ⟨r, hr, hx⟩))
    exact ⟨hrow (h.each r hr).1 (fun x hx => hp x (by simp [Row.pub, hx])), hrow (h.each r hr).2 (fun x hx => hp x (by simp [Row.pub, hx]))⟩

theorem GI.node {X : WEnv} {an : Nat} {nv : Value} {rows : List Row} {base : Nat} {w : World} (h : GI X an nv rows base w) (i : Nat) (hi : i < rows.length) :
    ∃ nb cap, nv = .slice (some ⟨nb, 0, none⟩) rows.length cap ∧ rows.length ≤ cap ∧ ∀ j, j < 6 → w.cell? ⟨nb, i * 6 + j, none⟩ = (rows[i]).cells[j]? := by
  rcases h.nodes.2 with ⟨_, h0⟩ | ⟨g, cap, cur, e, hb, hg, hc, hm, hs, ht⟩
  · omega
  · refine ⟨g, cap, e, hc, fun j hj => ?_⟩
    have h1 := flat_at rows i j hi hj
    rw [← ht, List.getElem?_take, if_pos (by omega)] at h1
    rw [← h1]
    simp only [World.cell?, hg]
    simp

theorem PInv.toGI {E : Env} {t : PS} {nv : Value} {rows : List Row} {w : World} (h : PInv E t nv rows w) (X : WEnv) (hg : X.g = E.g) (hN : X.N = w.heap.size) : GI X t.anchors nv rows E.base w := by
  refine ⟨by rw [hg]; exact h.gr, h.nodes, h.rows, fun x hx => ?_, by omega⟩
  rw [hN]
  rw [hg] at hx
  refine h.foot_lt ?_
  simp only [foot, List.mem_cons, List.mem_append] at hx ⊢
  rcases hx with hx | hx | hx
  · exact .inr (.inl hx)
  · exact .inr (.inr (.inr (.inl hx)))
  · exact .inr (.inr (.inr (.inr hx)))

theorem BW.cell {X : WEnv} {out : List UInt8} {bv : Value} {w : World} (h : BW X out bv w) : w.cell? ⟨X.wr, 0, none⟩ = some (.pointer (some ⟨X.g, 0, none⟩)) ∧ w.cell? ⟨X.wr, 1, none⟩ = some (.pointer (some ⟨X.wk, 0, none⟩)) ∧ w.cell? ⟨X.wr, 2, none⟩ = some (.map (some X.nm)) ∧ w.cell? ⟨X.wr, 3, none⟩ = some (.map (some X.pc)) := by
  obtain ⟨A, _, hB⟩ := h.blk
  exact ⟨hB.cell rfl, hB.cell rfl, hB.cell rfl, hB.cell rfl⟩

theorem nodeAt_rows (rows : List Row) (i : Nat) (hi : i < rows.length) : nodeAt (rows.map Row.n) i = (rows[i]).n := by simp [nodeAt, List.getD, hi]

set_option maxHeartbeats 1000000 in
theorem wOpen_any (X : WEnv) (out : List UInt8) (bv : Value) (w : World) (h : BW X out bv w) (an : Nat) (nv : Value) (rows : List Row) (base : Nat) (hG : GI X an nv rows base w) (id : Nat) (hid : id < rows.length) (hk : (rows[id]).n.kind ≤ 2) (hx : (rows[id]).n.text.size ≤ 20) (hl : out.length + 100 ≤ 1000000000) :
    Calls Tryz.prog 71 #[wpt X, .int .i64 (id : Int)] w fun e w' => WSaid X (out ++ openL (rows.map Row.n) id) bv w e w' := by
  obtain ⟨nb, cap, rfl, hcap, hcn⟩ := hG.node id hid
  have c0 := h.cell.1
  have g0 : w.cell? ⟨X.g, 0, none⟩ = some (.slice (some ⟨nb, 0, none⟩) rows.length cap) := hG.gr.cell rfl
  have d0 := hcn 0 (by omega)
  have d1 := hcn 1 (by omega)
  simp only [Row.cells, List.getElem?_cons_succ, List.getElem?_cons_zero, Nat.add_zero] at d0 d1
  have HO : Hid (openL (rows.map Row.n) id = if (rows[id]).n.kind = 0 then textL (rows[id]).n.text else if (rows[id]).n.kind = 1 then [91] else if (rows[id]).n.kind = 2 then [123] else []) := by unfold Hid openL; rw [nodeAt_rows rows id hid]
  generalize rows[id] = r at *
  have hkk : r.n.kind = 0 ∨ r.n.kind = 1 ∨ r.n.kind = 2 := by omega
  clear hcn hk
  rcases hkk with hk | hk | hk
  · have HT : Hid _ := wText_any X out bv w h r.n.text (by omega) (by omega)
    have HO' : Hid (openL (rows.map Row.n) id = textL r.n.text) := by unfold Hid; rw [HO.out, if_pos hk]
    rw [hk] at d0
    clear HO hk
    go_enter Tryz.func71, Tryz.ntmps71
    go_wp2_with fail
    refine Calls.mono HT.out ?_
    rintro e w1 ⟨rfl, hp⟩
    go_wp2_with fail
    go_end0
    exact ⟨rfl, by rw [HO'.out]; exact hp⟩
  · have HT : Hid _ := wByte_any X out bv w h 91 91 rfl (by omega)
    have HO' : Hid (openL (rows.map Row.n) id = [91]) := by unfold Hid; rw [HO.out, if_neg (by omega), if_pos hk]
    rw [hk] at d0
    clear HO hk
    go_enter Tryz.func71, Tryz.ntmps71
    go_wp2_with fail
    refine Calls.mono HT.out ?_
    rintro e w1 ⟨rfl, hp⟩
    go_wp2_with fail
    go_end0
    exact ⟨rfl, by rw [HO'.out]; exact hp⟩
  · have HT : Hid _ := wByte_any X out bv w h 123 123 rfl (by omega)
    have HO' : Hid (openL (rows.map Row.n) id = [123]) := by unfold Hid; rw [HO.out, if_neg (by omega), if_neg (by omega), if_pos hk]
    rw [hk] at d0
    clear HO hk
    go_enter Tryz.func71, Tryz.ntmps71
    go_wp2_with fail
    refine Calls.mono HT.out ?_
    rintro e w1 ⟨rfl, hp⟩
    go_wp2_with fail
    go_end0
    exact ⟨rfl, by rw [HO'.out]; exact hp⟩

set_option maxHeartbeats 1000000 in
theorem wShut_any (X : WEnv) (out : List UInt8) (bv : Value) (w : World) (h : BW X out bv w) (an : Nat) (nv : Value) (rows : List Row) (base : Nat) (hG : GI X an nv rows base w) (id : Nat) (hid : id < rows.length) (hk : (rows[id]).n.kind ≤ 2) (hl : out.length + 100 ≤ 1000000000) :
    Calls Tryz.prog 73 #[wpt X, .int .i64 (id : Int)] w fun e w' => WSaid X (out ++ shutL (rows.map Row.n) id) bv w e w' := by
  obtain ⟨nb, cap, rfl, hcap, hcn⟩ := hG.node id hid
  have c0 := h.cell.1
  have g0 : w.cell? ⟨X.g, 0, none⟩ = some (.slice (some ⟨nb, 0, none⟩) rows.length cap) := hG.gr.cell rfl
  have d0 := hcn 0 (by omega)
  simp only [Row.cells, List.getElem?_cons_zero, Nat.add_zero] at d0
  have HO : Hid (shutL (rows.map Row.n) id = if (rows[id]).n.kind = 1 then [93] else if (rows[id]).n.kind = 2 then [125] else []) := by unfold Hid shutL; rw [nodeAt_rows rows id hid]
  generalize rows[id] = r at *
  have hkk : r.n.kind = 0 ∨ r.n.kind = 1 ∨ r.n.kind = 2 := by omega
  clear hcn hk
  rcases hkk with hk | hk | hk
  · have HO' : Hid (shutL (rows.map Row.n) id = []) := by unfold Hid; rw [HO.out, if_neg (by omega), if_neg (by omega)]
    rw [hk] at d0
    clear HO hk
    go_enter Tryz.func73, Tryz.ntmps73
    go_wp2_with fail
    go_end0
    exact ⟨rfl, by rw [HO'.out, List.append_nil]; exact WPost.refl h (But.refl _ _)⟩
  · have HT : Hid _ := wByte_any X out bv w h 93 93 rfl (by omega)
    have HO' : Hid (shutL (rows.map Row.n) id = [93]) := by unfold Hid; rw [HO.out, if_pos hk]
    rw [hk] at d0
    clear HO hk
    go_enter Tryz.func73, Tryz.ntmps73
    go_wp2_with fail
    refine Calls.mono HT.out ?_
    rintro e w1 ⟨rfl, hp⟩
    go_wp2_with fail
    go_end0
    exact ⟨rfl, by rw [HO'.out]; exact hp⟩
  · have HT : Hid _ := wByte_any X out bv w h 125 125 rfl (by omega)
    have HO' : Hid (shutL (rows.map Row.n) id = [125]) := by unfold Hid; rw [HO.out, if_neg (by omega), if_pos hk]
    rw [hk] at d0
    clear HO hk
    go_enter Tryz.func73, Tryz.ntmps73
    go_wp2_with fail
    refine Calls.mono HT.out ?_
    rintro e w1 ⟨rfl, hp⟩
    go_wp2_with fail
    go_end0
    exact ⟨rfl, by rw [HO'.out]; exact hp⟩

end Go.Proofs.YtkflkmmbakccoaaGreatDoor

/- WALKS: package write: lead. -/
namespace Go.Proofs.YtkflkmmbakccoaaGreatDoor
open Go.RowKit Go.Maps

/-- Where a node stands, as a value. -/
def plV : PlaceV → Value
  | none => .agg #[.int .i64 (-1), .int .i64 0]
  | some (p, i) => .agg #[.int .i64 (p : Int), .int .i64 (i : Int)]

/-- A place that there is. -/
def PlOk (nodes : List NodeV) (pl : PlaceV) : Prop := ∀ p i, pl = some (p, i) → p < nodes.length ∧ i < (nodeAt nodes p).parts.length

theorem row1_cell {w : World} {base e n : Nat} {v : Value} {xs : List Value} (h : w.ownsRow base e 1 v n xs) (hn : 0 < n) :
    ∃ b cap, v = .slice (some ⟨b, 0, none⟩) n cap ∧ n ≤ cap ∧ xs.length = n ∧ ∀ i u, xs[i]? = some u → w.cell? ⟨b, i, none⟩ = some u := by
  have hl : xs.length = n := by have := h.1; simpa using this
  rcases h.2 with ⟨_, h0⟩ | ⟨g, cap, cur, e, hb, hg, hc, hm, hs, ht⟩
  · omega
  · refine ⟨g, cap, e, hc, hl, fun i u hu => ?_⟩
    have hi : i < n := by
      have := (List.getElem?_eq_some_iff.1 hu).1
      omega
    rw [← ht, List.getElem?_take, if_pos (by omega)] at hu
    simp only [World.cell?, hg]
    simpa using hu

theorem leadL_some (rows : List Row) (p i : Nat) (hp : p < rows.length) : leadL (rows.map Row.n) (some (p, i)) = (if 0 < i then [44, 32] else []) ++ (if (rows[p]).n.kind = 2 then textL ((rows[p]).n.keys.getD i ByteArray.empty) ++ [58, 32] else []) := by
  rw [← nodeAt_rows rows p hp]; rfl

/-- Behind the comma: what the rest of 'lead' finds. -/
structure LeadMid (X : WEnv) (an : Nat) (nv : Value) (rows : List Row) (base : Nat) (w : World) (p i : Nat) (bv : Value) (o1 : List UInt8) (bv1 : Value) (w1 : World) : Prop where
  bw : BW X o1 bv1 w1
  pl : Blk w1 w.heap.size #[.int .i64 (p : Int), .int .i64 (i : Int)] 124
  gi : GI X an nv rows base w1
  but : But (X.wr :: own bv) w w1
  own : ∀ x ∈ Proofs.YtkflkmmbakccoaaGreatDoor.own bv1, x ∈ Proofs.YtkflkmmbakccoaaGreatDoor.own bv ∨ w.heap.size ≤ x
  plno : w.heap.size ∉ X.wr :: Proofs.YtkflkmmbakccoaaGreatDoor.own bv1

theorem leadMid_of {X : WEnv} {an : Nat} {nv : Value} {rows : List Row} {base : Nat} {w : World} {p i : Nat} {bv : Value} {out o1 : List UInt8} (h : BW X out bv w) (hG : GI X an nv rows base w) (hNwr : X.N ≤ X.wr) {w1 : World}
    (hp : WPost X o1 bv (w.alloc (.cells #[.int .i64 (p : Int), .int .i64 (i : Int)] 124)) w1) : ∃ bv1, LeadMid X an nv rows base w p i bv o1 bv1 w1 := by
  obtain ⟨bv1, hB1, hb1, ho1⟩ := hp
  have hbA : But [] w (w.alloc (.cells #[.int .i64 (p : Int), .int .i64 (i : Int)] 124)) := alloc_but _ _
  have hBA : Blk (w.alloc (.cells #[.int .i64 (p : Int), .int .i64 (i : Int)] 124)) w.heap.size #[.int .i64 (p : Int), .int .i64 (i : Int)] 124 := blk_new _ _ _
  have hbw : But (X.wr :: own bv) w w1 := (hbA.mono (S' := X.wr :: own bv) (by simp)).trans hb1 (fun x hx => .inl hx)
  have hno : w.heap.size ∉ X.wr :: own bv := fun hx => by
    rcases List.mem_cons.1 hx with e | hx
    · have := h.lt; omega
    · have := ownsRowF_lt h.row hx; omega
  refine ⟨bv1, hB1, hb1.blk hBA hno, hG.below (hbw.below h.N (fun x hx => ?_)), hbw, fun x hx => ?_, fun hx => ?_⟩
  · rcases List.mem_cons.1 hx with rfl | hx
    · exact hNwr
    · exact (ownsRowF_mem h.row hx).1
  · rcases ho1 x hx with h1 | h1
    · exact .inl h1
    · exact .inr (by simp at h1; omega)
  · rcases List.mem_cons.1 hx with e | hx
    · have := h.lt; omega
    · rcases ho1 _ hx with h1 | h1
      · exact hno (List.mem_cons_of_mem _ h1)
      · simp at h1; omega

set_option maxRecDepth 20000 in
set_option maxHeartbeats 2000000 in
theorem wLead_any (X : WEnv) (out : List UInt8) (bv : Value) (w : World) (h : BW X out bv w) (an : Nat) (nv : Value) (rows : List Row) (base : Nat) (hG : GI X an nv rows base w) (hNwr : X.N ≤ X.wr) (hW : Whole (rows.map Row.n)) (pl : PlaceV) (hpl : PlOk (rows.map Row.n) pl) (hl : out.length + 100 ≤ 1000000000) :
    Calls Tryz.prog 68 #[wpt X, plV pl] w fun e w' => WSaid X (out ++ leadL (rows.map Row.n) pl) bv w e w' := by
  cases pl with
  | none =>
    have HL : Hid (leadL (rows.map Row.n) none = []) := rfl
    unfold plV
    go_enter Tryz.func68, Tryz.ntmps68
    go_wp2_with fail
    go_end0
    exact ⟨rfl, by rw [HL.out, List.append_nil]; exact WPost.refl h (alloc_but _ _)⟩
  | some q =>
    obtain ⟨p, i⟩ := q
    obtain ⟨hp, hi⟩ := hpl p i rfl
    have hp' : p < rows.length := by simpa using hp
    have hNode := hW.node hp
    have hlen := hW.len
    rw [nodeAt_rows rows p hp'] at hi hNode
    have hpl1 := hNode.len
    have HK : Hid _ := leadL_some rows p i hp'
    unfold plV
    have hbA : But [] w (w.alloc (.cells #[.int .i64 (p : Int), .int .i64 (i : Int)] 124)) := alloc_but _ _
    have hA := h.frame hbA (by simp) (by simp)
    have hpn : ((p : Int) == -1) = false := beq_eq_false_iff_ne.2 (by omega)
    have hpos : rows.length ≤ 500 := by simpa using hlen
    have htk := getD_tok hNode.words i
    have htk1 := htk.1
    have hkl := hNode.keys
    obtain ⟨nb, cap, rfl, hcap, _⟩ := hG.node p hp'
    have hnp : (0 : Int) ≤ (p : Int) := by omega
    have hni : (0 : Int) ≤ (i : Int) := by omega
    by_cases hi0 : 0 < i
    · have HS : Hid _ := wStr_any X out bv _ hA ⟨#[44, 32]⟩ (by show out.length + 2 ≤ _; omega)
      by_cases hk : (rows[p]).n.kind = 2
      · have HK' : Hid (leadL (rows.map Row.n) (some (p, i)) = [44, 32] ++ (textL ((rows[p]).n.keys.getD i ByteArray.empty) ++ [58, 32])) := by unfold Hid; rw [HK.out, if_pos hi0, if_pos hk]
        go_enter Tryz.func68, Tryz.ntmps68
        go_wp2_with fail
        refine Calls.mono HS.out ?_
        rintro e w1 ⟨rfl, hp1⟩
        obtain ⟨bv1, hM⟩ := leadMid_of (X := X) (p := p) (i := i) h hG hNwr hp1
        have c0 := hM.bw.cell.1
        have g0 : w1.cell? ⟨X.g, 0, none⟩ = some (.slice (some ⟨nb, 0, none⟩) rows.length cap) := hM.gi.gr.cell rfl
        have p0 := hM.pl.cell (i := 0) rfl
        have p1 := hM.pl.cell (i := 1) rfl
        obtain ⟨nb', cap', e2, _, hcn⟩ := hM.gi.node p hp'
        obtain ⟨rfl, rfl⟩ : nb = nb' ∧ cap = cap' := by simpa using e2
        have d0 := hcn 0 (by omega)
        have d2 := hcn 2 (by omega)
        simp only [Row.cells, List.getElem?_cons_succ, List.getElem?_cons_zero, Nat.add_zero] at d0 d2
        rw [hk] at d0
        rw [if_pos hk] at hkl
        obtain ⟨kb, kcap, hkv, hkc, hkl2, hkcell⟩ := row1_cell (hM.gi.each rows[p] (List.getElem_mem hp')).1 (by omega)
        have hkey : w1.cell? ⟨kb, i, none⟩ = some (.string ((rows[p]).n.keys.getD i ByteArray.empty)) := hkcell i _ (by
          have hik : i < (rows[p]).n.keys.length := by omega
          simp [List.getD, hik])
        rw [hkv] at d2
        generalize (rows[p]).n.keys.getD i ByteArray.empty = key at *
        generalize rows[p] = r at *
        have HM : Hid _ := hM
        have HTX : Hid _ := fun (W : World) (hW : But [] w1 W) => wText_any X _ bv1 W (hM.bw.frame hW (by simp) (by simp)) key (by omega) (by simp; omega)
        clear hcn e2 hM HS HK hA hbA hNode hkcell hkv hk
        go_wp2_with fail
        go_quiet (fail)
        go_wp2_with fail
        go_region_with ((go_at_call 99; refine (HTX.out _ (((But.refl [] w1).drewN nq).drew)).mono ?_; rintro e w2 ⟨rfl, hp2⟩))
        all_goals
          go_wp2_with fail
          obtain ⟨bv2, hB2, hb2, ho2⟩ := hp2
          refine (wStr_any X _ bv2 w2 hB2 ⟨#[58, 32]⟩ (by
            have := textL_len htk
            simp only [List.length_append]
            show _ + 2 ≤ _
            simp
            omega)).mono ?_
          rintro e w3 ⟨rfl, hp3⟩
          go_wp2_with fail
          go_end0
          refine ⟨rfl, ?_⟩
          rw [HK'.out]
          have h12 : But (X.wr :: own bv1) w1 w2 := (((But.refl [] w1).drewN nq).drew.mono (by simp)).trans hb2 (fun x hx => .inl hx)
          have q1 := WPost.trans h12 ho2 hp3
          have q2 := WPost.trans HM.out.but HM.out.own q1
          simpa [List.append_assoc] using q2
      · have HK' : Hid (leadL (rows.map Row.n) (some (p, i)) = [44, 32]) := by unfold Hid; rw [HK.out, if_pos hi0, if_neg hk]; rfl
        go_enter Tryz.func68, Tryz.ntmps68
        go_wp2_with fail
        refine Calls.mono HS.out ?_
        rintro e w1 ⟨rfl, hp1⟩
        obtain ⟨bv1, hM⟩ := leadMid_of (X := X) (p := p) (i := i) h hG hNwr hp1
        have c0 := hM.bw.cell.1
        have g0 : w1.cell? ⟨X.g, 0, none⟩ = some (.slice (some ⟨nb, 0, none⟩) rows.length cap) := hM.gi.gr.cell rfl
        have p0 := hM.pl.cell (i := 0) rfl
        have p1 := hM.pl.cell (i := 1) rfl
        obtain ⟨nb', cap', e2, _, hcn⟩ := hM.gi.node p hp'
        obtain ⟨rfl, rfl⟩ : nb = nb' ∧ cap = cap' := by simpa using e2
        have d0 := hcn 0 (by omega)
        simp only [Row.cells, List.getElem?_cons_zero, Nat.add_zero] at d0
        have hkb : (((rows[p]).n.kind : Int) == 2) = false := beq_eq_false_iff_ne.2 (by omega)
        generalize rows[p] = r at *
        have HM : Hid _ := hM
        clear hcn e2 hM hk HS HK hA hbA hNode
        go_wp2_with fail
        go_quiet (fail)
        go_wp2_with fail
        go_end0
        exact ⟨rfl, by rw [HK'.out]; exact ⟨bv1, HM.out.bw.frame ((But.refl [] _).drewN _) (by simp) (by simp), HM.out.but.drewN _, HM.out.own⟩⟩
    · obtain ⟨w1, HW1⟩ : ∃ w1, Hid (w1 = w.alloc (.cells #[.int .i64 (p : Int), .int .i64 (i : Int)] 124)) := ⟨_, (rfl : w.alloc (.cells #[.int .i64 (p : Int), .int .i64 (i : Int)] 124) = w.alloc (.cells #[.int .i64 (p : Int), .int .i64 (i : Int)] 124))⟩
      obtain ⟨bv1, hM⟩ := leadMid_of (X := X) (p := p) (i := i) h hG hNwr (WPost.refl hA (But.refl _ _))
      rw [← HW1.out] at hM
      by_cases hk : (rows[p]).n.kind = 2
      · have HK' : Hid (leadL (rows.map Row.n) (some (p, i)) = [] ++ (textL ((rows[p]).n.keys.getD i ByteArray.empty) ++ [58, 32])) := by unfold Hid; rw [HK.out, if_neg hi0, if_pos hk]
        go_enter Tryz.func68, Tryz.ntmps68
        go_upto_region 4 with fail
        rw [← HW1.out]
        have c0 := hM.bw.cell.1
        have g0 : w1.cell? ⟨X.g, 0, none⟩ = some (.slice (some ⟨nb, 0, none⟩) rows.length cap) := hM.gi.gr.cell rfl
        have p0 := hM.pl.cell (i := 0) rfl
        have p1 := hM.pl.cell (i := 1) rfl
        obtain ⟨nb', cap', e2, _, hcn⟩ := hM.gi.node p hp'
        obtain ⟨rfl, rfl⟩ : nb = nb' ∧ cap = cap' := by simpa using e2
        have d0 := hcn 0 (by omega)
        have d2 := hcn 2 (by omega)
        simp only [Row.cells, List.getElem?_cons_succ, List.getElem?_cons_zero, Nat.add_zero] at d0 d2
        rw [hk] at d0
        rw [if_pos hk] at hkl
        obtain ⟨kb, kcap, hkv, hkc, hkl2, hkcell⟩ := row1_cell (hM.gi.each rows[p] (List.getElem_mem hp')).1 (by omega)
        have hkey : w1.cell? ⟨kb, i, none⟩ = some (.string ((rows[p]).n.keys.getD i ByteArray.empty)) := hkcell i _ (by
          have hik : i < (rows[p]).n.keys.length := by omega
          simp [List.getD, hik])
        rw [hkv] at d2
        generalize (rows[p]).n.keys.getD i ByteArray.empty = key at *
        generalize rows[p] = r at *
        have HM : Hid _ := hM
        have HTX : Hid _ := fun (W : World) (hW : But [] w1 W) => wText_any X _ bv1 W (hM.bw.frame hW (by simp) (by simp)) key (by omega) (by simp; omega)
        clear hcn e2 hM HK hA hbA hNode hkcell hkv hk
        go_quiet (fail)
        go_wp2_with fail
        go_region_with ((go_at_call 99; refine (HTX.out _ (((But.refl [] w1).drewN nq).drew)).mono ?_; rintro e w2 ⟨rfl, hp2⟩))
        all_goals
          go_wp2_with fail
          obtain ⟨bv2, hB2, hb2, ho2⟩ := hp2
          refine (wStr_any X _ bv2 w2 hB2 ⟨#[58, 32]⟩ (by
            have := textL_len htk
            simp only [List.length_append]
            show _ + 2 ≤ _
            simp
            omega)).mono ?_
          rintro e w3 ⟨rfl, hp3⟩
          go_wp2_with fail
          go_end0
          refine ⟨rfl, ?_⟩
          rw [HK'.out]
          have h12 : But (X.wr :: own bv1) w1 w2 := (((But.refl [] w1).drewN nq).drew.mono (by simp)).trans hb2 (fun x hx => .inl hx)
          have q1 := WPost.trans h12 ho2 hp3
          have q2 := WPost.trans HM.out.but HM.out.own q1
          simpa [List.append_assoc] using q2
      · have HK' : Hid (leadL (rows.map Row.n) (some (p, i)) = []) := by unfold Hid; rw [HK.out, if_neg hi0, if_neg hk]; rfl
        go_enter Tryz.func68, Tryz.ntmps68
        go_upto_region 4 with fail
        rw [← HW1.out]
        have c0 := hM.bw.cell.1
        have g0 : w1.cell? ⟨X.g, 0, none⟩ = some (.slice (some ⟨nb, 0, none⟩) rows.length cap) := hM.gi.gr.cell rfl
        have p0 := hM.pl.cell (i := 0) rfl
        have p1 := hM.pl.cell (i := 1) rfl
        obtain ⟨nb', cap', e2, _, hcn⟩ := hM.gi.node p hp'
        obtain ⟨rfl, rfl⟩ : nb = nb' ∧ cap = cap' := by simpa using e2
        have d0 := hcn 0 (by omega)
        simp only [Row.cells, List.getElem?_cons_zero, Nat.add_zero] at d0
        have hkb : (((rows[p]).n.kind : Int) == 2) = false := beq_eq_false_iff_ne.2 (by omega)
        generalize rows[p] = r at *
        have HM : Hid _ := hM
        clear hcn e2 hM hk HK hA hbA hNode
        go_quiet (fail)
        go_wp2_with fail
        go_end0
        exact ⟨rfl, by rw [HK'.out, List.append_nil]; exact ⟨bv1, HM.out.bw.frame ((But.refl [] _).drewN _) (by simp) (by simp), HM.out.but.drewN _, HM.out.own⟩⟩

end Go.Proofs.YtkflkmmbakccoaaGreatDoor
