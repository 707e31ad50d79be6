/- PARTS: R27, L1. -/
import Derived.Test.YtkflkmmbakccoaaGreatDoorI17
import Derived.Test.YtkflkmmbakccoaaGreatDoorI12
import Derived.Test.YtkflkmmbakccoaaGreatDoorI13

/- WALKS: package grafterref: Budget, Measure. -/
namespace Go.Proofs.YtkflkmmbakccoaaGreatDoor
open Go.RowKit Go.Maps

/-- No node is open. -/
def ov0 : Over := fun _ => none

set_option maxHeartbeats 2000000 in
theorem rBudget_any (B : Bud) (w : World) :
    Calls Tryz.prog 80 #[budV B] w fun e w' => e = .returned (.bool (okBud B)) ∧ But [] w w' := by
  go_enter Tryz.func80, Tryz.ntmps80
  go_wp2_with fail
  all_goals
    go_ret
    refine ⟨ret_bool ?_, alloc_but _ _⟩
    rw [Bool.eq_iff_iff]
    simp [okBud]
    try omega

set_option maxHeartbeats 800000 in
theorem rMeasure_any {R : REnv} {ov : Over} {K k : Nat} {t : PS} {nv mv : Value} {rows : List RRow} {names : List (ByteArray × Nat)} {w : World} (h : RMem R K k t.anchors 0 0 nv mv rows names w) (hS : RSt R.s ov t rows names t.anchors) (ho : ov 0 = none) (hn : 0 < rows.length) :
    Calls Tryz.prog 36 #[.pointer (some ⟨R.b, 0, none⟩)] w fun e w' => e = .returned (budV (measM t)) ∧ But [] w w' := by
  obtain ⟨nb, cap, rfl, hcap, hcn⟩ := h.node 0 hn
  have g8 : w.cell? ⟨R.b, 8, none⟩ = some (.slice (some ⟨nb, 0, none⟩) rows.length cap) := h.rd.cell rfl
  have g10 : w.cell? ⟨R.b, 10, none⟩ = some (.int .i64 (t.anchors : Int)) := h.rd.cell rfl
  have d4 := (hcn 4 (by omega)).1
  have d5 := (hcn 5 (by omega)).1
  simp only [RRow.cells, List.getElem?_cons_succ, List.getElem?_cons_zero, Nat.zero_mul, Nat.zero_add] at d4 d5
  have hM : measM t = ⟨((rows[0]).n.high : Int), (rows.length : Int), (t.anchors : Int), ((rows[0]).n.heavy : Int)⟩ := by
    have h0 := (hS.shut 0 hn ho).1
    unfold measM
    have e1 : highOf t.nodes 0 = (rows[0]).n.high := by simp [highOf, List.getD, h0]
    have e2 : heavyOf t.nodes 0 = (rows[0]).n.heavy := by simp [heavyOf, List.getD, h0]
    rw [e1, e2, hS.len]
  have HM : Hid _ := hM
  have gl : nb < w.heap.size := by
    have : w.cell? ⟨nb, 4, none⟩ ≠ none := by rw [d4]; simp
    by_cases hx : nb < w.heap.size
    · exact hx
    · exact absurd (by simp [World.cell?, Array.getElem?_eq_none (by omega : w.heap.size ≤ nb)]) this
  have gg : R.b < w.heap.size := h.rd.lt
  clear hM hcn hS
  generalize rows[0] = r0 at *
  go_enter Tryz.func36, Tryz.ntmps36
  go_wp2_with fail
  go_region
  all_goals
    try go_wp2_with fail
    refine bodyPost_ret (v := .agg #[.int .i64 (r0.n.high : Int), .int .i64 (rows.length : Int), .int .i64 (t.anchors : Int), .int .i64 (r0.n.heavy : Int)]) (by simp [results, Tryz.results36, go_sem]) rfl ⟨by rw [HM.out], ?_⟩
    repeat (first | exact But.refl _ _ | refine But.alloc ?_ _ | refine But.drew ?_ | refine But.setCell ?_ (by simp) _)

end Go.Proofs.YtkflkmmbakccoaaGreatDoor

/- THE LAW: docs beside one another, in memory. -/
namespace Go.Proofs.YtkflkmmbakccoaaGreatDoor
open Go.RowKit Go.Maps

/-- What was read is whole. -/
theorem load_whole {s : ByteArray} {B : Bud} {u : Unit} {t : PS} (h : loadM s B = .ok u t) : Whole t.nodes := by
  unfold loadM at h
  split at h
  · cases h
  · rename_i hok
    split at h
    · cases h
    · rename_i hl
      obtain ⟨v, t1, h1, h2⟩ := Res.bind_ok_iff h
      split at h2
      · cases h2
      · injection h2 with _ h2
        subst h2
        have hb : okBud B = true := by simpa using hok
        have hbd : B.depth ≤ 20 ∧ B.nodes ≤ 500 ∧ B.anchors ≤ 100 := by
          simp [okBud] at hb
          omega
        obtain ⟨a, b, c⟩ := textM_fin (s := s) (B := B) (by omega) hbd.1 hbd.2.1 hbd.2.2 ⟨by simp [ps0], by simp [ps0], by simp [ps0], by simp [ps0], (fun p hp => by cases hp), (fun i => by simp [ps0, heavyOf, NodeV.blank]), (fun i => by simp [ps0, highOf, NodeV.blank])⟩ rfl h1
        exact ⟨a, b, c.nodes, c.high, c.heavy⟩

/-- A doc of the program's, and one of the document's: both of one text. -/
def DocOk (p : Nat × Nat) (w : World) : Prop :=
  ∃ (E : Env) (t : PS) (nv : Value) (rows : List Row) (R : REnv) (K k : Nat) (nv2 mv2 : Value) (rows2 : List RRow) (names2 : List (ByteArray × Nat)),
    PInv E t nv rows w ∧ 0 < rows.length ∧ Blk w p.1 #[.pointer (some ⟨E.g, 0, none⟩)] 59 ∧ p.2 = R.b ∧ RMem R K k t.anchors 0 0 nv2 mv2 rows2 names2 w ∧ RSt R.s ov0 t rows2 names2 t.anchors ∧ 0 < rows2.length ∧ Whole t.nodes

/-- What is written are the law's own blocks: docs stay. -/
theorem DocOk.frame {p : Nat × Nat} {w w' : World} {S : List Nat} (h : DocOk p w) (hb : But S w w') (hS : ∀ x ∈ S, ∃ cs T, Blk w x cs T ∧ (T = 72 ∨ T = 53)) : DocOk p w' := by
  obtain ⟨E, t, nv, rows, R, K, k, nv2, mv2, rows2, names2, hI, hr, hd, hy, hM, hSt, hr2, hWh⟩ := h
  have hne : ∀ {cs T cs' T'} {x : Nat}, Blk w x cs T → (T = 72 ∨ T = 53) → Blk w x cs' T' → (T' ≠ 72 ∧ T' ≠ 53) → False := fun h1 h2 h3 h4 => by
    have := (h1.inj h3).2
    rcases h2 with h2 | h2
    · exact h4.1 (this ▸ h2)
    · exact h4.2 (this ▸ h2)
  refine ⟨E, t, nv, rows, R, K, k, nv2, mv2, rows2, names2, hI.frame hb (fun x hx => ?_), hr, hb.blk hd (fun hx => ?_), hy, ?_, hSt, hr2, hWh⟩
  · obtain ⟨cs, T, h1, h2⟩ := hS x hx
    refine hI.not_foot h1 (fun e => ?_) (fun e => ?_) (fun ho => ?_) (fun hq => ?_)
    · rcases h2 with h2 | h2 <;> rw [h2] at e <;> exact absurd e (by decide)
    · rcases h2 with h2 | h2 <;> rw [h2] at e <;> exact absurd e (by decide)
    · obtain ⟨cs', h3⟩ := hI.own_block ho
      exact hne h1 h2 h3 (by decide)
    · obtain ⟨cs', T', h3, h4⟩ := hI.pub_block hq
      exact hne h1 h2 h3 (by rcases h4 with rfl | rfl <;> decide)
  · obtain ⟨cs, T, h1, h2⟩ := hS _ hx
    exact hne h1 h2 hd (by decide)
  · obtain ⟨h1, h2, h3, h4, h5⟩ := hM.frameP (fun T => T = 72 ∨ T = 53) hb hS
    exact ⟨h1 (by decide), h2 (by decide), h3 (by decide), h4 (by decide) (by decide), h5 (by decide), hM.apart, Nat.le_trans hM.base hb.size, hM.bb⟩

def prCells (p : Nat × Nat) : List Value := [.pointer (some ⟨p.1, 0, none⟩), .pointer (some ⟨p.2, 0, none⟩)]

/-- The law's world of docs: made since w0. -/
structure WOk (w0 : World) (wb : Nat) (ps : List (Nat × Nat)) (lv : Value) (w : World) : Prop where
  blk : Blk w wb #[lv] 53
  row : w.ownsRow w0.heap.size 72 2 lv ps.length (ps.flatMap prCells)
  docs : ∀ p ∈ ps, DocOk p w
  but : But [] w0 w
  wb : w0.heap.size ≤ wb

theorem WOk.still {w0 : World} {wb : Nat} {ps : List (Nat × Nat)} {lv : Value} {w w' : World} (h : WOk w0 wb ps lv w) (hb : But [] w w') : WOk w0 wb ps lv w' :=
  ⟨hb.blk h.blk (by simp), ownsRow_but h.row hb (by simp), fun p hp => (h.docs p hp).frame hb (fun x hx => by cases hx), h.but.trans hb (by simp), h.wb⟩

theorem infoPair : (Tryz.prog.info? 72).map (fun i => (i.zero, i.size, i.bytes)) = some (some (.agg #[.pointer none, .pointer none]), 2, 16) := by kernel_rfl
theorem undPairs : Tryz.prog.underlying 51 = some (.slice 72) := by kernel_rfl

/-- One more doc. -/
theorem WOk.push {w0 : World} {wb : Nat} {ps : List (Nat × Nat)} {lv v' : Value} {w w1 : World} {o : Obj} {p : Nat × Nat} (h : WOk w0 wb ps lv w) (hp : DocOk p w)
    (hown : w1.ownsRow w0.heap.size 72 2 v' (ps.length + 1) (ps.flatMap prCells ++ prCells p)) (hgrow : (w.alloc o).grownBy w1 lv.ownBlock) :
    Blk w1 wb #[lv] 53 ∧ WOk w0 wb (ps ++ [p]) v' (w1.setCell ⟨wb, 0, none⟩ v') := by
  have hb1 : But (own lv) w w1 := ((alloc_but w o).mono (by simp)).trans (grown_but hgrow) (fun x hx => .inl hx)
  have hb2 : But (wb :: own lv) w (w1.setCell ⟨wb, 0, none⟩ v') := (hb1.mono (fun x hx => .inl (List.mem_cons_of_mem _ hx))).setCell (by simp) _
  have hN : ∀ x ∈ own lv, ∃ cs, Blk w x cs 72 ∧ w0.heap.size ≤ x := fun x hx => by
    obtain ⟨h1, cs, hc⟩ := ownsRow_lt h.row hx
    exact ⟨cs, hc, h1⟩
  have hS : ∀ x ∈ wb :: own lv, ∃ cs T, Blk w x cs T ∧ (T = 72 ∨ T = 53) := fun x hx => by
    rcases List.mem_cons.1 hx with rfl | hx
    · exact ⟨_, _, h.blk, .inr rfl⟩
    · obtain ⟨cs, hc, _⟩ := hN x hx
      exact ⟨cs, _, hc, .inl rfl⟩
  have hwb : wb ∉ own lv := fun hx => by
    obtain ⟨cs, hc, _⟩ := hN wb hx
    exact absurd (h.blk.inj hc).2 (by decide)
  have g1 := hb1.blk h.blk hwb
  refine ⟨g1, ⟨?_, ?_, fun q hq => ?_, h.but.trans hb2 (fun x hx => ?_), h.wb⟩⟩
  · have := g1.set 0 v'
    simpa using this
  · have := ownsRow_but (S := [wb]) hown ((But.refl _ w1).setCell (by simp) v' (p := ⟨wb, 0, none⟩)) (fun x hx hy => by
      obtain ⟨_, cs, hc⟩ := ownsRow_lt hown hx
      have := List.mem_singleton.1 hy
      subst this
      exact absurd (g1.inj hc).2 (by decide))
    simpa using this
  · rcases List.mem_append.1 hq with hq | hq
    · exact (h.docs q hq).frame hb2 hS
    · have := List.mem_singleton.1 hq
      subst this
      exact hp.frame hb2 hS
  · right
    rcases List.mem_cons.1 hx with rfl | hx
    · exact h.wb
    · exact (hN x hx).choose_spec.2

set_option maxHeartbeats 400000 in
theorem lnum_any (e : Int) (w : World) :
    Calls Tryz.prog 40 #[.int .i64 e] w fun r w' => r = .returned (.int .i64 e) ∧ w' = w := by
  go_enter Tryz.func40, Tryz.ntmps40
  go_wp2_with fail
  go_ret
  exact ⟨rfl, rfl⟩

set_option maxHeartbeats 400000 in
/-- Which of n things a raw number speaks of. -/
theorem lpick_any (c : Int) (n : Nat) (hn : 0 < n) (hn2 : n < 9223372036854775807) (hc : -9223372036854775808 ≤ c) (hc2 : c ≤ 9223372036854775807) (w : World) :
    Calls Tryz.prog 35 #[.int .i64 c, .int .i64 (n : Int)] w fun r w' => ∃ j : Nat, j < n ∧ r = .returned (.int .i64 (j : Int)) ∧ w' = w := by
  have key : ∀ a : Int, 0 ≤ a → ∃ j : Nat, j < n ∧ a.tmod (n : Int) = (j : Int) := fun a ha => by
    have h1 := Int.tmod_nonneg (n : Int) ha
    have h2 := Int.tmod_lt_of_pos a (b := (n : Int)) (by omega)
    exact ⟨(a.tmod n).toNat, by omega, by omega⟩
  have HK : Hid _ := key
  clear key
  by_cases h : c < 0
  · obtain ⟨j, hj, he⟩ := HK.out (-(c + 1)) (by omega)
    have HE : Hid _ := he
    clear he
    go_enter Tryz.func35, Tryz.ntmps35
    go_wp2_with fail
    go_ret
    exact ⟨j, hj, ret_int (by rw [← HE.out, Int.neg_tmod]), rfl⟩
  · obtain ⟨j, hj, he⟩ : ∃ j : Nat, j < n ∧ c % (n : Int) = (j : Int) := by
      have h1 := Int.emod_nonneg c (b := (n : Int)) (by omega)
      have h2 := Int.emod_lt_of_pos c (b := (n : Int)) (by omega)
      exact ⟨(c % n).toNat, by omega, by omega⟩
    have HE : Hid _ := he
    clear he
    go_enter Tryz.func35, Tryz.ntmps35
    go_wp2_with fail
    go_ret
    exact ⟨j, hj, ret_int HE.out, rfl⟩

def Res.isOk {α : Type} : Res α → Bool
  | .ok _ _ => true
  | .bad _ _ => false

/-- How many docs a Load makes. -/
def loadN (s : ByteArray) (B : Bud) : Nat := if (loadM s B).isOk then 1 else 0

/-- What a step of the law leaves: n docs. -/
def LPost (w0 : World) (wb : Nat) (n : Nat) (e : Ending) (w' : World) : Prop := e = .returned (.bool true) ∧ ∃ ps' lv', WOk w0 wb ps' lv' w' ∧ ps'.length = n

/-- A step, as a value. -/
abbrev stepV (kd e n : Int) (s : ByteArray) (B : Bud) (pv : Value) : Value := .agg #[.int .i64 kd, .int .i64 e, .int .i64 n, .string s, .int .i64 B.depth, .int .i64 B.nodes, .int .i64 B.anchors, .int .i64 B.weight, pv]

/-- How many docs a step makes. -/
def stepN (kd : Int) (s : ByteArray) (B : Bud) : Nat := if kd = 1 then loadN s B else 0

theorem prFlat_at (L : List (Nat × Nat)) (i j : Nat) (hi : i < L.length) (hj : j < 2) : (L.flatMap prCells)[i * 2 + j]? = (prCells L[i])[j]? := by
  induction L generalizing i with
  | nil => simp at hi
  | cons r L ih =>
    cases i with
    | zero =>
      simp only [List.flatMap_cons, Nat.zero_mul, Nat.zero_add, List.getElem_cons_zero]
      rw [List.getElem?_append_left (by simp [prCells]; omega)]
    | succ i =>
      simp only [List.flatMap_cons, List.getElem_cons_succ]
      rw [List.getElem?_append_right (by simp [prCells]; omega)]
      have e : (i + 1) * 2 + j - (prCells r).length = i * 2 + j := by simp [prCells]; omega
      rw [e]
      exact ih i (by simpa using hi)

theorem WOk.pair {w0 : World} {wb : Nat} {ps : List (Nat × Nat)} {lv : Value} {w : World} (h : WOk w0 wb ps lv w) (hn : 0 < ps.length) :
    ∃ lb cap, lv = .slice (some ⟨lb, 0, none⟩) ps.length cap ∧ ps.length ≤ cap ∧ ∀ (W : World), But [] w W → ∀ i (hi : i < ps.length), W.cell? ⟨lb, i * 2, none⟩ = some (.pointer (some ⟨(ps[i]).1, 0, none⟩)) ∧ W.cell? ⟨lb, i * 2 + 1, none⟩ = some (.pointer (some ⟨(ps[i]).2, 0, none⟩)) := by
  rcases h.row.2 with ⟨_, h0⟩ | ⟨g, cap, cur, e, hb, hg, hc, hm, hs, ht⟩
  · omega
  · refine ⟨g, cap, e, hc, fun W hW i hi => ?_⟩
    have key : ∀ j, j < 2 → W.cell? ⟨g, i * 2 + j, none⟩ = (prCells ps[i])[j]? := fun j hj => by
      have h1 := prFlat_at ps i j hi hj
      rw [← ht, List.getElem?_take, if_pos (by omega)] at h1
      rw [← h1]
      have hg' : W.heap[g]? = w.heap[g]? := hW.block g (Blk.lt (cs := cur) (T := 72) hg) (by simp)
      simp only [World.cell?, hg', hg]
      simp
    exact ⟨key 0 (by omega), key 1 (by omega)⟩

/-- A doc is picked: it lies in a block of its own. -/
def Picked (w : World) (ps : List (Nat × Nat)) (gb : Nat) (wc : World) : Prop := ∃ p ∈ ps, Blk wc gb #[.pointer (some ⟨p.1, 0, none⟩), .pointer (some ⟨p.2, 0, none⟩)] 72 ∧ But [] w wc

theorem bud_blk {X : World} {a : Nat} {u0 u1 u2 u3 : Value} (h : Blk X a #[.int .i64 0, .int .i64 0, .int .i64 0, .int .i64 0] 29) : Blk ((((X.setCell ⟨a, 0, none⟩ u0).setCell ⟨a, 1, none⟩ u1).setCell ⟨a, 2, none⟩ u2).setCell ⟨a, 3, none⟩ u3) a #[u0, u1, u2, u3] 29 := by
  have := (((h.set 0 u0).set 1 u1).set 2 u2).set 3 u3
  simpa using this

end Go.Proofs.YtkflkmmbakccoaaGreatDoor
