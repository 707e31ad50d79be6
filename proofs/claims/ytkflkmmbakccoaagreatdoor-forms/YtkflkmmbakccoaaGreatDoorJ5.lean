/- PARTS: W12, Inv4, W13, Inv5. -/
import Derived.Test.YtkflkmmbakccoaaGreatDoorJ2
import Derived.Test.YtkflkmmbakccoaaGreatDoorJ4

/- WALKS: slices.Index, slices.Contains at []string. -/
namespace Go.Proofs.YtkflkmmbakccoaaGreatDoor
open Go.RowKit

theorem bytes_toList {a b : ByteArray} (h : a.toList = b.toList) : a = b := by
  have e : ∀ c : ByteArray, c.toList = c.data.toList := fun c => ByteArray.toList_eq c
  rw [e, e] at h
  apply ByteArray.ext
  exact Array.toList_inj.1 h

/-- Where a text stands in a list of texts first; -1: nowhere. -/
def idxS (l : List ByteArray) (x : ByteArray) : Int := match l.findIdx? (fun y => decide (y = x)) with | some i => (i : Int) | none => -1

theorem ownsStr_cell {w : World} {base n : Nat} {v : Value} {l : List ByteArray} (h : w.ownsRow base 9 1 v n (l.map Value.string)) (hn : 0 < n) :
    ∃ b cap, v = .slice (some ⟨b, 0, none⟩) n cap ∧ n ≤ cap ∧ l.length = n ∧ ∀ i (hi : i < l.length), w.cell? ⟨b, i, none⟩ = some (.string l[i]) := by
  have hl : l.length = n := by have := h.1; simpa using this
  rcases h.2 with ⟨_, h0⟩ | ⟨g, cap, cur, e, hb, hg, hc, hm, hs, ht⟩
  · omega
  · refine ⟨g, cap, e, hc, hl, fun i hi => ?_⟩
    have h1 : (l.map Value.string)[i]? = some (.string l[i]) := by simp [hi]
    rw [← ht, List.getElem?_take, if_pos (by omega)] at h1
    simp only [World.cell?, hg]
    simpa using h1

theorem idx_step {l : List ByteArray} {x : ByteArray} {k : Nat} (hk : k < l.length) (hb : ∀ i (hi : i < l.length), i < k → l[i] ≠ x) (hx : l[k] = x) : idxS l x = (k : Int) := by
  have : l.findIdx? (fun y => decide (y = x)) = some k := by
    rw [List.findIdx?_eq_some_iff_getElem]
    exact ⟨hk, by simpa using hx, fun j hj => by simpa using hb j (by omega) hj⟩
  simp [idxS, this]

theorem idx_none {l : List ByteArray} {x : ByteArray} (hb : ∀ i (hi : i < l.length), l[i] ≠ x) : idxS l x = -1 := by
  have : l.findIdx? (fun y => decide (y = x)) = none := by
    rw [List.findIdx?_eq_none_iff]
    intro y hy
    obtain ⟨i, hi, rfl⟩ := List.getElem_of_mem hy
    simpa using hb i hi
  simp [idxS, this]

set_option maxHeartbeats 400000 in
theorem index_any (l : List ByteArray) (x : ByteArray) (v : Value) (base : Nat) (w : World) (h : w.ownsRow base 9 1 v l.length (l.map Value.string)) (hl : l.length ≤ 1000) :
    Calls Tryz.prog 75 #[v, .string x] w fun e w' => e = .returned (.int .i64 (idxS l x)) ∧ w' = w := by
  have hv : ∃ a cap, v = .slice a l.length cap ∧ l.length ≤ cap := by
    rcases h.2 with ⟨e, h0⟩ | ⟨g, cap, cur, e, _, _, hc, _⟩
    · exact ⟨_, _, by rw [e, h0], by omega⟩
    · exact ⟨_, _, e, hc⟩
  obtain ⟨a, cap, rfl, hcap⟩ := hv
  go_enter Tryz.func75, Tryz.ntmps75
  go_wp2_with fail
  go_loop [8] (fun i => ∃ k : Nat, k ≤ l.length ∧ i = .int .i64 k ∧ ∀ j (hj : j < l.length), j < k → l[j] ≠ x) (fun i => l.length - (intOf i).toNat)
  case atStart => exact ⟨0, Nat.zero_le _, rfl, fun j _ hj => by omega⟩
  case round =>
    obtain ⟨k, hk, rfl, hbef⟩ := hrel
    have HB : Hid _ := hbef
    clear hbef
    by_cases hlt : k < l.length
    · obtain ⟨b, cap', e, _, _, hcell⟩ := ownsStr_cell h (by omega)
      obtain ⟨rfl, rfl⟩ : a = some ⟨b, 0, none⟩ ∧ cap = cap' := by simpa using e
      have hc := hcell k hlt
      clear hcell e
      by_cases hx : l[k] = x
      · have HE : Hid (idxS l x = (k : Int)) := idx_step hlt HB.out hx
        go_wp2_with fail
        go_ret
        exact ⟨ret_int HE.out.symm, rfl⟩
      · have hxx : (x.toList == l[k].toList) = false := beq_eq_false_iff_ne.2 (fun e => hx (bytes_toList e).symm)
        go_wp2_with fail
        go_round
        case rel => exact ⟨k + 1, by omega, by go_num, fun j hj hjk => by
          by_cases e : j = k
          · subst e; exact hx
          · exact HB.out j hj (by omega)⟩
        case measure => simp [intOf]; omega
    · have HE : Hid (idxS l x = -1) := idx_none (fun i hi => HB.out i hi (by omega))
      go_wp2_with fail
      go_ret
      exact ⟨ret_int HE.out.symm, rfl⟩

theorem idx_any (l : List ByteArray) (x : ByteArray) : decide (0 ≤ idxS l x) = l.any (fun y => decide (y = x)) := by
  unfold idxS
  cases h : l.findIdx? (fun y => decide (y = x)) with
  | none =>
    have := List.findIdx?_eq_none_iff.1 h
    rw [Bool.eq_iff_iff]
    simp only [decide_eq_true_eq, List.any_eq_true]
    constructor
    · intro h0; omega
    · rintro ⟨y, hy, hyx⟩
      have := this y hy
      simp_all
  | some i =>
    obtain ⟨hi, hx, _⟩ := List.findIdx?_eq_some_iff_getElem.1 h
    rw [Bool.eq_iff_iff]
    simp only [decide_eq_true_eq, List.any_eq_true]
    exact ⟨fun _ => ⟨l[i], List.getElem_mem hi, by simpa using hx⟩, fun _ => by omega⟩

set_option maxHeartbeats 400000 in
theorem contains_any (l : List ByteArray) (x : ByteArray) (v : Value) (base : Nat) (w : World) (h : w.ownsRow base 9 1 v l.length (l.map Value.string)) (hl : l.length ≤ 1000) :
    Calls Tryz.prog 177 #[v, .string x] w fun e w' => e = .returned (.bool (l.any (fun y => decide (y = x)))) ∧ w' = w := by
  have he := idx_any l x
  have HE : Hid _ := he
  clear he
  go_enter Tryz.func177, Tryz.ntmps177
  go_wp2_with fail
  refine (index_any l x v base w h hl).mono ?_
  rintro e w1 ⟨rfl, rfl⟩
  go_wp2_with fail
  go_ret
  exact ⟨ret_bool HE.out, rfl⟩

end Go.Proofs.YtkflkmmbakccoaaGreatDoor

/- THE PARSER IN MEMORY: a node that is still being read, in a block of its own. -/
namespace Go.Proofs.YtkflkmmbakccoaaGreatDoor
open Go.RowKit Go.Maps

/-- A node that is still being read lies in block b. -/
structure LInv (E : Env) (b : Nat) (r : Row) (nv : Value) (rows : List Row) (w : World) : Prop where
  blk : Blk w b r.cells.toArray 79
  ok : RowOk w E.base r
  nb : b ∉ own nv
  apart : ∀ x ∈ r.pub, x ∉ pub rows

theorem LInv.pub_block {E : Env} {b : Nat} {r : Row} {nv : Value} {rows : List Row} {w : World} (h : LInv E b r nv rows w) {x : Nat} (hx : x ∈ r.pub) : ∃ cs T, Blk w x cs T ∧ (T = 9 ∨ T = 3) := by
  rcases List.mem_append.1 hx with hx | hx
  · obtain ⟨_, cs, hc⟩ := ownsRow_lt h.ok.1 hx
    exact ⟨cs, _, hc, .inl rfl⟩
  · obtain ⟨_, cs, hc⟩ := ownsRow_lt h.ok.2 hx
    exact ⟨cs, _, hc, .inr rfl⟩

theorem LInv.b_not {E : Env} {t : PS} {b : Nat} {r : Row} {nv : Value} {rows : List Row} {w : World} (h : LInv E b r nv rows w) (hI : PInv E t nv rows w) : b ∉ foot E nv rows ∧ b ∉ r.pub := by
  refine ⟨hI.not_foot h.blk (by decide) (by decide) h.nb (fun hx => ?_), fun hx => ?_⟩
  · obtain ⟨cs, T, hc, hT⟩ := hI.pub_block hx
    have := (h.blk.inj hc).2
    rcases hT with rfl | rfl <;> exact absurd this (by decide)
  · obtain ⟨cs, T, hc, hT⟩ := h.pub_block hx
    have := (h.blk.inj hc).2
    rcases hT with rfl | rfl <;> exact absurd this (by decide)

theorem LInv.pub_not {E : Env} {t : PS} {b : Nat} {r : Row} {nv : Value} {rows : List Row} {w : World} (h : LInv E b r nv rows w) (hI : PInv E t nv rows w) {x : Nat} (hx : x ∈ r.pub) : x ∉ foot E nv rows := by
  obtain ⟨cs, T, hc, hT⟩ := h.pub_block hx
  refine hI.not_foot hc (by rcases hT with rfl | rfl <;> decide) (by rcases hT with rfl | rfl <;> decide) (fun hy => ?_) (h.apart x hx)
  obtain ⟨cs', hc'⟩ := hI.own_block hy
  have := (hc.inj hc').2
  rcases hT with rfl | rfl <;> exact absurd this (by decide)

/-- While the parser goes on, the node stays as it is. -/
theorem LInv.stays {E : Env} {t : PS} {b : Nat} {r : Row} {nv nv1 : Value} {rows rows1 : List Row} {w w1 : World} (h : LInv E b r nv rows w) (hI : PInv E t nv rows w) (hb : But (E.p :: E.g :: E.m :: own nv) w w1)
    (ho : ∀ x ∈ own nv1, x ∈ own nv ∨ w.heap.size ≤ x) (hp : ∀ x ∈ pub rows1, x ∈ pub rows ∨ w.heap.size ≤ x) : LInv E b r nv1 rows1 w1 := by
  have hf : ∀ x, x ∉ foot E nv rows → x ∉ E.p :: E.g :: E.m :: own nv := fun x hx hy => hx (by
    simp only [foot, List.mem_cons, List.mem_append] at hy ⊢
    rcases hy with hy | hy | hy | hy
    · exact .inl hy
    · exact .inr (.inl hy)
    · exact .inr (.inr (.inl hy))
    · exact .inr (.inr (.inr (.inl hy))))
  refine ⟨hb.blk h.blk (hf b (h.b_not hI).1), h.ok.but hb (fun x hx => hf x (h.pub_not hI hx)), fun hx => ?_, fun x hx hy => ?_⟩
  · rcases ho b hx with h1 | h1
    · exact h.nb h1
    · have := h.blk.lt; omega
  · rcases hp x hy with h1 | h1
    · exact h.apart x hx h1
    · obtain ⟨cs, T, hc, _⟩ := h.pub_block hx
      have := hc.lt; omega

/-- What a method that fills the node may write. -/
def mayL (E : Env) (b : Nat) (r : Row) (nv : Value) : List Nat := E.p :: E.g :: E.m :: b :: (own nv ++ r.pub)

def GoodL (E : Env) (nv : Value) (rows : List Row) (b : Nat) (r : Row) (w : World) (n' : NodeV) (t' : PS) (w' : World) : Prop :=
  ∃ nv' rows' kv' pv', PInv E t' nv' rows' w' ∧ LInv E b ⟨n', kv', pv'⟩ nv' rows' w' ∧ But (mayL E b r nv) w w' ∧ (∀ x ∈ own nv', x ∈ own nv ∨ w.heap.size ≤ x) ∧ (∀ x ∈ pub rows', x ∈ pub rows ∨ w.heap.size ≤ x) ∧
    (∀ x ∈ own kv' ++ own pv', x ∈ r.pub ∨ w.heap.size ≤ x)

def BadL (E : Env) (nv : Value) (b : Nat) (r : Row) (w : World) (er pl : Nat) (w' : World) : Prop :=
  But (mayL E b r nv) w w' ∧ w'.cell? ⟨E.p, 9, none⟩ = some (.int .i64 (er : Int)) ∧ w'.cell? ⟨E.p, 10, none⟩ = some (.int .i64 (pl : Int)) ∧ er ≠ 0

def PostL {α : Type} (E : Env) (nv : Value) (rows : List Row) (b : Nat) (r : Row) (w : World) (f : α → NodeV) (res : Res α) (e : Ending) (w' : World) : Prop :=
  match res with
  | .ok a t' => e = .returned (.bool true) ∧ GoodL E nv rows b r w (f a) t' w'
  | .bad er pl => e = .returned (.bool false) ∧ BadL E nv b r w er pl w'

theorem mayL_mem {E : Env} {b : Nat} {r : Row} {nv : Value} {x : Nat} : x ∈ mayL E b r nv ↔ x = E.p ∨ x = E.g ∨ x = E.m ∨ x = b ∨ x ∈ own nv ∨ x ∈ r.pub := by
  simp [mayL]

theorem But.toL {E : Env} {b : Nat} {r : Row} {nv : Value} {w w' : World} (h : But (E.p :: E.g :: E.m :: own nv) w w') : But (mayL E b r nv) w w' :=
  h.mono (fun x hx => .inl (by
    simp only [List.mem_cons] at hx
    rw [mayL_mem]
    rcases hx with hx | hx | hx | hx
    · exact .inl hx
    · exact .inr (.inl hx)
    · exact .inr (.inr (.inl hx))
    · exact .inr (.inr (.inr (.inr (.inl hx))))))

/-- What may be written behind a step, seen from ahead of it. -/
theorem But.transL {E : Env} {b : Nat} {r r1 : Row} {nv nv1 : Value} {w w1 w2 : World} (h : But (mayL E b r nv) w w1) (k : But (mayL E b r1 nv1) w1 w2) (ho : ∀ x ∈ own nv1, x ∈ own nv ∨ w.heap.size ≤ x) (hr : ∀ x ∈ r1.pub, x ∈ r.pub ∨ w.heap.size ≤ x) : But (mayL E b r nv) w w2 := by
  refine h.trans k (fun x hx => ?_)
  rw [mayL_mem] at hx ⊢
  rcases hx with hx | hx | hx | hx | hx | hx
  · exact .inl (.inl hx)
  · exact .inl (.inr (.inl hx))
  · exact .inl (.inr (.inr (.inl hx)))
  · exact .inl (.inr (.inr (.inr (.inl hx))))
  · rcases ho x hx with h1 | h1
    · exact .inl (.inr (.inr (.inr (.inr (.inl h1)))))
    · exact .inr h1
  · rcases hr x hx with h1 | h1
    · exact .inl (.inr (.inr (.inr (.inr (.inr h1)))))
    · exact .inr h1

theorem GoodL.trans {E : Env} {nv nv1 : Value} {rows rows1 : List Row} {b : Nat} {r r1 : Row} {w w1 w2 : World} {n' : NodeV} {t' : PS} (hb : But (mayL E b r nv) w w1) (ho : ∀ x ∈ own nv1, x ∈ own nv ∨ w.heap.size ≤ x)
    (hp : ∀ x ∈ pub rows1, x ∈ pub rows ∨ w.heap.size ≤ x) (hr : ∀ x ∈ r1.pub, x ∈ r.pub ∨ w.heap.size ≤ x) (h : GoodL E nv1 rows1 b r1 w1 n' t' w2) : GoodL E nv rows b r w n' t' w2 := by
  obtain ⟨nv2, rows2, kv2, pv2, hI, hL, hb2, ho2, hp2, hr2⟩ := h
  refine ⟨nv2, rows2, kv2, pv2, hI, hL, hb.transL hb2 ho hr, fun x hx => ?_, fun x hx => ?_, fun x hx => ?_⟩
  · rcases ho2 x hx with h1 | h1
    · exact ho x h1
    · exact .inr (Nat.le_trans hb.size h1)
  · rcases hp2 x hx with h1 | h1
    · exact hp x h1
    · exact .inr (Nat.le_trans hb.size h1)
  · rcases hr2 x hx with h1 | h1
    · exact hr x h1
    · exact .inr (Nat.le_trans hb.size h1)

theorem BadL.trans {E : Env} {nv nv1 : Value} {b : Nat} {r r1 : Row} {w w1 w2 : World} {er pl : Nat} (hb : But (mayL E b r nv) w w1) (ho : ∀ x ∈ own nv1, x ∈ own nv ∨ w.heap.size ≤ x) (hr : ∀ x ∈ r1.pub, x ∈ r.pub ∨ w.heap.size ≤ x)
    (h : BadL E nv1 b r1 w1 er pl w2) : BadL E nv b r w er pl w2 := ⟨hb.transL h.1 ho hr, h.2⟩

theorem Bad.toL {E : Env} {nv : Value} {b : Nat} {r : Row} {w w' : World} {er pl : Nat} (h : Bad E nv w er pl w') : BadL E nv b r w er pl w' := ⟨h.1.toL, h.2⟩

/-- One more behind the keys or the parts: what is common. -/
theorem LInv.push {E : Env} {t : PS} {b : Nat} {r : Row} {nv v v' : Value} {rows : List Row} {w w1 : World} {o : Obj} {T : TypeId} {n : Nat} {xs : List Value} {i : Nat} (h : LInv E b r nv rows w) (hI : PInv E t nv rows w) (hT : T = 9 ∨ T = 3)
    (hv : ∀ x ∈ own v, x ∈ r.pub) (hown : w1.ownsRow E.base T 1 v' n xs) (hgrow : (w.alloc o).grownBy w1 v.ownBlock) (hloc : v'.ownBlock = v.ownBlock ∨ v'.ownBlock = some (w.alloc o).heap.size) :
    Blk w1 b r.cells.toArray 79 ∧ PInv E t nv rows (w1.setCell ⟨b, i, none⟩ v') ∧ Blk (w1.setCell ⟨b, i, none⟩ v') b (r.cells.toArray.setIfInBounds i v') 79 ∧ But (b :: own v) w (w1.setCell ⟨b, i, none⟩ v') ∧
      (w1.setCell ⟨b, i, none⟩ v').ownsRow E.base T 1 v' n xs ∧ (∀ x ∈ own v', x ∈ own v ∨ w.heap.size ≤ x) ∧ (∀ x ∈ own v', x ∉ pub rows) := by
  have hb1 : But (own v) w w1 := ((alloc_but w o).mono (by simp)).trans (grown_but hgrow) (fun x hx => .inl hx)
  have hbn := h.b_not hI
  have hB1 : Blk w1 b r.cells.toArray 79 := hb1.blk h.blk (fun hx => hbn.2 (hv b hx))
  have hb2 : But (b :: own v) w (w1.setCell ⟨b, i, none⟩ v') := (hb1.mono (fun x hx => .inl (List.mem_cons_of_mem _ hx))).setCell (by simp) _
  have hnew : ∀ x ∈ own v', x ∈ own v ∨ w.heap.size ≤ x := by
    intro x hx
    rcases hloc with e | e
    · exact .inl (mem_own.2 (e ▸ mem_own.1 hx))
    · have := mem_own.1 hx
      rw [e] at this
      simp at this
      right; omega
  refine ⟨hB1, hI.frame hb2 (fun x hx => ?_), hB1.set i v', hb2, ?_, hnew, fun x hx hy => ?_⟩
  · rcases List.mem_cons.1 hx with rfl | hx
    · exact hbn.1
    · exact h.pub_not hI (hv x hx)
  · refine ownsRow_but (S := [b]) hown ((But.refl _ w1).setCell (by simp) v' (p := ⟨b, i, none⟩)) (fun x hx hy => ?_)
    obtain ⟨_, cs, hc⟩ := ownsRow_lt hown hx
    have := List.mem_singleton.1 hy
    subst this
    have := (hB1.inj hc).2
    rcases hT with rfl | rfl <;> exact absurd this (by decide)
  · rcases hnew x hx with h1 | h1
    · exact h.apart x (hv x h1) hy
    · have := hI.foot_lt (x := x) (by simp only [foot, List.mem_cons, List.mem_append]; exact .inr (.inr (.inr (.inr hy))))
      omega

theorem LInv.pushKey {E : Env} {t : PS} {b : Nat} {r : Row} {nv v' : Value} {rows : List Row} {w w1 : World} {o : Obj} {x : ByteArray} (h : LInv E b r nv rows w) (hI : PInv E t nv rows w)
    (hown : w1.ownsRow E.base 9 1 v' (r.n.keys.length + 1) (r.n.keys.map Value.string ++ [.string x])) (hgrow : (w.alloc o).grownBy w1 r.kv.ownBlock) (hloc : r.kv.ownBlock = v'.ownBlock ∨ v'.ownBlock = some (w.alloc o).heap.size) :
    Blk w1 b r.cells.toArray 79 ∧ PInv E t nv rows (w1.setCell ⟨b, 2, none⟩ v') ∧ LInv E b ⟨{ r.n with keys := r.n.keys ++ [x] }, v', r.pv⟩ nv rows (w1.setCell ⟨b, 2, none⟩ v') ∧ But (b :: own r.kv) w (w1.setCell ⟨b, 2, none⟩ v') ∧
      (∀ y ∈ own v', y ∈ own r.kv ∨ w.heap.size ≤ y) := by
  obtain ⟨h1, h2, h3, h4, h5, h6, h7⟩ := LInv.push (i := 2) h hI (.inl rfl) (fun x hx => by simp [Row.pub, hx]) hown hgrow (hloc.imp Eq.symm id)
  refine ⟨h1, h2, ⟨by simpa [Row.cells] using h3, ⟨by simpa using h5, ?_⟩, h.nb, fun y hy => ?_⟩, h4, h6⟩
  · refine ownsRow_but h.ok.2 h4 (fun y hy hz => ?_)
    rcases List.mem_cons.1 hz with rfl | hz
    · exact (h.b_not hI).2 (by simp [Row.pub, hy])
    · obtain ⟨_, cs, hc⟩ := ownsRow_lt h.ok.2 hy
      obtain ⟨_, cs', hc'⟩ := ownsRow_lt h.ok.1 hz
      exact absurd (hc.inj hc').2 (by decide)
  · rcases List.mem_append.1 hy with hy | hy
    · exact h7 y hy
    · exact h.apart y (by simp [Row.pub, hy])

theorem LInv.pushPart {E : Env} {t : PS} {b : Nat} {r : Row} {nv v' : Value} {rows : List Row} {w w1 : World} {o : Obj} {i : Nat} (h : LInv E b r nv rows w) (hI : PInv E t nv rows w)
    (hown : w1.ownsRow E.base 3 1 v' (r.n.parts.length + 1) ((r.n.parts.map fun (i : Nat) => Value.int .i64 (i : Int)) ++ [.int .i64 (i : Int)])) (hgrow : (w.alloc o).grownBy w1 r.pv.ownBlock) (hloc : r.pv.ownBlock = v'.ownBlock ∨ v'.ownBlock = some (w.alloc o).heap.size) :
    Blk w1 b r.cells.toArray 79 ∧ PInv E t nv rows (w1.setCell ⟨b, 3, none⟩ v') ∧ LInv E b ⟨{ r.n with parts := r.n.parts ++ [i] }, r.kv, v'⟩ nv rows (w1.setCell ⟨b, 3, none⟩ v') ∧ But (b :: own r.pv) w (w1.setCell ⟨b, 3, none⟩ v') ∧
      (∀ y ∈ own v', y ∈ own r.pv ∨ w.heap.size ≤ y) := by
  obtain ⟨h1, h2, h3, h4, h5, h6, h7⟩ := LInv.push (i := 3) h hI (.inr rfl) (fun x hx => by simp [Row.pub, hx]) hown hgrow (hloc.imp Eq.symm id)
  refine ⟨h1, h2, ⟨by simpa [Row.cells] using h3, ⟨?_, by simpa using h5⟩, h.nb, fun y hy => ?_⟩, h4, h6⟩
  · refine ownsRow_but h.ok.1 h4 (fun y hy hz => ?_)
    rcases List.mem_cons.1 hz with rfl | hz
    · exact (h.b_not hI).2 (by simp [Row.pub, hy])
    · obtain ⟨_, cs, hc⟩ := ownsRow_lt h.ok.1 hy
      obtain ⟨_, cs', hc'⟩ := ownsRow_lt h.ok.2 hz
      exact absurd (hc.inj hc').2 (by decide)
  · rcases List.mem_append.1 hy with hy | hy
    · exact h.apart y (by simp [Row.pub, hy])
    · exact h7 y hy

end Go.Proofs.YtkflkmmbakccoaaGreatDoor

/- WALKS: package parse: key. -/
namespace Go.Proofs.YtkflkmmbakccoaaGreatDoor
open Go.RowKit Go.Maps

theorem infoStr : (Tryz.prog.info? 9).map (fun i => (i.zero, i.size, i.bytes)) = some (some (.string ⟨#[]⟩), 1, 16) := by kernel_rfl
theorem infoInt : (Tryz.prog.info? 3).map (fun i => (i.zero, i.size, i.bytes)) = some (some (.int .i64 0), 1, 8) := by kernel_rfl
theorem undStrs : Tryz.prog.underlying 46 = some (.slice 9) := by kernel_rfl
theorem undInts : Tryz.prog.underlying 42 = some (.slice 3) := by kernel_rfl

abbrev bp (b : Nat) : Value := .pointer (some ⟨b, 0, none⟩)

set_option maxHeartbeats 800000 in
theorem key_any (E : Env) (hE : EnvOk E) (t : PS) (nv : Value) (rows : List Row) (b : Nat) (r : Row) (w : World) (h : PInv E t nv rows w) (hL : LInv E b r nv rows w) (hkl : r.n.keys.length ≤ t.k) :
    Calls Tryz.prog 144 #[pp E, bp b] w fun e w' => PostL E nv rows b r w (fun ks => { r.n with keys := ks }) (keyM E.s r.n.keys t) e w' := by
  obtain ⟨i0, hi, hz0, hz1, hz2⟩ := info_parts infoStr
  have hs := hE.s
  have hkw := h.wf.k
  go_enter Tryz.func144, Tryz.ntmps144
  go_wp2_with fail
  refine (ppeek_any E hE t nv rows w h).mono ?_
  rintro e w1 ⟨rfl, hI1, hb1⟩
  have hL1 := hL.stays h (hb1.mono (by simp)) (fun _ hx => .inl hx) (fun _ hx => .inl hx)
  have hb1L : But (mayL E b r nv) w w1 := But.toL (hb1.mono (by simp))
  by_cases hk : kindAt E.s (skipBl E.s t.k) = 2 ∨ kindAt E.s (skipBl E.s t.k) = 3
  · have hHM : keyM E.s r.n.keys t = (readM E.s { t with k := skipBl E.s t.k }).bind fun x t1 => if r.n.keys.any (fun y => decide (y = x)) then .bad 8 (skipBl E.s t.k) else (expectM E.s 5 t1).bind fun _ t2 => .ok (r.n.keys ++ [x]) t2 := by
      unfold keyM; rw [if_pos hk]
    have hkk : (kindAt E.s (skipBl E.s t.k) == 2 || kindAt E.s (skipBl E.s t.k) == 3) = true := by simpa using hk
    generalize kindAt E.s (skipBl E.s t.k) = kq at *
    have HHM : Hid _ := hHM
    clear hHM hk
    go_wp2_with (go_at_call 153; refine (beginsText_any _ _).mono ?_; rintro e w' ⟨rfl, rfl⟩)
    refine (pplace_any E _ nv rows _ hI1).mono ?_
    rintro e w1' ⟨rfl, rfl⟩
    go_wp2_with fail
    refine (pread_any E hE _ nv rows _ hI1).mono ?_
    intro e w2 hp
    cases hm : readM E.s { t with k := skipBl E.s t.k } with
    | bad er pl =>
      rw [hm] at hp
      obtain ⟨rfl, hbad⟩ := hp
      have HM : Hid (keyM E.s r.n.keys t = .bad er pl) := by unfold Hid; rw [HHM.out, hm]; rfl
      clear hm
      go_wp2_with fail
      go_ret
      rw [HM.out]
      exact ⟨rfl, BadL.trans hb1L (fun _ hx => .inl hx) (fun _ hx => .inl hx) hbad.toL⟩
    | ok x t1 =>
      rw [hm] at hp
      obtain ⟨rfl, nv2, rows2, hI2, hb2, ho2, hq2⟩ := hp
      have hL2 := hL1.stays hI1 hb2 ho2 hq2
      have hb2L : But (mayL E b r nv) w w2 := hb1L.transL (r1 := r) hb2.toL (fun _ hx => .inl hx) (fun _ hx => .inl hx)
      have ho : ∀ y ∈ own nv2, y ∈ own nv ∨ w.heap.size ≤ y := fun y hy => (ho2 y hy).imp id (fun h1 => Nat.le_trans hb1.size h1)
      have hq : ∀ y ∈ pub rows2, y ∈ pub rows ∨ w.heap.size ≤ y := fun y hy => (hq2 y hy).imp id (fun h1 => Nat.le_trans hb1.size h1)
      have ck : w2.cell? ⟨b, 2, none⟩ = some r.kv := hL2.blk.cell rfl
      by_cases hin : r.n.keys.any (fun y => decide (y = x)) = true
      · have HM : Hid (keyM E.s r.n.keys t = .bad 8 (skipBl E.s t.k)) := by unfold Hid; rw [HHM.out, hm]; simp only [Res.bind_ok]; rw [if_pos hin]
        clear hm
        go_wp2_with fail
        refine (contains_any r.n.keys x r.kv E.base w2 hL2.ok.1 (by omega)).mono ?_
        rintro e w3 ⟨rfl, rfl⟩
        go_wp2_with fail
        refine (fail_any E _ _ rows2 _ hI2 8 (skipBl E.s t.k)).mono ?_
        rintro e w4 ⟨rfl, hbad⟩
        go_wp2_with fail
        go_ret
        rw [HM.out]
        exact ⟨rfl, BadL.trans hb2L ho (fun _ hx => .inl hx) hbad.toL⟩
      · have hin' : r.n.keys.any (fun y => decide (y = x)) = false := (Bool.not_eq_true _).mp hin
        have HM2 : Hid (keyM E.s r.n.keys t = (expectM E.s 5 t1).bind fun _ t2 => .ok (r.n.keys ++ [x]) t2) := by unfold Hid; rw [HHM.out, hm]; simp only [Res.bind_ok]; rw [if_neg hin]
        clear hm hin
        go_wp2_with fail
        refine (contains_any r.n.keys x r.kv E.base w2 hL2.ok.1 (by omega)).mono ?_
        rintro e w3 ⟨rfl, rfl⟩
        have hbase := hI2.base
        go_wp2_with (at_builtin; refine wpList_append_own_at _ rfl _ _ 46 rfl E.base 9 i0 (.string ⟨#[]⟩) 1 16 undStrs hi hz0 hz1 hz2 rfl (by decide) _ _ _ rfl (hL2.ok.1.alloc _) ⟨w3.heap.size, 0, none⟩ 1 1 [.string x] rfl rfl ?c1 ?c2 ?c3 ?c4 ?c5 ?_)
        case c1 => exact cells_new w3 _ _ _ rfl
        case c2 => intro u hu; simp at hu; subst hu; rfl
        case c3 => unfold maxLen; omega
        case c4 => omega
        case c5 => simp; omega
        intro v' w4 hown hgrow _ hloc
        obtain ⟨hB4, hI5, hL5, hb5, hv5⟩ := hL2.pushKey hI2 hown hgrow (hloc.imp Eq.symm (fun e => by rw [e]; simp))
        have hshape : ∃ a n c, v' = .slice a n c := by
          rcases hown.2 with ⟨e, _⟩ | ⟨g, cap, cur, e, _⟩
          · exact ⟨_, _, _, e⟩
          · exact ⟨_, _, _, e⟩
        obtain ⟨a, n, c, rfl⟩ := hshape
        have ck4 : w4.cell? ⟨b, 2, none⟩ = some r.kv := hB4.cell rfl
        have fk4 : w4.frozen? ⟨b, 2, none⟩ = false := hB4.free 2
        clear hown hgrow hloc hB4 ck
        go_wp2_with fail
        refine (expect_any E hE t1 nv2 rows2 _ hI5 5 (by omega)).mono ?_
        intro e w6 hp6
        have hr5 : ∀ y ∈ own (Value.slice a n c) ++ own r.pv, y ∈ r.pub ∨ w.heap.size ≤ y := fun y hy => by
          rcases List.mem_append.1 hy with hy | hy
          · rcases hv5 y hy with h1 | h1
            · exact .inl (by simp [Row.pub, h1])
            · exact .inr (Nat.le_trans hb2L.size h1)
          · exact .inl (by simp [Row.pub, hy])
        have hb5L : But (mayL E b r nv) w (w4.setCell ⟨b, 2, none⟩ (.slice a n c)) := hb2L.trans hb5 (fun y hy => .inl (by
          rw [mayL_mem]
          rcases List.mem_cons.1 hy with hy | hy
          · exact .inr (.inr (.inr (.inl hy)))
          · exact .inr (.inr (.inr (.inr (.inr (by simp [Row.pub, hy])))))))
        cases hx : expectM E.s 5 t1 with
        | bad er pl =>
          rw [hx] at hp6
          obtain ⟨rfl, hbad⟩ := hp6
          have HM : Hid (keyM E.s r.n.keys t = .bad er pl) := by unfold Hid; rw [HM2.out, hx]; rfl
          clear hx
          go_wp2_with fail
          go_ret
          rw [HM.out]
          exact ⟨rfl, BadL.trans (r1 := ⟨{ r.n with keys := r.n.keys ++ [x] }, .slice a n c, r.pv⟩) hb5L ho hr5 hbad.toL⟩
        | ok u t2 =>
          rw [hx] at hp6
          obtain ⟨rfl, nv6, rows6, hI6, hb6, ho6, hq6⟩ := hp6
          have HM : Hid (keyM E.s r.n.keys t = .ok (r.n.keys ++ [x]) t2) := by unfold Hid; rw [HM2.out, hx]; rfl
          clear hx
          have hL6 := hL5.stays hI5 hb6 ho6 hq6
          go_wp2_with fail
          go_ret
          rw [HM.out]
          exact ⟨rfl, GoodL.trans (r1 := ⟨{ r.n with keys := r.n.keys ++ [x] }, .slice a n c, r.pv⟩) hb5L ho hq hr5 ⟨nv6, rows6, _, _, hI6, hL6, hb6.toL, ho6, hq6, fun y hy => .inl hy⟩⟩
  · have HM : Hid (keyM E.s r.n.keys t = .bad 3 (skipBl E.s t.k)) := by unfold Hid keyM; rw [if_neg hk]
    have hkk : (kindAt E.s (skipBl E.s t.k) == 2 || kindAt E.s (skipBl E.s t.k) == 3) = false := by simpa using hk
    generalize kindAt E.s (skipBl E.s t.k) = kq at *
    clear hk
    go_wp2_with (go_at_call 153; refine (beginsText_any _ _).mono ?_; rintro e w' ⟨rfl, rfl⟩)
    refine (wrongByte_any E _ nv rows _ hI1).mono ?_
    rintro e w2 ⟨rfl, hb2⟩
    go_wp2_with fail
    go_ret
    rw [HM.out]
    exact ⟨rfl, BadL.trans hb1L (fun _ hx => .inl hx) (fun _ hx => .inl hx) hb2.toL⟩

end Go.Proofs.YtkflkmmbakccoaaGreatDoor

/- THE PARSER IN MEMORY: a node's end. -/
namespace Go.Proofs.YtkflkmmbakccoaaGreatDoor
open Go.RowKit Go.Maps

theorem flat_ext {l : List Value} {rows : List Row} (hl : l.length = rows.length * 6) (h : ∀ i j (hi : i < rows.length), j < 6 → l[i * 6 + j]? = (rows[i]).cells[j]?) : l = rows.flatMap Row.cells := by
  apply List.ext_getElem?
  intro q
  by_cases hq : q < rows.length * 6
  · have e : q = q / 6 * 6 + q % 6 := by omega
    rw [e, h (q / 6) (q % 6) (by omega) (by omega), flat_at rows _ _ (by omega) (by omega)]
  · rw [List.getElem?_eq_none (by omega), List.getElem?_eq_none (by rw [flat_len]; omega)]

/-- Six cells, one behind the other. -/
def setSix (w : World) (nb o : Nat) (r : Row) : World :=
  (((((w.setCell ⟨nb, o, none⟩ (.int .i64 (r.n.kind : Int))).setCell ⟨nb, o + 1, none⟩ (.string r.n.text)).setCell ⟨nb, o + 2, none⟩ r.kv).setCell ⟨nb, o + 3, none⟩ r.pv).setCell ⟨nb, o + 4, none⟩ (.int .i64 (r.n.high : Int))).setCell ⟨nb, o + 5, none⟩ (.int .i64 (r.n.heavy : Int))

theorem setSix_but {w : World} {nb o : Nat} {r : Row} : But [nb] w (setSix w nb o r) :=
  ((((((But.refl _ w).setCell (by simp) _).setCell (by simp) _).setCell (by simp) _).setCell (by simp) _).setCell (by simp) _).setCell (by simp) _

theorem setSix_owns {w : World} {base nb cap : Nat} {rows : List Row} {id : Nat} {r : Row} (h : w.ownsRow base 79 6 (.slice (some ⟨nb, 0, none⟩) rows.length cap) rows.length (rows.flatMap Row.cells)) (hid : id < rows.length) :
    (setSix w nb (id * 6) r).ownsRow base 79 6 (.slice (some ⟨nb, 0, none⟩) rows.length cap) rows.length ((rows.set id r).flatMap Row.cells) := by
  rcases h.2 with ⟨e, _⟩ | ⟨g, cap', cur, e, hb, hg, hc, hm, hs, ht⟩
  · simp at e
  · obtain ⟨rfl, rfl⟩ : nb = g ∧ cap = cap' := by simpa using e
    refine ⟨by rw [flat_len]; simp, .inr ⟨nb, cap, (((((cur.setIfInBounds (id * 6) (.int .i64 (r.n.kind : Int))).setIfInBounds (id * 6 + 1) (.string r.n.text)).setIfInBounds (id * 6 + 2) r.kv).setIfInBounds (id * 6 + 3) r.pv).setIfInBounds (id * 6 + 4) (.int .i64 (r.n.high : Int))).setIfInBounds (id * 6 + 5) (.int .i64 (r.n.heavy : Int)), rfl, hb, ?_, hc, hm, by simpa using hs, ?_⟩⟩
    · exact ((((((Blk.set (w := w) (cs := cur) (T := 79) hg _ _).set _ _).set _ _).set _ _).set _ _).set _ _)
    · apply flat_ext
      · simp; omega
      · intro i j hi hj
        have hi' : i < rows.length := by simpa using hi
        rw [List.getElem?_take, if_pos (by omega), Array.getElem?_toList]
        simp only [Array.getElem?_setIfInBounds, Array.size_setIfInBounds, List.getElem_set]
        have h1 := flat_at rows i j hi' hj
        rw [← ht, List.getElem?_take, if_pos (by omega), Array.getElem?_toList] at h1
        by_cases hii : id = i
        · subst hii
          have hsz : id * 6 + 5 < cur.size := by omega
          rw [if_pos rfl]
          match j, hj with
          | 0, _ => simp [Row.cells]; omega
          | 1, _ => simp [Row.cells]; omega
          | 2, _ => simp [Row.cells]; omega
          | 3, _ => simp [Row.cells]; omega
          | 4, _ => simp [Row.cells]; omega
          | 5, _ => simp [Row.cells]; omega
        · rw [if_neg hii, if_neg (by omega), if_neg (by omega), if_neg (by omega), if_neg (by omega), if_neg (by omega), if_neg (by omega)]
          exact h1

theorem PInv.ended {E : Env} {t : PS} {nb cap id : Nat} {rows : List Row} {w : World} {r : Row} (h : PInv E t (.slice (some ⟨nb, 0, none⟩) rows.length cap) rows w) (hid : id < rows.length) (hr : RowOk w E.base r) {n : NodeV} (hn : r.n = measured t.nodes n) (hwf : WF E.s (endM id n t)) :
    PInv E (endM id n t) (.slice (some ⟨nb, 0, none⟩) rows.length cap) (rows.set id r) (setSix w nb (id * 6) r) := by
  have hb : But [nb] w (setSix w nb (id * 6) r) := setSix_but
  have hnb : nb ∈ own (.slice (some ⟨nb, 0, none⟩) rows.length cap) := by simp [own]
  have hnot := h.own_not hnb
  have hn1 : ∀ x ∈ E.p :: E.g :: E.m :: pub rows, x ∉ [nb] := fun x hx hy => by
    have := List.mem_singleton.1 hy
    subst this
    exact hnot hx
  have hrp : ∀ x ∈ r.pub, x ∉ [nb] := fun x hx hy => by
    have := List.mem_singleton.1 hy
    subst this
    obtain ⟨cs, hc⟩ := h.own_block hnb
    rcases List.mem_append.1 hx with hx | hx
    · obtain ⟨_, cs', hc'⟩ := ownsRow_lt hr.1 hx
      exact absurd (hc.inj hc').2 (by decide)
    · obtain ⟨_, cs', hc'⟩ := ownsRow_lt hr.2 hx
      exact absurd (hc.inj hc').2 (by decide)
  refine ⟨hb.blk h.par (hn1 _ (by simp)), hb.blk h.gr (hn1 _ (by simp)), ?_, ?_, ?_, ?_, hwf, Nat.le_trans h.base hb.size⟩
  · have := setSix_owns (r := r) h.nodes hid
    simpa using this
  · show t.nodes.set id (measured t.nodes n) = (rows.set id r).map Row.n
    rw [List.map_set, ← h.same, hn]
  · intro q hq
    rcases List.mem_or_eq_of_mem_set hq with hq | rfl
    · refine (h.rows q hq).but hb (fun x hx => hn1 x ?_)
      simp only [List.mem_cons, pub, List.mem_flatMap]
      exact .inr (.inr (.inr ⟨q, hq, hx⟩))
    · exact hr.but hb hrp
  · obtain ⟨D, h1, h2⟩ := h.map
    exact ⟨D, ownsMap_but h1 hb (hn1 _ (by simp)), h2⟩

end Go.Proofs.YtkflkmmbakccoaaGreatDoor
