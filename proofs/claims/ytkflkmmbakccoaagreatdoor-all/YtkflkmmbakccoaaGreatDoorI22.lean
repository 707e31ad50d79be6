/- PARTS: RI7. -/
import Derived.Test.YtkflkmmbakccoaaGreatDoorI21

/- THE READER OF grafterref: what stands in brackets, from behind the opening one on. -/
namespace Go.Proofs.YtkflkmmbakccoaaGreatDoor
open Go.RowKit Go.Maps

/-- The byte that closes. -/
def lastB (m : Bool) : Int := if m then 125 else 93
/-- Its kind. -/
def lastK (m : Bool) : Int := if m then 12 else 10

theorem lastB_kind (m : Bool) (x : Int) : kindB x = lastK m ↔ x = lastB m := by
  cases m with
  | true => exact (kindB_tab x).2.2.2.2.2.2.2.2.2.1
  | false => exact (kindB_tab x).2.2.2.2.2.2.2.1

/-- Brackets, from behind the opening one on. -/
def insideM (s : ByteArray) (fl : PS → Res Nat) (isMap : Bool) (t : PS) : Res (List ByteArray × List Nat) :=
  if kindAt s (skipBl s t.k) = lastK isMap then .ok ([], []) { t with k := skipBl s t.k + 1 } else inLoop s fl isMap (lastK isMap) (s.size + 1) [] [] { t with k := skipBl s t.k }

theorem bracketsM_inside (s : ByteArray) (fl : PS → Res Nat) (isMap : Bool) (t : PS) : bracketsM s fl isMap (lastK isMap) t = insideM s fl isMap { t with k := t.k + 1 } := rfl

/-- A round behind the key. -/
def inTail (s : ByteArray) (fl : PS → Res Nat) (isMap : Bool) (m : Nat) (keys : List ByteArray) (parts : List Nat) (t : PS) : Res (List ByteArray × List Nat) :=
  (fl t).bind fun x t2 =>
    if kindAt s (skipBl s t2.k) = 6 then inLoop s fl isMap (lastK isMap) m keys (parts ++ [x]) { t2 with k := skipBl s t2.k + 1 }
    else (expectM s (lastK isMap) { t2 with k := skipBl s t2.k }).bind fun _ t3 => .ok (keys, parts ++ [x]) t3

theorem inLoop_tail (s : ByteArray) (fl : PS → Res Nat) (isMap : Bool) (m : Nat) (keys : List ByteArray) (parts : List Nat) (t : PS) :
    inLoop s fl isMap (lastK isMap) (m + 1) keys parts t = (if isMap then keyM s keys t else .ok keys t).bind fun keys1 t1 => inTail s fl isMap m keys1 parts t1 := rfl

/-- A round behind the part. -/
def inRest (s : ByteArray) (fl : PS → Res Nat) (isMap : Bool) (m : Nat) (keys : List ByteArray) (parts : List Nat) (t2 : PS) : Res (List ByteArray × List Nat) :=
  if kindAt s (skipBl s t2.k) = 6 then inLoop s fl isMap (lastK isMap) m keys parts { t2 with k := skipBl s t2.k + 1 }
  else if kindAt s (skipBl s t2.k) = lastK isMap then .ok (keys, parts) { t2 with k := skipBl s t2.k + 1 } else .bad 3 (skipBl s t2.k)

theorem inTail_ok {s : ByteArray} {fl : PS → Res Nat} {isMap : Bool} {m : Nat} {keys : List ByteArray} {parts : List Nat} {t t2 : PS} {x : Nat} (h : fl t = .ok x t2) : inTail s fl isMap m keys parts t = inRest s fl isMap m keys (parts ++ [x]) t2 := by
  unfold inTail inRest
  rw [h]
  simp only [Res.bind_ok]
  split
  · rfl
  · unfold expectM
    simp only [skipBl_idem]
    split <;> rfl

theorem inTail_bad {s : ByteArray} {fl : PS → Res Nat} {isMap : Bool} {m : Nat} {keys : List ByteArray} {parts : List Nat} {t : PS} {er pl : Nat} (h : fl t = .bad er pl) : inTail s fl isMap m keys parts t = .bad er pl := by
  unfold inTail
  rw [h]
  rfl

/-- A way to read a flow of a level, as a call of grafterref. -/
def RFlowSaid (R : REnv) (lv : Int) (fl : PS → Res Nat) : Prop :=
  ∀ ov K t w, RGood R ov K t w → Calls Tryz.prog 107 #[.pointer (some ⟨R.b, 0, none⟩), .int .i64 lv] w fun e w' => RPostN R ov K t w (fl t) e w'

/-- What the reading of brackets leaves. -/
def RPostI (R : REnv) (ov : Over) (K i kb : Nat) (n : NodeV) (t : PS) (w : World) (r : Res (List ByteArray × List Nat)) (e : Ending) (w' : World) : Prop :=
  e = .returned (.tuple #[]) ∧ Below R.base w w' ∧ match r with
  | .ok p t' => RGood R (ov.put i (kb, { n with keys := p.1, parts := p.2 })) K t' w'
  | .bad er pl => RBad R ov t er pl w'

/-- Where a round stands, ahead of its part. -/
def InMid (R : REnv) (ov : Over) (K i kb : Nat) (n : NodeV) (fl : PS → Res Nat) (isMap : Bool) (m : Nat) (parts : List Nat) (t : PS) (res : Res (List ByteArray × List Nat)) (w wc : World) : Prop :=
  Below R.base w wc ∧ ((∃ er pl, res = .bad er pl ∧ RBad R ov t er pl wc) ∨ (∃ keys2 t2, res = inTail R.s fl isMap m keys2 parts t2 ∧ RGood R (ov.put i (kb, { n with keys := keys2, parts := parts })) K t2 wc ∧ keys2.length ≤ t2.k ∧ parts.length ≤ t2.k ∧ R.s.size < m + 1 + t2.k ∧ Step R.s none t t2))

/-- The Reader behind a part that was read, or was not: all that the append looks at. -/
structure Partly (R : REnv) (i kb : Nat) (n : NodeV) (K k an er pl nb cap : Nat) (mv : Value) (rows : List RRow) (names : List (ByteArray × Nat)) (w : World) : Prop where
  mem : RMem R K k an er pl (.slice (some ⟨nb, 0, none⟩) rows.length cap) mv rows names w
  hi : i < rows.length
  kb : (rows[i]).kb = kb
  n : (rows[i]).n = n

theorem RGood.partly {R : REnv} {ov : Over} {K i kb : Nat} {n : NodeV} {t : PS} {w : World} (h : RGood R (ov.put i (kb, n)) K t w) :
    ∃ nb cap mv rows names, Partly R i kb n K t.k t.anchors 0 0 nb cap mv rows names w ∧ RSt R.s (ov.put i (kb, n)) t rows names t.anchors ∧ InLine R K t := by
  obtain ⟨nv, mv, rows, names, hM, hS, hl⟩ := h
  obtain ⟨hi, h1, h2⟩ := hS.rowAt
  obtain ⟨nb, cap, rfl, _, _⟩ := hM.node i hi
  exact ⟨nb, cap, mv, rows, names, ⟨hM, hi, h1, h2⟩, hS, hl⟩

/-- What is kept of an error, with the open node's row at hand. -/
def RBadAt (ov : Over) (t : PS) (er an : Nat) (rows : List RRow) (names : List (ByteArray × Nat)) : Prop :=
  er ≠ 0 ∧ t.nodes.length ≤ rows.length ∧ (∀ j p, ov j = some p → ∃ r, rows[j]? = some r ∧ r.kb = p.1 ∧ r.n = p.2) ∧ names.length + t.anchors ≤ an + t.names.length ∧ an ≤ 101

theorem RBad.partly {R : REnv} {ov : Over} {i kb : Nat} {n : NodeV} {t : PS} {er pl : Nat} {w : World} (h : RBad R (ov.put i (kb, n)) t er pl w) (hov : ov i = none) :
    ∃ K k an nb cap mv rows names, Partly R i kb n K k an er pl nb cap mv rows names w ∧ RBadAt ov t er an rows names := by
  obtain ⟨he, K, k, an, nv, mv, rows, names, hM, h1, h2, h3, h4⟩ := h
  obtain ⟨r, hr, e1, e2⟩ := h2 i (kb, n) (ov.put_self i _)
  obtain ⟨hi, e⟩ := List.getElem?_eq_some_iff.1 hr
  obtain ⟨nb, cap, rfl, _, _⟩ := hM.node i hi
  refine ⟨K, k, an, nb, cap, mv, rows, names, ⟨hM, hi, by rw [e]; exact e1, by rw [e]; exact e2⟩, he, h1, fun j p hp => h2 j p ?_, h3, h4⟩
  rw [Over.put_ne ov _ (fun e => by rw [e, hov] at hp; cases hp)]
  exact hp

theorem RBadAt.from {ov : Over} {t t1 : PS} {er an : Nat} {rows : List RRow} {names : List (ByteArray × Nat)} (h : RBadAt ov t1 er an rows names) (h1 : t.nodes.length ≤ t1.nodes.length) (h2 : t1.names.length + t.anchors ≤ t1.anchors + t.names.length) : RBadAt ov t er an rows names := by
  obtain ⟨he, h3, h4, h5, h6⟩ := h
  exact ⟨he, by omega, h4, by omega, h6⟩

theorem RBadAt.set {R : REnv} {ov : Over} {t : PS} {K k er pl an i : Nat} {nv mv : Value} {rows : List RRow} {names : List (ByteArray × Nat)} {w : World} {r' : RRow} (h : RBadAt ov t er an rows names) (hov : ov i = none) (hM : RMem R K k an er pl nv mv (rows.set i r') names w) : RBad R ov t er pl w := by
  obtain ⟨he, h1, h2, h3, h4⟩ := h
  refine ⟨he, K, k, an, nv, mv, _, names, hM, by simpa using h1, fun j p hp => ?_, h3, h4⟩
  obtain ⟨r, hr, e1, e2⟩ := h2 j p hp
  have hne : i ≠ j := fun e => by rw [← e, hov] at hp; cases hp
  exact ⟨r, by rw [List.getElem?_set, if_neg hne]; exact hr, e1, e2⟩

end Go.Proofs.YtkflkmmbakccoaaGreatDoor
