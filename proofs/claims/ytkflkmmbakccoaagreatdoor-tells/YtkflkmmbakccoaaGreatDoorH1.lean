/- PARTS: Mod, Mod2. -/


/- THE PLAIN FUNCTIONS: what the reader of a text computes, byte by byte. No program is named here. -/
namespace Go.Proofs.YtkflkmmbakccoaaGreatDoor

/-- May a byte stand in a word? -/
def isWB (x : Int) : Bool := (decide (97 ≤ x) && decide (x ≤ 122)) || (decide (65 ≤ x) && decide (x ≤ 90)) || (decide (48 ≤ x) && decide (x ≤ 57)) || x == 95 || x == 46

/-- The kind of token that begins with a byte. -/
def kindB (x : Int) : Int :=
  if (x == 10) then 1 else if (x == 34) then 3 else if (x == 45) then 4 else if (x == 58) then 5 else if (x == 44) then 6 else if (x == 42) then 7 else if (x == 38) then 8
  else if (x == 91) then 9 else if (x == 93) then 10 else if (x == 123) then 11 else if (x == 125) then 12 else if isWB x then 2 else 13

/-- The byte at a place; -1 behind the end. -/
def byteAt (s : ByteArray) (k : Nat) : Int := if h : k < s.size then (s[k].toNat : Int) else -1

theorem byteAt_lt (s : ByteArray) (k : Nat) (h : k < s.size) : byteAt s k = (s[k].toNat : Int) := by simp [byteAt, h]
theorem byteAt_ge (s : ByteArray) (k : Nat) (h : ¬ k < s.size) : byteAt s k = -1 := by simp [byteAt, h]
theorem byteAt_bd (s : ByteArray) (k : Nat) : -1 ≤ byteAt s k ∧ byteAt s k ≤ 255 := by
  unfold byteAt; split
  · have := s[k].toNat_lt; omega
  · omega

/-- The first place from k on that holds no blank, or the end. -/
def skipBl (s : ByteArray) (k : Nat) : Nat := if h : k < s.size then (if byteAt s k = 32 then skipBl s (k + 1) else k) else k
termination_by s.size - k

theorem skipBl_blank (s : ByteArray) (k : Nat) (h : k < s.size) (hb : byteAt s k = 32) : skipBl s k = skipBl s (k + 1) := by
  rw [skipBl]; simp [h, hb]
theorem skipBl_stop (s : ByteArray) (k : Nat) (h : k < s.size) (hb : byteAt s k ≠ 32) : skipBl s k = k := by
  rw [skipBl]; simp [h, hb]
theorem skipBl_end (s : ByteArray) (k : Nat) (h : ¬ k < s.size) : skipBl s k = k := by
  rw [skipBl]; simp [h]

theorem skipBl_le (s : ByteArray) (k : Nat) (h : k ≤ s.size) : skipBl s k ≤ s.size := by
  rw [skipBl]; split
  · split
    · exact skipBl_le s (k + 1) (by omega)
    · exact h
  · exact h
termination_by s.size - k

/-- What kind of token begins at a place. -/
def kindAt (s : ByteArray) (q : Nat) : Int := if q < s.size then kindB (byteAt s q) else 0

/-- To the first byte of the next line that says something, or to the end: by how many blanks it stands in, and the place. -/
def nlGo (s : ByteArray) (start k : Nat) : Nat × Nat :=
  if _h : k < s.size then (if byteAt s k = 10 then nlGo s (k + 1) (k + 1) else if byteAt s k = 32 then nlGo s start (k + 1) else (k - start, k)) else (k - start, k)
termination_by s.size - k

theorem nlGo_nl (s : ByteArray) (start k : Nat) (h : k < s.size) (hb : byteAt s k = 10) : nlGo s start k = nlGo s (k + 1) (k + 1) := by
  rw [nlGo]; simp [h, hb]
theorem nlGo_bl (s : ByteArray) (start k : Nat) (h : k < s.size) (hb : byteAt s k = 32) : nlGo s start k = nlGo s start (k + 1) := by
  rw [nlGo]; simp [h, hb]
theorem nlGo_stop (s : ByteArray) (start k : Nat) (h : k < s.size) (hb : byteAt s k ≠ 10) (hb' : byteAt s k ≠ 32) : nlGo s start k = (k - start, k) := by
  rw [nlGo]; simp [h, hb, hb']
theorem nlGo_end (s : ByteArray) (start k : Nat) (h : ¬ k < s.size) : nlGo s start k = (k - start, k) := by
  rw [nlGo]; simp [h]

/-- Where the bytes of a word end. -/
def wEnd (s : ByteArray) (k : Nat) : Nat := if h : k < s.size then (if isWB (byteAt s k) = true then wEnd s (k + 1) else k) else k
termination_by s.size - k

theorem wEnd_go (s : ByteArray) (k : Nat) (h : k < s.size) (hb : isWB (byteAt s k) = true) : wEnd s k = wEnd s (k + 1) := by
  rw [wEnd]; simp [h, hb]
theorem wEnd_stop (s : ByteArray) (k : Nat) (h : k < s.size) (hb : isWB (byteAt s k) = false) : wEnd s k = k := by
  rw [wEnd]; simp [h, hb]
theorem wEnd_end (s : ByteArray) (k : Nat) (h : ¬ k < s.size) : wEnd s k = k := by
  rw [wEnd]; simp [h]
theorem wEnd_ge (s : ByteArray) (k : Nat) : k ≤ wEnd s k := by
  rw [wEnd]; split
  · split
    · have := wEnd_ge s (k + 1); omega
    · omega
  · omega
termination_by s.size - k

/-- A word from k on: its text, whether it is one, where the reading ends. -/
def rdWord (s : ByteArray) (k : Nat) : ByteArray × Bool × Nat :=
  if 12 < wEnd s k - k then (ByteArray.empty, false, k + 12) else (s.extract k (wEnd s k), decide (k < wEnd s k), wEnd s k)

/-- Where a string's bytes end: at a quote, a newline or the text's end. -/
def qEnd (s : ByteArray) (k : Nat) : Nat := if h : k < s.size then (if byteAt s k = 10 ∨ byteAt s k = 34 then k else qEnd s (k + 1)) else k
termination_by s.size - k

theorem qEnd_go (s : ByteArray) (k : Nat) (h : k < s.size) (hb : byteAt s k ≠ 10) (hb' : byteAt s k ≠ 34) : qEnd s k = qEnd s (k + 1) := by
  rw [qEnd]; simp [h, hb, hb']
theorem qEnd_stop (s : ByteArray) (k : Nat) (h : k < s.size) (hb : byteAt s k = 10 ∨ byteAt s k = 34) : qEnd s k = k := by
  rw [qEnd]; simp [h, hb]
theorem qEnd_end (s : ByteArray) (k : Nat) (h : ¬ k < s.size) : qEnd s k = k := by
  rw [qEnd]; simp [h]
theorem qEnd_ge (s : ByteArray) (k : Nat) : k ≤ qEnd s k := by
  rw [qEnd]; split
  · split
    · omega
    · have := qEnd_ge s (k + 1); omega
  · omega
termination_by s.size - k

/-- A string whose quote stands at k - 1. -/
def rdStr (s : ByteArray) (k : Nat) : ByteArray × Bool × Nat :=
  if 20 < qEnd s k - k then (ByteArray.empty, false, k + 20) else if byteAt s (qEnd s k) = 34 then (s.extract k (qEnd s k), true, qEnd s k + 1) else (ByteArray.empty, false, qEnd s k)

/-- A word or a string from q on. -/
def rdAny (s : ByteArray) (q : Nat) : ByteArray × Bool × Nat := if kindAt s q = 3 then rdStr s (q + 1) else rdWord s q

end Go.Proofs.YtkflkmmbakccoaaGreatDoor

/- THE PLAIN FUNCTIONS: the reader of a text, whole: flows, blocks, names. No program is named here. -/
namespace Go.Proofs.YtkflkmmbakccoaaGreatDoor

/-- A node: its kind (0 a text, 1 a list, 2 a map), its text, keys, the nodes in it, how high and heavy. -/
structure NodeV where
  kind : Nat
  text : ByteArray
  keys : List ByteArray
  parts : List Nat
  high : Nat
  heavy : Nat

/-- A node that is still being read. -/
def NodeV.blank : NodeV := ⟨0, ByteArray.empty, [], [], 0, 0⟩

/-- A budget. -/
structure Bud where
  depth : Int
  nodes : Int
  anchors : Int
  weight : Int

/-- Where the reading stands. -/
structure PS where
  k : Nat
  ind : Nat
  nodes : List NodeV
  anchors : Nat
  names : List (ByteArray × Nat)

/-- What a piece of reading comes to. -/
inductive Res (α : Type) where
  | ok (a : α) (t : PS)
  | bad (er : Nat) (pl : Nat)

def Res.bind {α β : Type} (r : Res α) (f : α → PS → Res β) : Res β :=
  match r with
  | .ok a t => f a t
  | .bad e p => .bad e p

@[simp] theorem Res.bind_ok {α β : Type} (a : α) (t : PS) (f : α → PS → Res β) : (Res.ok a t).bind f = f a t := rfl
@[simp] theorem Res.bind_bad {α β : Type} (e p : Nat) (f : α → PS → Res β) : (Res.bad (α := α) e p).bind f = .bad e p := rfl

section
variable (s : ByteArray) (B : Bud)

def PS.skip (t : PS) : PS := { t with k := skipBl s t.k }
def PS.kind (t : PS) : Int := kindAt s t.k

/-- A node begins. -/
def beginM (lv : Int) (t : PS) : Res Nat :=
  if B.depth < lv then .bad 4 t.k else if B.nodes ≤ (t.nodes.length : Int) then .bad 5 t.k else .ok t.nodes.length { t with nodes := t.nodes ++ [NodeV.blank] }

/-- A word or a string. -/
def readM (t : PS) : Res ByteArray :=
  if (rdAny s (skipBl s t.k)).2.1 then .ok (rdAny s (skipBl s t.k)).1 { t with k := (rdAny s (skipBl s t.k)).2.2 } else .bad 3 (rdAny s (skipBl s t.k)).2.2

/-- A word. -/
def wordM (t : PS) : Res ByteArray := if kindAt s (skipBl s t.k) = 2 then readM s { t with k := skipBl s t.k } else .bad 3 (skipBl s t.k)

/-- A token of one byte. -/
def expectM (kd : Int) (t : PS) : Res Unit := if kindAt s (skipBl s t.k) = kd then .ok () { t with k := skipBl s t.k + 1 } else .bad 3 (skipBl s t.k)

/-- A key and its colon; the map's keys. -/
def keyM (keys : List ByteArray) (t : PS) : Res (List ByteArray) :=
  if kindAt s (skipBl s t.k) = 2 ∨ kindAt s (skipBl s t.k) = 3 then
    (readM s { t with k := skipBl s t.k }).bind fun x t1 =>
      if keys.any (fun y => decide (y = x)) then .bad 8 (skipBl s t.k) else (expectM s 5 t1).bind fun _ t2 => .ok (keys ++ [x]) t2
  else .bad 3 (skipBl s t.k)

/-- The node that has a name. -/
def lookM (names : List (ByteArray × Nat)) (x : ByteArray) : Option Nat := (names.find? (fun p => decide (p.1 = x))).map (·.2)

/-- How high a node of the list is. -/
def highOf (nodes : List NodeV) (i : Nat) : Nat := (nodes.getD i NodeV.blank).high
def heavyOf (nodes : List NodeV) (i : Nat) : Nat := (nodes.getD i NodeV.blank).heavy

/-- A star and a word, the reading standing at the star. -/
def aliasM (lv : Int) (t : PS) : Res Nat :=
  (wordM s { t with k := t.k + 1 }).bind fun x t1 =>
    match lookM t1.names x with
    | none => .bad 7 t.k
    | some i => if B.depth < lv + (highOf t1.nodes i : Int) - 1 then .bad 4 t.k else .ok i t1

/-- A node's end: how high, how heavy. -/
def measured (nodes : List NodeV) (n : NodeV) : NodeV :=
  { n with high := (n.parts.foldl (fun a i => max a (highOf nodes i)) 0) + 1, heavy := n.parts.foldl (fun a i => min (a + heavyOf nodes i) 1000000000001) 1 }

def endM (id : Nat) (n : NodeV) (t : PS) : PS := { t with nodes := t.nodes.set id (measured t.nodes n) }

/-- A node that begins with an ampersand, at which the reading stands. -/
def namedM (lv : Int) (rest : Nat → PS → Res Unit) (t : PS) : Res Nat :=
  (beginM B lv t).bind fun id t1 =>
    if B.anchors ≤ (t1.anchors : Int) then .bad 6 t1.k
    else (wordM s { t1 with anchors := t1.anchors + 1, k := t1.k + 1 }).bind fun x t2 =>
      (rest id t2).bind fun _ t3 => .ok id { t3 with names := (x, id) :: t3.names }

/-- What stands in one line; 'val' reads the value. -/
def flowS (val : Nat → Int → PS → Res Unit) (lv : Int) (t : PS) : Res Nat :=
  let u := { t with k := skipBl s t.k }
  if kindAt s u.k = 7 then aliasM s B lv u
  else if kindAt s u.k = 8 then namedM s B lv (fun id v => val id lv v) u
  else if kindAt s u.k = 2 ∨ kindAt s u.k = 3 ∨ kindAt s u.k = 9 ∨ kindAt s u.k = 11 then (beginM B lv u).bind fun id t1 => (val id lv t1).bind fun _ t2 => .ok id t2
  else .bad 3 u.k

/-- The rounds inside brackets. -/
def inLoop (fl : PS → Res Nat) (isMap : Bool) (closing : Int) : Nat → List ByteArray → List Nat → PS → Res (List ByteArray × List Nat)
  | 0, _, _, _ => .bad 0 0
  | n + 1, keys, parts, t =>
    (if isMap then keyM s keys t else .ok keys t).bind fun keys1 t1 =>
      (fl t1).bind fun x t2 =>
        if kindAt s (skipBl s t2.k) = 6 then inLoop fl isMap closing n keys1 (parts ++ [x]) { t2 with k := skipBl s t2.k + 1 }
        else (expectM s closing { t2 with k := skipBl s t2.k }).bind fun _ t3 => .ok (keys1, parts ++ [x]) t3

/-- Brackets, from the opening one on, at which the reading stands. -/
def bracketsM (fl : PS → Res Nat) (isMap : Bool) (closing : Int) (t : PS) : Res (List ByteArray × List Nat) :=
  let u := { t with k := skipBl s (t.k + 1) }
  if kindAt s u.k = closing then .ok ([], []) { u with k := u.k + 1 } else inLoop s fl isMap closing (s.size + 1) [] [] u

/-- A node that has begun, in one line. -/
def valueS (fl : Int → PS → Res Nat) (id : Nat) (lv : Int) (t : PS) : Res Unit :=
  let u := { t with k := skipBl s t.k }
  if kindAt s u.k = 2 ∨ kindAt s u.k = 3 then (readM s u).bind fun x t1 => .ok () (endM id { NodeV.blank with text := x } t1)
  else if kindAt s u.k = 9 then (bracketsM s (fl (lv + 1)) false 10 u).bind fun p t1 => .ok () (endM id { NodeV.blank with kind := 1, keys := p.1, parts := p.2 } t1)
  else if kindAt s u.k = 11 then (bracketsM s (fl (lv + 1)) true 12 u).bind fun p t1 => .ok () (endM id { NodeV.blank with kind := 2, keys := p.1, parts := p.2 } t1)
  else .bad 3 u.k

/-- A flow, with so many levels to come at most. -/
def flowM : Nat → Int → PS → Res Nat
  | 0 => flowS s B (fun _ _ _ => .bad 0 0)
  | f + 1 => flowS s B (valueS s (flowM f))

/-- A value, with so many levels to come at most. -/
def valueM (f : Nat) : Nat → Int → PS → Res Unit := valueS s (flowM s B f)

/-- Is the line over? -/
def lineOver (q : Nat) : Bool := kindAt s q == 1 || kindAt s q == 0

/-- To the next line. -/
def nextM (t : PS) : PS := { t with ind := (nlGo s t.k t.k).1, k := (nlGo s t.k t.k).2 }

def endLineM (t : PS) : Res Unit := if lineOver s (skipBl s t.k) then .ok () (nextM s { t with k := skipBl s t.k }) else .bad 3 (skipBl s t.k)

/-- To the next line, with which a block must begin that stands in by so many pairs. -/
def goBelowM (d : Nat) (t : PS) : Res Unit :=
  let u := nextM s t
  let q := skipBl s u.k
  if u.ind = 2 * d ∧ (kindAt s q = 4 ∨ kindAt s q = 2 ∨ kindAt s q = 3) then .ok () { u with k := q } else .bad 3 q

/-- What stands behind an item's name. -/
def namedItemS (blk : Nat → Nat → PS → Res Unit) (d id : Nat) (t : PS) : Res Unit :=
  let u := { t with k := skipBl s t.k }
  if lineOver s u.k then (goBelowM s (d + 1) u).bind fun _ t1 => blk id (d + 1) t1
  else (valueM s B 21 id (d + 2) u).bind fun _ t1 => endLineM s t1

/-- An item of a block that stands in by d pairs. -/
def itemS (blk : Nat → Nat → PS → Res Unit) (d : Nat) (t : PS) : Res Nat :=
  let u := { t with k := skipBl s t.k }
  if lineOver s u.k then (goBelowM s (d + 1) u).bind fun _ t1 => (beginM B (d + 2) t1).bind fun id t2 => (blk id (d + 1) t2).bind fun _ t3 => .ok id t3
  else if kindAt s u.k = 8 then namedM s B (d + 2) (fun id v => namedItemS s B blk d id v) u
  else (flowM s B 21 (d + 2) u).bind fun id t1 => (endLineM s t1).bind fun _ t2 => .ok id t2

/-- The rounds of a block. -/
def blockLoop (it : PS → Res Nat) (id d : Nat) (isMap : Bool) : Nat → List ByteArray → List Nat → PS → Res Unit
  | 0, _, _, _ => .bad 0 0
  | n + 1, keys, parts, t =>
    (if isMap then keyM s keys t else (expectM s 4 t).bind fun _ t1 => .ok keys t1).bind fun keys1 t1 =>
      (it t1).bind fun x t2 =>
        let u := { t2 with k := skipBl s t2.k }
        if kindAt s u.k = 0 ∨ u.ind < 2 * d then .ok () (endM id { NodeV.blank with kind := if isMap then 2 else 1, keys := keys1, parts := parts ++ [x] } u)
        else if 2 * d < u.ind then .bad 3 u.k
        else blockLoop it id d isMap n keys1 (parts ++ [x]) u

/-- A block that has begun, with so many levels to come at most. -/
def blockM : Nat → Nat → Nat → PS → Res Unit
  | 0, _, _, _ => .bad 0 0
  | f + 1, id, d, t =>
    let u := { t with k := skipBl s t.k }
    blockLoop s (itemS s B (blockM f) d) id d (decide (kindAt s u.k ≠ 4)) (s.size + 1) [] [] u

/-- Does a block begin here? -/
def aheadM (k : Nat) : Bool :=
  let q := skipBl s k
  if kindAt s q = 4 then true
  else if kindAt s q = 2 ∨ kindAt s q = 3 then (rdAny s q).2.1 && decide (kindAt s (skipBl s (rdAny s q).2.2) = 5)
  else false

def topM (t : PS) : Res Unit :=
  if aheadM s t.k then (beginM B 1 t).bind fun id t1 => blockM s B 21 id 0 t1
  else (flowM s B 21 1 t).bind fun _ t1 => endLineM s t1

/-- A whole text. -/
def textM (t : PS) : Res Unit :=
  let u := nextM s t
  if u.ind ≠ 0 then .bad 3 u.k
  else (topM s B u).bind fun _ t1 => if kindAt s (skipBl s t1.k) = 0 then .ok () { t1 with k := skipBl s t1.k } else .bad 3 (skipBl s t1.k)

end

end Go.Proofs.YtkflkmmbakccoaaGreatDoor
