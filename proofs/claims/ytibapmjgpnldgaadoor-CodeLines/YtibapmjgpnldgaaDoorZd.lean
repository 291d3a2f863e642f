/-
  Programs, without memory: their lines and texts, there and back.
-/
import Derived.Test.YtibapmjgpnldgaaDoorZc
namespace Go.Proofs.YtibapmjgpnldgaaDoor
open Go.Lib (decDigits itoa)
set_option linter.unusedVariables false
/-- An instruction: an operation's number and an integer. -/
structure In where
  op : Int
  arg : Int
instance : Inhabited In := ⟨⟨0, 0⟩⟩
/-- A program. -/
structure Pg where
  names : List (List UInt8)
  code : List In
/-- What a line is. -/
inductive Ln where
  | nm (k : List UInt8)
  | ins (op : Nat) (arg : Int)
/-- The word name, and a blank. -/
def nameB : List UInt8 := [110, 97, 109, 101, 32]
/-- The line of an operation's word. -/
def wline (w : List UInt8) (k : Nat) (arg : Int) : List UInt8 := if k = 0 then w else w ++ 32 :: itoa arg
def lineG : List (List UInt8 × Nat) → Nat → List UInt8 → Option Ln
  | [], _, _ => none
  | (w, k) :: T, o, s => if k = 0 ∧ s = w then some (.ins o 0) else if 0 < k ∧ s.take (w.length + 1) = w ++ [32] then (intD (s.drop (w.length + 1))).map (.ins o) else lineG T (o + 1) s
/-- What a line is, if it is one. -/
def line1 (s : List UInt8) : Option Ln :=
  if s.take 5 = nameB then (unhexS (s.drop 5)).bind fun k => if isKey k = true then some (.nm k) else none else lineG words 0 s
/-- A blank parts a word from what is behind it. -/
theorem blank_cut : ∀ {w w' t : List UInt8}, 32 ∉ w → 32 ∉ w' → (w ++ 32 :: t).take (w'.length + 1) = w' ++ [32] → w = w'
  | [], [], t, _, _, _ => rfl
  | [], c :: w', t, _, h2, h => by
    simp only [List.nil_append, List.length_cons, List.take_succ_cons, List.cons_append, List.cons.injEq] at h
    exact absurd (by rw [← h.1]; simp) h2
  | c :: w, [], t, h1, _, h => by
    simp only [List.cons_append, List.length_nil, List.take_succ_cons, List.nil_append, List.cons.injEq] at h
    exact absurd (by rw [h.1]; simp) h1
  | c :: w, d :: w', t, h1, h2, h => by
    simp only [List.cons_append, List.length_cons, List.take_succ_cons, List.cons.injEq] at h
    rw [h.1, blank_cut (fun e => h1 (by simp [e])) (fun e => h2 (by simp [e])) h.2]
theorem blank_take (w t : List UInt8) : (w ++ 32 :: t).take (w.length + 1) = w ++ [32] ∧ (w ++ 32 :: t).drop (w.length + 1) = t := by
  constructor
  · rw [List.take_append, List.take_of_length_le (by omega), Nat.add_sub_cancel_left]; rfl
  · rw [List.drop_append, List.drop_eq_nil_of_le (by omega), Nat.add_sub_cancel_left]; rfl
theorem lineG_back : ∀ {T : List (List UInt8 × Nat)} {o i : Nat} {w : List UInt8} {k : Nat} {arg : Int}, (∀ x ∈ T, 32 ∉ x.1) → (T.map (·.1)).Nodup → T[i]? = some (w, k) → (k = 0 → arg = 0) → I64 arg → lineG T o (wline w k arg) = some (.ins (o + i) arg)
  | [], o, i, w, k, arg, _, _, h, _, _ => by simp at h
  | (w', k') :: T, o, 0, w, k, arg, hb, hn, h, h0, ha => by
    simp only [List.getElem?_cons_zero, Option.some.injEq, Prod.mk.injEq] at h
    obtain ⟨rfl, rfl⟩ := h
    rw [lineG, wline]
    by_cases hk : k' = 0
    · rw [if_pos hk, if_pos ⟨hk, rfl⟩, h0 hk]; rfl
    · obtain ⟨e1, e2⟩ := blank_take w' (itoa arg)
      rw [if_neg hk, if_neg (fun e => hk e.1), if_pos ⟨by omega, e1⟩, e2, intD_itoa arg ha]
      rfl
  | (w', k') :: T, o, i + 1, w, k, arg, hb, hn, h, h0, ha => by
    rw [List.getElem?_cons_succ] at h
    rw [List.map_cons, List.nodup_cons] at hn
    have hm := List.mem_of_getElem? h
    have hne : w ≠ w' := fun e => hn.1 (List.mem_map.2 ⟨_, hm, by rw [← e]⟩)
    have hw := hb (w, k) (by simp [hm])
    have hw' := hb (w', k') (by simp)
    dsimp only at hw hw'
    rw [lineG]
    have h1 : ¬ (k' = 0 ∧ wline w k arg = w') := by
      rintro ⟨-, e⟩
      unfold wline at e
      split at e
      · exact hne e
      · exact hw' (by rw [← e]; simp)
    have h2 : ¬ (0 < k' ∧ (wline w k arg).take (w'.length + 1) = w' ++ [32]) := by
      rintro ⟨-, e⟩
      unfold wline at e
      split at e
      · have : (32 : UInt8) ∈ w.take (w'.length + 1) := by rw [e]; simp
        exact hw (List.mem_of_mem_take this)
      · exact hne (blank_cut hw hw' e)
    rw [if_neg h1, if_neg h2, lineG_back (fun x hx => hb x (by simp [hx])) hn.2 h h0 ha]
    congr 2
    omega
theorem lineG_own : ∀ {T : List (List UInt8 × Nat)} {o : Nat} {s : List UInt8} {x : Ln}, lineG T o s = some x → ∃ i w k arg, T[i]? = some (w, k) ∧ x = .ins (o + i) arg ∧ s = wline w k arg ∧ (k = 0 → arg = 0) ∧ I64 arg
  | [], o, s, x, h => by simp [lineG] at h
  | (w, k) :: T, o, s, x, h => by
    rw [lineG] at h
    split at h
    · rename_i h1
      simp only [Option.some.injEq] at h
      subst h
      exact ⟨0, w, k, 0, rfl, rfl, by unfold wline; rw [if_pos h1.1]; exact h1.2, fun _ => rfl, by unfold I64; omega⟩
    · split at h
      · rename_i h2
        cases hi : intD (s.drop (w.length + 1)) with
        | none => rw [hi] at h; cases h
        | some z =>
          rw [hi] at h
          simp only [Option.map_some, Option.some.injEq] at h
          subst h
          obtain ⟨e, hz⟩ := intD_own hi
          refine ⟨0, w, k, z, rfl, rfl, ?_, fun e => by omega, hz⟩
          unfold wline
          rw [if_neg (by omega), ← e]
          have := List.take_append_drop (w.length + 1) s
          rw [h2.2] at this
          rw [← this]
          simp
      · obtain ⟨i, w', k', arg, h1, h2, h3, h4, h5⟩ := lineG_own h
        exact ⟨i + 1, w', k', arg, by simpa using h1, by rw [h2]; congr 1; omega, h3, h4, h5⟩
theorem words_blank : ∀ x ∈ words, (32 : UInt8) ∉ x.1 := by decide
theorem words_nodup : (words.map (·.1)).Nodup := by decide
theorem words_name : ∀ x ∈ words, x.1 ≠ [110, 97, 109, 101] := by decide
theorem words_feed : ∀ x ∈ words, (10 : UInt8) ∉ x.1 := by decide
theorem name_not {w : List UInt8} {k : Nat} (h : (w, k) ∈ words) (arg : Int) : (wline w k arg).take 5 ≠ nameB := by
  intro e
  have hw := words_blank _ h
  dsimp only at hw
  unfold wline at e
  split at e
  · have : (32 : UInt8) ∈ w.take 5 := by rw [e]; decide
    exact hw (List.mem_of_mem_take this)
  · exact words_name _ h (blank_cut (w' := [110, 97, 109, 101]) hw (by decide) e)
/-- An instruction's line is read as it was. -/
theorem line1_ins {i : Nat} {w : List UInt8} {k : Nat} {arg : Int} (h : words[i]? = some (w, k)) (h0 : k = 0 → arg = 0) (ha : I64 arg) : line1 (wline w k arg) = some (.ins i arg) := by
  unfold line1
  rw [if_neg (name_not (List.mem_of_getElem? h) arg), lineG_back words_blank words_nodup h h0 ha, Nat.zero_add]
/-- A name's line is read as it was. -/
theorem line1_name {k : List UInt8} (h : isKey k = true) : line1 (nameB ++ hexS k) = some (.nm k) := by
  unfold line1
  rw [if_pos (by rfl), show (nameB ++ hexS k).drop 5 = hexS k from rfl, unhex_hex]
  dsimp only [Option.bind_some]
  rw [if_pos h]
theorem line1_own {s : List UInt8} {x : Ln} (h : line1 s = some x) : (∃ k, x = .nm k ∧ isKey k = true ∧ s = nameB ++ hexS k) ∨ (∃ i w k arg, words[i]? = some (w, k) ∧ x = .ins i arg ∧ s = wline w k arg ∧ (k = 0 → arg = 0) ∧ I64 arg) := by
  unfold line1 at h
  split at h
  · rename_i hn
    refine .inl ?_
    cases hu : unhexS (s.drop 5) with
    | none => rw [hu] at h; cases h
    | some k =>
      rw [hu] at h
      dsimp only [Option.bind_some] at h
      split at h
      · rename_i hk
        simp only [Option.some.injEq] at h
        refine ⟨k, h.symm, hk, ?_⟩
        rw [← hn, ← unhex_own hu, List.take_append_drop]
      · cases h
  · obtain ⟨i, w, k, arg, h1, h2, h3, h4, h5⟩ := lineG_own h
    exact .inr ⟨i, w, k, arg, h1, by rw [h2, Nat.zero_add], h3, h4, h5⟩
/-- Lines, parted by line feeds; cur: what stands ahead. -/
def splitG : List UInt8 → List UInt8 → List (List UInt8)
  | [], cur => if cur = [] then [] else [cur]
  | c :: s, cur => if c = 10 then cur :: splitG s [] else splitG s (cur ++ [c])
def linesOf (s : List UInt8) : List (List UInt8) := splitG s []
/-- Lines, each with its line feed. -/
def joinL (ls : List (List UInt8)) : List UInt8 := ls.flatMap fun l => l ++ [10]
theorem split_line : ∀ {l : List UInt8} (s cur : List UInt8), 10 ∉ l → splitG (l ++ 10 :: s) cur = (cur ++ l) :: splitG s []
  | [], s, cur, _ => by rw [List.nil_append, splitG, if_pos rfl, List.append_nil]
  | c :: l, s, cur, h => by
    have hc : c ≠ 10 := fun e => h (by simp [e])
    rw [List.cons_append, splitG, if_neg hc, split_line s (cur ++ [c]) (fun e => h (by simp [e]))]
    simp
theorem lines_join : ∀ {ls : List (List UInt8)}, (∀ l ∈ ls, (10 : UInt8) ∉ l) → linesOf (joinL ls) = ls
  | [], _ => rfl
  | l :: ls, h => by
    have e : joinL (l :: ls) = l ++ 10 :: joinL ls := by simp [joinL]
    unfold linesOf
    rw [e, split_line _ _ (h l (by simp)), List.nil_append]
    congr 1
    exact lines_join fun x hx => h x (by simp [hx])
/-- Lines ahead of other text. -/
theorem lines_ahead : ∀ {ls : List (List UInt8)} (s : List UInt8), (∀ l ∈ ls, (10 : UInt8) ∉ l) → linesOf (joinL ls ++ s) = ls ++ linesOf s
  | [], s, _ => rfl
  | l :: ls, s, h => by
    have e : joinL (l :: ls) ++ s = l ++ 10 :: (joinL ls ++ s) := by simp [joinL]
    unfold linesOf
    rw [e, split_line _ _ (h l (by simp)), List.nil_append]
    rw [List.cons_append]
    congr 1
    exact lines_ahead s fun x hx => h x (by simp [hx])
theorem join_split (s : List UInt8) : ∀ cur, joinL (splitG s cur) = cur ++ s ∨ joinL (splitG s cur) = cur ++ s ++ [10] := by
  induction s with
  | nil =>
    intro cur
    rw [splitG]
    split
    · rename_i h; subst h; exact .inl rfl
    · exact .inr (by simp [joinL])
  | cons c s ih =>
    intro cur
    rw [splitG]
    split
    · rename_i h
      subst h
      have e : joinL (cur :: splitG s []) = cur ++ 10 :: joinL (splitG s []) := by simp [joinL]
      rw [e]
      rcases ih [] with h | h
      · rw [h]; exact .inl (by simp)
      · rw [h]; exact .inr (by simp)
    · rcases ih (cur ++ [c]) with h | h
      · rw [h]; exact .inl (by simp)
      · rw [h]; exact .inr (by simp)
theorem join_lines (s : List UInt8) : joinL (linesOf s) = s ∨ joinL (linesOf s) = s ++ [10] := by
  rcases join_split s [] with h | h
  · exact .inl (by unfold linesOf; rw [h]; simp)
  · exact .inr (by unfold linesOf; rw [h]; simp)
/-- The most that an integer may be, by what it is. -/
def mostI (nn nc : Nat) (k : Nat) : Int := if k = 0 then 0 else if k = 2 then 7 else if k = 3 then 3 else if k = 4 then (nc : Int) else (nn : Int) - 1
def okI (nn nc : Nat) (x : In) : Bool := match words[x.op.toNat]? with
  | some (w, k) => decide (0 ≤ x.op) && (decide (k = 1) || (decide (0 ≤ x.arg) && decide (x.arg ≤ mostI nn nc k)))
  | none => false
/-- A program is formed. -/
def formedP (p : Pg) : Bool := decide (p.names.length ≤ 8) && decide (p.code.length ≤ 200) && p.names.all isKey && p.code.all (okI p.names.length p.code.length)
/-- Its integers are of 64 bits. -/
def OkP (p : Pg) : Prop := ∀ x ∈ p.code, I64 x.arg
/-- An instruction's line. -/
def iline (x : In) : List UInt8 := match words[x.op.toNat]? with
  | some (w, k) => wline w k x.arg
  | none => []
def plines (p : Pg) : List (List UInt8) := p.names.map (fun k => nameB ++ hexS k) ++ p.code.map iline
/-- A program's text. -/
def printP (p : Pg) : List UInt8 := joinL (plines p)
theorem hexS_feed (s : List UInt8) : (10 : UInt8) ∉ hexS s := by
  intro h
  unfold hexS at h
  obtain ⟨b, hb, h⟩ := List.mem_flatMap.1 h
  have hlt := b.toNat_lt
  have key : ∀ d, d < 16 → hexC d ≠ 10 := by decide
  simp only [List.mem_cons, List.not_mem_nil, or_false] at h
  rcases h with h | h
  · exact key _ (by omega) h.symm
  · exact key _ (by omega) h.symm
theorem dec_feed (u : Nat) : (10 : UInt8) ∉ decDigits u := by
  have key : ∀ d, d < 10 → UInt8.ofNat (48 + d) ≠ 10 := by decide
  induction u using Nat.strongRecOn with
  | _ u ih =>
    rw [decDigits]
    split
    · rename_i hu
      intro h
      simp only [List.mem_cons, List.not_mem_nil, or_false] at h
      exact key u hu h.symm
    · rename_i hu
      intro h
      rcases List.mem_append.1 h with h | h
      · exact ih (u / 10) (by omega) h
      · simp only [List.mem_cons, List.not_mem_nil, or_false] at h
        exact key _ (by omega) h.symm
theorem itoa_feed (z : Int) : (10 : UInt8) ∉ itoa z := by
  unfold itoa
  split
  · intro h
    rcases List.mem_cons.1 h with h | h
    · exact absurd h (by decide)
    · exact dec_feed _ h
  · exact dec_feed _
theorem wline_feed {w : List UInt8} {k : Nat} (h : (w, k) ∈ words) (arg : Int) : (10 : UInt8) ∉ wline w k arg := by
  have hw := words_feed _ h
  unfold wline
  split
  · exact hw
  · intro e
    rcases List.mem_append.1 e with e | e
    · exact hw e
    · rcases List.mem_cons.1 e with e | e
      · exact absurd e (by decide)
      · exact itoa_feed arg e
theorem plines_feed (p : Pg) : ∀ l ∈ plines p, (10 : UInt8) ∉ l := fun l hl => by
  rcases List.mem_append.1 hl with hl | hl
  · obtain ⟨k, -, rfl⟩ := List.mem_map.1 hl
    intro e
    rcases List.mem_append.1 e with e | e
    · exact absurd e (by decide)
    · exact hexS_feed k e
  · obtain ⟨x, -, rfl⟩ := List.mem_map.1 hl
    unfold iline
    split
    · rename_i w k h
      exact wline_feed (List.mem_of_getElem? h) x.arg
    · simp
/-- What is read so far: names, instructions, and whether a name came behind an instruction. -/
structure Ps where
  names : List (List UInt8)
  code : List In
  late : Bool
def Ps.add (st : Ps) : Ln → Ps
  | .nm k => ⟨st.names ++ [k], st.code, st.late || !st.code.isEmpty⟩
  | .ins op arg => ⟨st.names, st.code ++ [⟨(op : Int), arg⟩], st.late⟩
/-- Lines that are read: the first that is none, or all. -/
def parseF : List (List UInt8) → Nat → Ps → Sum Nat Ps
  | [], _, st => .inr st
  | l :: ls, i, st => match line1 l with
    | none => .inl (i + 1)
    | some x => parseF ls (i + 1) (st.add x)
/-- What Parse tells: a program, or the number of a line with an error. -/
def parseP (s : List UInt8) : Sum Nat Pg := match parseF (linesOf s) 0 ⟨[], [], false⟩ with
  | .inl n => .inl n
  | .inr st => if st.late = true ∨ formedP ⟨st.names, st.code⟩ = false then .inl 0 else .inr ⟨st.names, st.code⟩
theorem okI_some {nn nc : Nat} {x : In} (h : okI nn nc x = true) : ∃ (i : Nat) (w : List UInt8) (k : Nat), x.op = (i : Int) ∧ words[i]? = some (w, k) ∧ (k = 0 → x.arg = 0) := by
  unfold okI at h
  split at h
  · rename_i w k hw
    simp only [Bool.and_eq_true, Bool.or_eq_true, decide_eq_true_eq] at h
    refine ⟨x.op.toNat, w, k, by omega, hw, fun hk => ?_⟩
    subst hk
    rcases h.2 with h2 | ⟨h2, h3⟩
    · omega
    · unfold mostI at h3
      rw [if_pos rfl] at h3
      omega
  · cases h
theorem parseF_names (ns : List (List UInt8)) : ∀ (i : Nat) (st : Ps) (rest : List (List UInt8)), st.code = [] → (∀ k ∈ ns, isKey k = true) → parseF (ns.map (fun k => nameB ++ hexS k) ++ rest) i st = parseF rest (i + ns.length) ⟨st.names ++ ns, [], st.late⟩ := by
  induction ns with
  | nil =>
    intro i st rest hc _
    obtain ⟨a, b, c⟩ := st
    dsimp only at hc
    subst hc
    simp
  | cons k ns ih =>
    intro i st rest hc h
    rw [List.map_cons, List.cons_append, parseF, line1_name (h k (by simp))]
    dsimp only
    rw [ih (i + 1) (st.add (.nm k)) rest hc (fun y hy => h y (by simp [hy]))]
    unfold Ps.add
    dsimp only
    rw [hc]
    simp only [List.isEmpty_nil, Bool.not_true, Bool.or_false, List.append_assoc, List.cons_append, List.nil_append, List.length_cons]
    congr 1
    omega
theorem parseF_code (xs : List In) (nn nc : Nat) : ∀ (i : Nat) (st : Ps) (rest : List (List UInt8)), (∀ x ∈ xs, okI nn nc x = true ∧ I64 x.arg) → parseF (xs.map iline ++ rest) i st = parseF rest (i + xs.length) ⟨st.names, st.code ++ xs, st.late⟩ := by
  induction xs with
  | nil => intro i st rest _; simp
  | cons x xs ih =>
    intro i st rest h
    obtain ⟨h1, h2⟩ := h x (by simp)
    obtain ⟨j, w, k, e1, e2, e3⟩ := okI_some h1
    have hl : iline x = wline w k x.arg := by
      unfold iline
      rw [e1, Int.toNat_natCast, e2]
    rw [List.map_cons, List.cons_append, parseF, hl, line1_ins e2 e3 h2]
    dsimp only
    rw [ih (i + 1) _ rest (fun y hy => h y (by simp [hy]))]
    unfold Ps.add
    dsimp only
    rw [← e1]
    simp only [List.append_assoc, List.cons_append, List.nil_append, List.length_cons]
    congr 1
    omega
theorem formed_parts {p : Pg} (h : formedP p = true) : p.names.length ≤ 8 ∧ p.code.length ≤ 200 ∧ (∀ k ∈ p.names, isKey k = true) ∧ ∀ x ∈ p.code, okI p.names.length p.code.length x = true := by
  unfold formedP at h
  simp only [Bool.and_eq_true, decide_eq_true_eq, List.all_eq_true] at h
  exact ⟨h.1.1.1, h.1.1.2, h.1.2, h.2⟩
/-- What was printed is parsed, ahead of any other lines. -/
theorem parseF_print {p : Pg} (h : formedP p = true) (ho : OkP p) (rest : List (List UInt8)) : parseF (plines p ++ rest) 0 ⟨[], [], false⟩ = parseF rest (p.names.length + p.code.length) ⟨p.names, p.code, false⟩ := by
  obtain ⟨h1, h2, h3, h4⟩ := formed_parts h
  unfold plines
  rw [List.append_assoc, parseF_names p.names 0 _ _ rfl h3, parseF_code p.code _ _ _ _ _ (fun x hx => ⟨h4 x hx, ho x hx⟩)]
  simp
theorem parse_print {p : Pg} (h : formedP p = true) (ho : OkP p) : parseP (printP p) = .inr p := by
  unfold parseP printP
  rw [lines_join (plines_feed p)]
  have := parseF_print h ho []
  rw [List.append_nil] at this
  rw [this]
  obtain ⟨a, b⟩ := p
  simp [parseF, h]
/-- A text that begins with a printed program, and then has a line that is none. -/
theorem parse_behind {p : Pg} (h : formedP p = true) (ho : OkP p) {line behind : List UInt8} (hl : 10 ∉ line) (hn : line1 line = none) : parseP (printP p ++ (line ++ 10 :: behind)) = .inl (p.names.length + p.code.length + 1) := by
  unfold parseP printP
  rw [lines_ahead _ (plines_feed p)]
  have e : linesOf (line ++ 10 :: behind) = line :: linesOf behind := by
    unfold linesOf
    rw [split_line _ _ hl, List.nil_append]
  rw [parseF_print h ho, e, parseF, hn]
/-- What is parsed, line by line, has these lines. -/
theorem parseF_own : ∀ (ls : List (List UInt8)) (i : Nat) (st st' : Ps), st.late = false → parseF ls i st = .inr st' → st'.late = false → ∃ ns xs, st'.names = st.names ++ ns ∧ st'.code = st.code ++ xs ∧ ls = ns.map (fun k => nameB ++ hexS k) ++ xs.map iline ∧ (st.code ≠ [] → ns = []) ∧ (∀ x ∈ xs, I64 x.arg)
  | [], i, st, st', _, h, _ => by
    simp only [parseF, Sum.inr.injEq] at h
    subst h
    exact ⟨[], [], by simp, by simp, rfl, fun _ => rfl, by simp⟩
  | l :: ls, i, st, st', hl, h, hl' => by
    rw [parseF] at h
    cases hx : line1 l with
    | none => rw [hx] at h; cases h
    | some x =>
      rw [hx] at h
      dsimp only at h
      rcases line1_own hx with ⟨k, rfl, hk, hs⟩ | ⟨j, w, k, arg, hw, rfl, hs, h0, ha⟩
      · -- a name
        have mono : ∀ (ls : List (List UInt8)) (i : Nat) (s t : Ps), parseF ls i s = .inr t → s.late = true → t.late = true := by
          intro ls
          induction ls with
          | nil => intro i s t h hs; simp only [parseF, Sum.inr.injEq] at h; rw [← h]; exact hs
          | cons l ls ih =>
            intro i s t h hs
            rw [parseF] at h
            cases hx : line1 l with
            | none => rw [hx] at h; cases h
            | some x =>
              rw [hx] at h
              refine ih _ _ _ h ?_
              cases x with
              | nm k => simp [Ps.add, hs]
              | ins o a => simp [Ps.add, hs]
        have hc : st.code = [] := by
          cases hcc : st.code with
          | nil => rfl
          | cons y t =>
            have := mono _ _ _ _ h (by simp [Ps.add, hcc])
            rw [this] at hl'
            cases hl'
        have hla : (st.add (.nm k)).late = false := by simp [Ps.add, hl, hc]
        obtain ⟨ns, xs, i1, i2, i3, i4, i5⟩ := parseF_own ls (i + 1) _ st' hla h hl'
        refine ⟨k :: ns, xs, by rw [i1]; simp [Ps.add], by rw [i2]; rfl, by rw [i3, hs]; rfl, fun e => absurd hc e, i5⟩
      · obtain ⟨ns, xs, i1, i2, i3, i4, i5⟩ := parseF_own ls (i + 1) (st.add (.ins j arg)) st' hl h hl'
        have hns := i4 (by simp [Ps.add])
        subst hns
        have hline : iline ⟨(j : Int), arg⟩ = wline w k arg := by
          unfold iline
          dsimp only
          rw [Int.toNat_natCast, hw]
        refine ⟨[], ⟨(j : Int), arg⟩ :: xs, by rw [i1]; simp [Ps.add], by rw [i2]; simp [Ps.add], ?_, fun _ => rfl, fun x hx => ?_⟩
        · rw [i3, hs, List.map_cons, hline]; rfl
        · rcases List.mem_cons.1 hx with rfl | hx
          · exact ha
          · exact i5 x hx
/-- A text that is parsed is printed, without its last line feed, as it was. -/
theorem print_parse {s : List UInt8} {p : Pg} (h : parseP s = .inr p) : formedP p = true ∧ OkP p ∧ (printP p = s ∨ printP p = s ++ [10]) := by
  unfold parseP at h
  cases hp : parseF (linesOf s) 0 ⟨[], [], false⟩ with
  | inl n => rw [hp] at h; cases h
  | inr st =>
    rw [hp] at h
    dsimp only at h
    split at h
    · cases h
    · rename_i hno
      simp only [Sum.inr.injEq] at h
      subst h
      have hf : formedP ⟨st.names, st.code⟩ = true := by
        cases hh : formedP ⟨st.names, st.code⟩ with
        | true => rfl
        | false => exact absurd (.inr hh) hno
      have hl : st.late = false := by
        cases hh : st.late with
        | false => rfl
        | true => exact absurd (.inl hh) hno
      obtain ⟨ns, xs, i1, i2, i3, i4, i5⟩ := parseF_own _ 0 _ st rfl hp hl
      rw [List.nil_append] at i1 i2
      refine ⟨hf, fun x hx => i5 x (by rw [← i2]; exact hx), ?_⟩
      have e : printP ⟨st.names, st.code⟩ = joinL (linesOf s) := by
        unfold printP plines
        dsimp only
        rw [i1, i2, ← i3]
      rw [e]
      exact join_lines s
end Go.Proofs.YtibapmjgpnldgaaDoor
