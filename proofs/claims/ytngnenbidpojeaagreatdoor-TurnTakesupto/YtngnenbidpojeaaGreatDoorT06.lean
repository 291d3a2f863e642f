import Derived.Deep.RegionHeld3
import Derived.Laws.Rows
import Derived.Laws.CopyRow
import Derived.OpenShut
import Derived.Deep.QuietTactic
import Derived.BigQuiet
import Derived.Test.YtngnenbidpojeaaGreatDoorT02
import Derived.Test.YtngnenbidpojeaaGreatDoorT03
import Derived.Test.YtngnenbidpojeaaGreatDoorT04
import Derived.Test.YtngnenbidpojeaaGreatDoorT05
/-
 Pack, and the document's.
-/
namespace Go.Proofs.YtngnenbidpojeaaGreatDoor
open Go.RowKit
set_option linter.unusedVariables false
def encA (l : List Lq) : List UInt8 := l.flatMap fun q => encL q.x
def allF (l : List Lq) : Bool := l.all fun q => q.x.formed
def packB (l : List Lq) : List UInt8 := if allF l = true then enc l.length ++ encA l else []
def packE (l : List Lq) : Int := if allF l = true then 0 else 1
theorem encA_take (l : List Lq) (j : Nat) (q : Lq) (h : l[j]? = some q) : encA (l.take (j + 1)) = encA (l.take j) ++ encL q.x := by
 rw [List.take_add_one, h]
 simp [encA]
theorem encA_len (l : List Lq) (h : ∀ q ∈ l, q.x.formed = true) : (encA l).length ≤ 112 * l.length := by
 induction l with
 | nil => simp [encA]
 | cons q l ih =>
  have h1 := encL_length q.x
  have h2 := formed_le (h q (by simp))
  have h3 := ih (fun y hy => h y (by simp [hy]))
  have e : encA (q :: l) = encL q.x ++ encA l := rfl
  rw [e, List.length_append, List.length_cons]
  omega
theorem take_mem {l : List Lq} {j : Nat} {q : Lq} (h : l[j]? = some q) {P : Lq → Prop} (hp : ∀ y ∈ l.take j, P y) (hq : P q) : ∀ y ∈ l.take (j + 1), P y := by
 intro y hy
 rw [List.take_add_one, h] at hy
 rcases List.mem_append.1 hy with hy | hy
 ·exact hp y hy
 ·simp at hy; subst hy; exact hq
section
variable {w : World}
set_option maxRecDepth 100000 in
set_option maxHeartbeats 1000000 in
theorem pack20 {a : Option Addr} {n c : Nat} {l : List Lq} (hr : RowQ w (.slice a n c) l) (hv : ValsQ w l) (hok : ∀ q ∈ l, q.x.ok) (hl : n ≤ 1000000) :
  Calls Tryz.prog 62 #[.slice a n c] w fun e w' => TwoB w (packB l) (packE l) e w' := by
 obtain ⟨hn, hc1, hc2⟩ := hr.bound
 have HN := Hid.mk hn
 have HR := Hid.mk hr
 have HV := Hid.mk hv
 clear hr hn hv
 have hel := enc_length n
 have HY : Hid ((∀ q ∈ l, q.x.formed = true) → packB l = enc n ++ encA l ∧ packE l = 0) := fun h => by
  have : allF l = true := by unfold allF; rw [List.all_eq_true]; exact h
  unfold packB packE
  rw [if_pos this, if_pos this, HN.out]
  exact ⟨rfl, rfl⟩
 have HO : Hid (∀ q ∈ l, q.x.formed = false → packB l = [] ∧ packE l = 1) := fun q hq h => by
  have : ¬ allF l = true := by unfold allF; rw [List.all_eq_true]; intro h2; have := h2 q hq; rw [h] at this; cases this
  unfold packB packE
  rw [if_neg this, if_neg this]
  exact ⟨rfl, rfl⟩
 generalize packB l = PB at HY HO
 generalize packE l = PE at HY HO
 go_enter Tryz.func62, Tryz.ntmps62
 go_wp2_with fail
 refine (newW _).mono ?_
 rintro e w1 ⟨p, rfl, hW1, k1, hp1⟩
 go_wp2_with fail
 refine (wnum_any p _ [] n _ hW1 (by omega) (by simp)).mono ?_
 rintro e w2 ⟨rfl, v2, hW2, k2, n2⟩
 rw [List.nil_append] at hW2
 rw [foot_nil] at k2
 have k02 : Kept [] w w2 := k1.trans k2 (by simp; omega)
 have hf2 : Fresh w v2 := fun g hg => by have := new_nil n2 g hg; have := k1.size; omega
 go_wp2_with fail
 have HK := Hid.mk hok
 clear k1 hW1 k2 n2 hok
 go_loopw [15] (fun i wr => ∃ (j : Nat) (v' : Value), i = .int .i64 (j : Int) ∧ j ≤ n ∧ Hid (∀ q ∈ l.take j, q.x.formed = true) ∧ Hid (IsW 205 5 wr p v' (enc n ++ encA (l.take j))) ∧ Hid (Kept [] w wr) ∧ Hid (Fresh w v')) (fun i _ => n - (intOf i).toNat)
 case atStart => exact ⟨0, v2, rfl, by omega, Hid.mk (by simp), Hid.mk (by simpa [encA] using hW2), Hid.mk k02, Hid.mk hf2⟩
 case round =>
  obtain ⟨j, v', rfl, hj, hall, hW, kk, hf⟩ := hrel
  by_cases hlt : j < n
  ·obtain ⟨q, hq⟩ : ∃ q, l[j]? = some q := ⟨_, List.getElem?_eq_getElem (by have := HN.out; omega)⟩
   have hmem := List.mem_of_getElem? hq
   obtain ⟨b, o, rfl, d0, d1, d2, d3⟩ := (HR.out.kept kk.out (by simp)).at hq
   have hjI : (j : Int) < (n : Int) := by omega
   have HQ := Hid.mk hq
   have HM := Hid.mk hmem
   clear hq hmem
   go_wp2_with fail
   obtain ⟨W0, e0, k0, hz0, hb0⟩ := box1 wr (.cells #[Sv q.x.fr, .int .u64 (q.x.ser : Int), .int .i64 q.x.kind, .slice q.ad q.x.args.length q.cap] 81)
   rw [e0]
   clear e0 d0 d1 d2 d3
   refine (formed13 q.x q.ad q.cap).mono ?_
   rintro e w3 ⟨rfl, k3⟩
   have k03 := (kk.out.trans k0 (by simp)).trans k3 (by simp)
   cases hfm : q.x.formed with
   | false =>
    obtain ⟨rfl, rfl⟩ := HO.out q HM.out hfm
    go_wp2_with fail
    go_ret2
    exact ⟨_, rfl, Owns.nil 5 _, k03, fresh_nil w 0⟩
   | true =>
    have hfl := formed_le hfm
    have HFM := Hid.mk hfm
    clear hfm
    have hb3 := k3.keeps hb0 (by simp)
    obtain ⟨c0, c1, c2, c3⟩ := cells4 hb3
    have hW3 := (hW.out.kept k0 (by simp) (by simp)).kept k3 (by simp) (by simp)
    have hR3 := (HV.out q HM.out).kept k03 (by simp)
    have hlen := encA_len _ hall.out
    rw [List.length_take] at hlen
    go_wp2_with fail
    refine (lay27 p v' _ q.x q.ad q.cap hW3 hR3 (fun hne g hg hm => ?_) (HK.out q HM.out) (by simp only [List.length_append]; omega)).mono ?_
    ·have := (HV.out q HM.out).ltg hne hg
     rcases mem_foot.1 hm with h | h
     ·omega
     ·have := hf.out g h; omega
    rintro e w4 ⟨rfl, v4, hW4, k4, n4⟩
    have k04 : Kept [] w w4 := k03.trans k4 (fun y hy => by
     rcases mem_foot.1 hy with h | h
     ·exact .inr (by omega)
     ·exact .inr (hf.out y h))
    have hf4 : Fresh w v4 := fun g hg => by
     rcases n4 g hg with h | h
     ·exact hf.out g h
     ·have := k03.size; omega
    go_wp2_with fail
    go_roundw
    case rel =>
     refine ⟨j + 1, v4, by go_num, by omega, Hid.mk (take_mem HQ.out hall.out HFM.out), Hid.mk ?_, Hid.mk k04, Hid.mk hf4⟩
     rw [encA_take _ _ _ HQ.out, ← List.append_assoc]
     exact hW4
    case measure => simp [intOf]; omega
  ·obtain rfl : j = n := by omega
   have hall' : ∀ q ∈ l, q.x.formed = true := by have := hall.out; rwa [HN.out, List.take_length] at this
   obtain ⟨rfl, rfl⟩ := HY.out hall'
   have hlen := encA_len l hall'
   rw [← HN.out] at hlen
   have hW' := hW.out
   rw [show l.take j = l by rw [HN.out, List.take_length]] at hW'
   go_wp2_with fail
   refine (wbytes_any p _ _ _ hW' (by simp only [List.length_append]; omega)).mono ?_
   rintro e w4 ⟨v4, rfl, hO4, k4, hF4⟩
   go_wp2_with fail
   go_ret2
   exact ⟨v4, rfl, hO4, kk.out.trans k4 (by simp), fun g hg => by have := hF4 g hg; have := kk.out.size; omega⟩
end
def encT (l : List Lt) : List UInt8 := l.flatMap encL
end Go.Proofs.YtngnenbidpojeaaGreatDoor
namespace Go.Proofs.YtngnenbidpojeaaGreatDoor
set_option linter.unusedVariables false
structure Ev where
 r : Nat
 v : Int
instance : Inhabited Ev := ⟨⟨0, 0⟩⟩
structure Jn where
 base : List Int
 ev : List Ev
 ver : Nat
def doE (b : List Int) (e : Ev) : List Int := b.set e.r e.v
def doA (b : List Int) (l : List Ev) : List Int := l.foldl doE b
def stJ (j : Jn) : List Int := doA j.base j.ev
def newJ : Jn := ⟨List.replicate 8 0, [], 0⟩
def dropJ (j : Jn) : Jn := match j.ev with
 | [] => j
 | e :: t => ⟨doE j.base e, t, j.ver⟩
def addE (j : Jn) (e : Ev) : Jn := if 16 < j.ev.length + 1 then dropJ ⟨j.base, j.ev ++ [e], j.ver + 1⟩ else ⟨j.base, j.ev ++ [e], j.ver + 1⟩
def addA (j : Jn) (l : List Ev) : Jn := l.foldl addE j
theorem doA_append (b : List Int) (l m : List Ev) : doA b (l ++ m) = doA (doA b l) m := by simp [doA]
theorem doA_length (l : List Ev) : ∀ b, (doA b l).length = b.length := by
 induction l with
 | nil => intro b; rfl
 | cons e l ih => intro b; show (doA (doE b e) l).length = _; rw [ih]; simp [doE]
theorem ver_add (j : Jn) (e : Ev) : (addE j e).ver = j.ver + 1 := by
 unfold addE dropJ
 dsimp only
 split
 ·split <;> rfl
 ·rfl
theorem ver_addA (l : List Ev) : ∀ j, (addA j l).ver = j.ver + l.length := by
 induction l with
 | nil => intro j; rfl
 | cons e l ih =>
  intro j
  show (addA (addE j e) l).ver = _
  rw [ih, ver_add, List.length_cons]
  omega
theorem addA_append (j : Jn) (l m : List Ev) : addA j (l ++ m) = addA (addA j l) m := by simp [addA]
structure GoodJ (j : Jn) : Prop where
 b8 : j.base.length = 8
 b64 : ∀ z ∈ j.base, I64 z
 e16 : j.ev.length ≤ 16
 ev : ∀ e ∈ j.ev, e.r ≤ 7 ∧ I64 e.v
 low : j.ev.length ≤ j.ver
 v64 : U64 j.ver
theorem GoodJ.new : GoodJ newJ := ⟨rfl, fun z hz => by rw [List.eq_of_mem_replicate hz]; unfold I64; omega, by simp [newJ], by simp [newJ], by simp [newJ], by unfold U64; simp [newJ]⟩
theorem doE_I64 {b : List Int} {e : Ev} (h : ∀ z ∈ b, I64 z) (he : I64 e.v) : ∀ z ∈ doE b e, I64 z := fun z hz => by
 rcases List.mem_or_eq_of_mem_set hz with h1 | h1
 ·exact h z h1
 ·rw [h1]; exact he
theorem GoodJ.add {j : Jn} (h : GoodJ j) {e : Ev} (he : e.r ≤ 7 ∧ I64 e.v) (hv : U64 (j.ver + 1)) : GoodJ (addE j e) := by
 obtain ⟨b, ev, v⟩ := j
 have h1 := h.e16
 have h2 := h.low
 dsimp only at h1 h2 hv
 have hev : ∀ x ∈ ev ++ [e], x.r ≤ 7 ∧ I64 x.v := fun x hx => by
  rcases List.mem_append.1 hx with hx | hx
  ·exact h.ev x hx
  ·simp at hx; subst hx; exact he
 unfold addE
 dsimp only
 split
 ·cases ev with
  | nil => simp at *
  | cons x t =>
   have hx := hev x (by simp)
   refine ⟨?_, ?_, ?_, fun y hy => hev y (List.mem_cons_of_mem x (show y ∈ t ++ [e] from hy)), ?_, hv⟩
   ·show (doE b x).length = 8
    have := h.b8
    dsimp only at this
    simp [doE, this]
   ·exact doE_I64 h.b64 hx.2
   ·show (t ++ [e]).length ≤ 16
    simp at h1 ⊢
    omega
   ·show (t ++ [e]).length ≤ v + 1
    simp at h2 ⊢
    omega
 ·refine ⟨h.b8, h.b64, ?_, hev, ?_, hv⟩
  ·show (ev ++ [e]).length ≤ 16
   simp
   omega
  ·show (ev ++ [e]).length ≤ v + 1
   simp
   omega
theorem GoodJ.addA {l : List Ev} : ∀ {j : Jn}, GoodJ j → (∀ e ∈ l, e.r ≤ 7 ∧ I64 e.v) → U64 (j.ver + l.length) → GoodJ (addA j l) := by
 induction l with
 | nil => intro j h _ _; exact h
 | cons e l ih =>
  intro j h he hv
  rw [List.length_cons] at hv
  refine ih (h.add (he e (by simp)) (by unfold U64 at *; omega)) (fun x hx => he x (by simp [hx])) ?_
  rw [ver_add]
  unfold U64 at *
  omega
def encI (l : List Int) : List UInt8 := l.flatMap fun z => enc (fold z)
def encV (l : List Ev) : List UInt8 := l.flatMap fun e => enc e.r ++ enc (fold e.v)
def encJn (j : Jn) : List UInt8 := enc j.ver ++ (encI j.base ++ (enc j.ev.length ++ encV j.ev))
structure Ac where
 j : Jn
 inb : List Lt
 out : Ob
 tries : Int
 poi : List Lt
def soundA (tries : Int) (n : Nat) (poi : List Lt) : Bool :=
 !(decide (tries < 0) || decide (2 < tries) || (decide (0 < tries) && decide (n = 0)) || decide (8 < poi.length)) && poi.all fun x => x.formed
theorem soundA_iff (tries : Int) (n : Nat) (poi : List Lt) : soundA tries n poi = true ↔ 0 ≤ tries ∧ tries ≤ 2 ∧ (n = 0 → tries = 0) ∧ poi.length ≤ 8 ∧ ∀ x ∈ poi, x.formed = true := by
 simp only [soundA, Bool.and_eq_true, Bool.not_eq_true', Bool.or_eq_false_iff, decide_eq_false_iff_not, List.all_eq_true, Bool.and_eq_false_iff]
 constructor
 ·rintro ⟨⟨⟨⟨h1, h2⟩, h3⟩, h4⟩, h5⟩
  exact ⟨by omega, by omega, fun h => by rcases h3 with h3 | h3; omega; exact absurd h h3, by omega, h5⟩
 ·rintro ⟨h1, h2, h3, h4, h5⟩
  refine ⟨⟨⟨⟨by omega, by omega⟩, ?_⟩, by omega⟩, h5⟩
  rcases Nat.eq_zero_or_pos n with h | h
  ·exact .inl (by have := h3 h; omega)
  ·exact .inr (by omega)
structure GoodP (a : Ac) : Prop where
 j : GoodJ a.j
 i8 : a.inb.length ≤ 8
 inb : ∀ x ∈ a.inb, x.ok ∧ x.formed = true
 out : GoodO a.out
 poi : ∀ x ∈ a.poi, x.ok
structure GoodA (a : Ac) : Prop extends GoodP a where
 sound : soundA a.tries a.inb.length a.poi = true
def packL (l : List Lt) : List UInt8 := enc l.length ++ encT l
def encAc (a : Ac) : List UInt8 := enc a.tries.toNat ++ (encTx (encJn a.j) ++ (encTx (packL a.inb) ++ (encTx (encO a.out) ++ encTx (packL a.poi))))
def freshA (a : Ac) : Bool := decide (a.j.ver = 0) && a.inb.isEmpty && a.out.L.isEmpty && a.out.K.isEmpty && decide (a.tries = 0) && a.poi.isEmpty
def newA (key : List UInt8) : Ac := ⟨newJ, [], ⟨key, [], []⟩, 0, []⟩
theorem GoodA.new {key : List UInt8} (h : isKey key = true) : GoodA (newA key) :=
 { j := GoodJ.new, i8 := by simp [newA], inb := by simp [newA], out := GoodO.new h, poi := by simp [newA], sound := by simp [newA, soundA] }
theorem encT_length (l : List Lt) (h : ∀ x ∈ l, x.formed = true) : (encT l).length ≤ 112 * l.length := by
 induction l with
 | nil => simp [encT]
 | cons x l ih =>
  have h1 := encL_length x
  have h2 := formed_le (h x (by simp))
  have h3 := ih fun y hy => h y (by simp [hy])
  have e : encT (x :: l) = encL x ++ encT l := rfl
  rw [e, List.length_append, List.length_cons]
  omega
theorem packL_length (l : List Lt) (h : ∀ x ∈ l, x.formed = true) : (packL l).length ≤ 112 * l.length + 9 := by
 have h1 := encT_length l h
 have h2 := enc_length l.length
 simp only [packL, List.length_append]
 omega
theorem encI_len9 (l : List Int) : (encI l).length ≤ 9 * l.length := (encJ_length l).2
theorem encV_len18 (l : List Ev) : (encV l).length ≤ 18 * l.length := by
 induction l with
 | nil => simp [encV]
 | cons x l ih =>
  have h1 := enc_length x.r
  have h2 := enc_length (fold x.v)
  have e : encV (x :: l) = enc x.r ++ enc (fold x.v) ++ encV l := by simp [encV]
  rw [e, List.length_append, List.length_append, List.length_cons]
  omega
theorem encJn_length {j : Jn} (h : GoodJ j) : (encJn j).length ≤ 400 := by
 have h1 := encI_len9 j.base
 have h2 := encV_len18 j.ev
 have h3 := enc_length j.ver
 have h4 := enc_length j.ev.length
 have h5 := h.b8
 have h6 := h.e16
 simp only [encJn, List.length_append]
 omega
theorem encO_length {o : Ob} (h : GoodO o) : (encO o).length ≤ 12000 := by
 have h1 := encK_length (fun y hy => (h.key y hy).1)
 have h2 := encY_length (L := o.L) (fun y hy => ⟨(h.lets y hy).2.1, by
  obtain ⟨z, hz, e⟩ := (has_mem h.rise).1 (h.lets y hy).2.2.2
  have := (isKey_iff _).1 (h.key z hz).1
  rw [← e]; omega⟩)
 have h3 := (isKey_iff _).1 h.own
 have h4 := enc_length o.own.length
 have h5 := enc_length o.K.length
 have h6 := enc_length o.L.length
 have h7 := h.kn
 have h8 := h.ln
 simp only [encO, encTx, List.length_append]
 omega
theorem encO_new {o : Ob} (h : GoodO o) : encO o = encO ⟨o.own, [], []⟩ ↔ o.K = [] ∧ o.L = [] := by
 constructor
 ·intro e
  have h1 := decO_back h
  rw [e, decO_back (GoodO.new h.own)] at h1
  injection h1 with h1
  rw [← h1]
  exact ⟨rfl, rfl⟩
 ·rintro ⟨h1, h2⟩
  obtain ⟨a, b, c⟩ := o
  dsimp only at h1 h2
  rw [h1, h2]
end Go.Proofs.YtngnenbidpojeaaGreatDoor
namespace Go.Proofs.YtngnenbidpojeaaGreatDoor
set_option maxRecDepth 100000
open Go.RowKit
set_option linter.unusedVariables false
theorem Kept.setRow {S : List Nat} {a w : World} (h : Kept S a w) {g : Nat} (hp : g ∈ S ∨ a.heap.size ≤ g) (cs : Array Value) : Kept S a (w.setRow g cs) :=
 ⟨h.os, h.tape, h.output, by simpa [World.setRow] using h.size, fun k hk hn => by
  rw [setRow_other w g k cs (fun e => by subst e; rcases hp with h1 | h1; exact hn h1; omega)]; exact h.block k hk hn⟩
section
variable {P : Program} {w : World}
variable {b : Nat} {v0 v1 v2 v3 x : Value} {t : TypeId}
end
section
variable {P : Program}
theorem run_copy_rowK (w : World) (dT sT ty elem : TypeId) (k g o dLen dCap : Nat) (a : Addr) (sLen sCap : Nat) (cur : Array Value) (t : TypeId) (cs : List Value)
  (hu : P.underlying dT = some (.slice elem)) (hs : (P.info? elem).map (·.size) = some k)
  (hg : w.heap[g]? = some (.cells cur t (0, 0))) (hn : cs.length = Nat.min sLen dLen * k)
  (hsrc : ∀ j v, cs[j]? = some v → w.cell? (a.add j) = some v) (hfit : o + cs.length ≤ cur.size) (h1 : ∀ v ∈ cs, v.oneCell' = true) :
  (Builtin.copy_ #[dT, sT] ty #[.slice (some ⟨g, o, none⟩) dLen dCap, .slice (some a) sLen sCap]).run P w =
   .ok (goInt (Nat.min sLen dLen)) (w.setRow g (cur.toList.take o ++ cs ++ cur.toList.drop (o + cs.length)).toArray) := by
 have hl := run_loadCells_list (P := P) w a cs hsrc
 have hst := run_storeCells_at P g o t cs 0 cur w hg (by simpa using hfit) h1
 cases hq : P.info? elem with
 | none => simp [hq] at hs
 | some i =>
  have hi : i.size = k := by simpa [hq] using hs
  simp [Builtin.copy_, run_underlying hu, Builtin.lenOf, Builtin.firstCells, sizeOf, typeInfo, hq, hi, ← hn, hl, hst]
theorem step_copy_run {w : World} {ops : Array Oper} {o : Oper} {a : Act} {Q : Exit → Act → World → Prop} (dT sT : TypeId) (d s : Operand) (ho : o.op = .call { callee := .builtin .copy, args := #[d, s], argTypes := #[dT, sT] }) (hg : o.guard = none) (v y : Value) (hs : a.eval d = v) (hx : a.eval s = y) {K : Act → World → Prop} {E : Prop} {r : Value} {w' : World} (hrun : (Builtin.copy_ #[dT, sT] o.type #[v, y]).run P w = .ok r w') (hK : K (a.put o.dst r) w') :
  if Region.wanted o (yielded ops a.tmps) = true then Oper.wp P o a w K Q else E := by
 have hw : Region.wanted o (yielded ops a.tmps) = true := by simp [Region.wanted, hg]
 rw [if_pos hw]
 unfold Oper.wp execOp
 simp only [ho, resolve, invoke, builtin, Sem.run_bind, Sem.run_pure, Result.andThen_ok, List.map_toArray, List.map_cons, List.map_nil, hs, hx, hrun]
 exact hK
theorem run_copy_noneK (w : World) (dT sT ty elem : TypeId) (k : Nat) (d a : Option Addr) (dLen dCap sLen sCap : Nat) (hu : P.underlying dT = some (.slice elem)) (hs : (P.info? elem).map (·.size) = some k) (hn : Nat.min sLen dLen = 0) :
  (Builtin.copy_ #[dT, sT] ty #[.slice d dLen dCap, .slice a sLen sCap]).run P w = .ok (goInt 0) w := by
 cases hq : P.info? elem with
 | none => simp [hq] at hs
 | some i =>
  have hl : ∀ (x : Addr), (loadCells x 0).run P w = .ok #[] w := fun x => by simpa using run_loadCells_list (P := P) w x [] (by simp)
  cases d <;> cases a <;> simp [Builtin.copy_, run_underlying hu, Builtin.lenOf, Builtin.firstCells, sizeOf, typeInfo, hq, hn, storeCells, hl]
end
theorem set_list {w : World} {p k : Nat} {L : List Value} {t : TypeId} {x : Value} (h : w.heap[p]? = some (.cells L.toArray t (0, 0))) : (w.setCell ⟨p, k, none⟩ x).heap[p]? = some (.cells (L.set k x).toArray t (0, 0)) := by
 have := set_at (x := x) (k := k) h
 rwa [List.setIfInBounds_toArray] at this
theorem ownsR_block {w : World} {g n : Nat} {e : TypeId} {k : Nat} {rs : List (List Value)} (h : w.heap[g]? = some (.cells rs.flatten.toArray e (0, 0))) (hw : Wide k rs) (hn : rs.length = n) (hl : n ≤ maxLen) : OwnsR e k w (.slice (some ⟨g, 0, none⟩) n n) rs := by
 subst hn
 refine ⟨hw.flat_length, .inr ⟨g, _, _, rfl, Nat.zero_le _, h, Nat.le_refl _, hl, ?_, ?_⟩⟩
 ·rw [List.size_toArray, hw.flat_length]
 ·exact List.take_of_length_le (by rw [List.toList_toArray, hw.flat_length]; exact Nat.le_refl _)
theorem own_apart {e e' : TypeId} {k k' : Nat} {w : World} {v v' : Value} {rs rs' : List (List Value)} (h : OwnsR e k w v rs) (h' : OwnsR e' k' w v' rs') (hne : e ≠ e') {g : Nat} (hg : v.ownBlock = some g) : v'.ownBlock ≠ some g := by
 intro hg'
 rcases h.2 with ⟨rfl, _⟩ | ⟨g1, cap, cur, rfl, _, hb, _⟩
 ·simp [Value.ownBlock] at hg
 ·rcases h'.2 with ⟨rfl, _⟩ | ⟨g2, cap', cur', rfl, _, hb', _⟩
  ·simp [Value.ownBlock] at hg'
  ·simp [Value.ownBlock] at hg hg'
   subst hg hg'
   rw [hb] at hb'
   injection hb' with hb'
   injection hb' with _ hb' _
   exact hne hb'
section
variable {w : World}
theorem ownsR_ne {e : TypeId} {k : Nat} {v : Value} {rs : List (List Value)} (h : OwnsR e k w v rs) {p : Nat} {cs : Array Value} {t : TypeId} {fz : Nat × Nat} (hp : w.heap[p]? = some (.cells cs t fz)) (ht : t ≠ e) : v.ownBlock ≠ some p := fun hg => by
 rcases h.2 with ⟨rfl, _⟩ | ⟨g1, cap, cur, rfl, _, hb, _⟩
 ·simp [Value.ownBlock] at hg
 ·simp [Value.ownBlock] at hg
  subst hg
  rw [hb] at hp
  injection hp with hp
  injection hp with _ hp _
  exact ht hp.symm
theorem box_ne {p p' : Nat} {cs cs' : Array Value} {t t' : TypeId} {fz fz' : Nat × Nat} (h : w.heap[p]? = some (.cells cs t fz)) (h' : w.heap[p']? = some (.cells cs' t' fz')) (ht : t ≠ t') : p ≠ p' := fun e => by
 subst e
 rw [h] at h'
 injection h' with h'
 injection h' with _ h' _
 exact ht h'
end
section
variable {w : World}
set_option maxRecDepth 100000 in
set_option maxHeartbeats 1000000 in
theorem decode18 (v : Value) (l : List UInt8) (hr : Reads w v l) (hl : l.length ≤ 140737488355328) : Calls Tryz.prog 155 #[v] w fun e w' => DecAt w l e w' := by
 go_enter Tryz.func155, Tryz.ntmps155
 go_wp2_with fail
 obtain ⟨W0, e0, k0, hz0, hb0⟩ := box1 w (.cells #[.string ⟨#[]⟩, .int .u64 0, .int .i64 0, .slice none 0 0] 81)
 rw [e0]
 clear e0
 refine (newr_in v l W0 (hr.kept k0 (by simp)) hl).mono ?_
 rintro e w1 ⟨p, v1, rfl, hR1, k1, hf1, hp1, hin⟩
 go_wp2_with fail
 refine (read34 p v1 l false hR1 hin).mono ?_
 rintro e w2 ⟨x, a, c, rfl, hx, hO, hF, v2, hR2, k2, hV2⟩
 have k12 : Kept [] W0 w2 := k1.trans k2 (fun y hy => by simp at hy; subst hy; exact .inr hp1)
 have hb2 := k12.keeps hb0 (by simp)
 have HX := Hid.mk hx
 clear hx
 have HD : Hid (decL l = if (!(rlet l false).2.2 && (rlet l false).2.1.isEmpty) = true then (rlet l false).1 else none) := rfl
 generalize rlet l false = r at HX HD hR2
 have k02 := k0.trans k12 (by simp)
 have hF2 : Fresh w (.slice a x.args.length c) := fun g hg => by have := hF g hg; have := k1.size; have := k0.size; omega
 have hF2' : ∀ g, (Value.slice a x.args.length c).ownBlock = some g → w.heap.size < g := fun g hg => by have := hF g hg; have := k1.size; omega
 have kW := (Kept.refl [] w2).alloc (.cells #[Sv x.fr, .int .u64 (x.ser : Int), .int .i64 x.kind, .slice a x.args.length c] 81)
 have hb3 := kW.keeps hb2 (by simp)
 have hlt := lt_of_block hb2
 obtain ⟨d0, d1, d2, d3⟩ := cells4 hb2
 obtain ⟨g0, g1, g2, g3⟩ := free4 hb2
 clear hF k12 hb0 k1 k2 hz0 hr
 obtain ⟨r1, r2, r3⟩ := r
 dsimp only at HX HD hR2
 cases r1 with
 | none =>
  dsimp only [Option.isSome]
  go_wp2_with fail
  obtain ⟨W5, e5, k5, hb5, -⟩ := put4 hb2 (.string ⟨#[]⟩) (.int .u64 0) (.int .i64 0) (.slice none 0 0)
  rw [e5]
  clear e5
  have kV := (Kept.refl [] W5).alloc (.cells #[Sv x.fr, .int .u64 (x.ser : Int), .int .i64 x.kind, .slice a x.args.length c] 81)
  refine bodyPost_ret (results_cell_row2 (p := 2) (u := 3) (ty := 81) rfl _ _ w.heap.size 81 _ (0, 0) _ rfl (kV.keeps hb5 (by simp)) Tryz.underlying81 rfl (by kernel_rfl) _ rfl) rfl ?_
  refine decAt_none (by rw [HD.out]; simp) ((k02.trans k5 (fun y hy => by simp at hy; subst hy; exact .inr (Nat.le_refl _))).trans kV (by simp))
 | some y =>
  obtain rfl := HX.out y rfl
  dsimp only [Option.isSome]
  go_wp2_with fail
  obtain ⟨W3, e3, -, hz3, hb4⟩ := box1 w2 (.cells #[Sv x.fr, .int .u64 (x.ser : Int), .int .i64 x.kind, .slice a x.args.length c] 81)
  rw [e3] at hb3 kW
  rw [e3]
  clear e3 d0 d1 d2 d3 g0 g1 g2 g3 hb2
  have hR3 := hR2.kept kW (by simp) (by simp)
  refine (end_any p v2 _ _ _ hR3).mono ?_
  rintro e w4 ⟨rfl, rfl⟩
  obtain ⟨d0, d1, d2, d3⟩ := cells4 hb3
  obtain ⟨g0, g1, g2, g3⟩ := free4 hb3
  obtain ⟨c0, c1, c2, c3⟩ := cells4 hb4
  cases hq : (!r3 && r2.isEmpty) with
  | false =>
   rw [hq] at HD
   clear hq
   go_wp2_with fail
   obtain ⟨W5, e5, k5, hb5, -⟩ := put4 hb3 (.string ⟨#[]⟩) (.int .u64 0) (.int .i64 0) (.slice none 0 0)
   rw [e5]
   clear e5
   refine bodyPost_ret (results_cell_row2 (p := 2) (u := 3) (ty := 81) rfl _ _ w.heap.size 81 _ (0, 0) _ rfl hb5 Tryz.underlying81 rfl (by kernel_rfl) _ rfl) rfl ?_
   refine decAt_none (by rw [HD.out]; simp) ((k02.trans kW (by simp)).trans k5 (fun y hy => by simp at hy; subst hy; exact .inr (Nat.le_refl _)))
  | true =>
   rw [hq] at HD
   clear hq
   go_wp2_with fail
   obtain ⟨W5, e5, k5, hb5, -⟩ := put4 hb3 (Sv x.fr) (.int .u64 (x.ser : Int)) (.int .i64 x.kind) (.slice a x.args.length c)
   rw [e5]
   clear e5
   refine bodyPost_ret (results_cell_row2 (p := 2) (u := 3) (ty := 81) rfl _ _ w.heap.size 81 _ (0, 0) _ rfl hb5 Tryz.underlying81 rfl (by kernel_rfl) _ rfl) rfl ?_
   refine decAt_some (by rw [HD.out]; simp) ((hO.kept kW (by simp)).kept k5 (fun g hg hm => ?_)) ((k02.trans kW (by simp)).trans k5 (fun y hy => by simp at hy; subst hy; exact .inr (Nat.le_refl _))) hF2
   have := hF2' g hg
   simp at hm
   omega
end
section
variable {w : World}
set_option maxRecDepth 100000 in
set_option maxHeartbeats 1000000 in
theorem encode11 (x : Lt) (a : Option Addr) (c : Nat) (hx : ReadsJ w (.slice a x.args.length c) x.args) (hok : x.ok) :
  Calls Tryz.prog 111 #[Lv x a c] w fun e w' => TwoB w (encB x) (encE x) e w' := by
 have HX := Hid.mk hx
 clear hx
 have k0 := (Kept.refl [] w).alloc (.cells #[Sv x.fr, .int .u64 (x.ser : Int), .int .i64 x.kind, .slice a x.args.length c] 81)
 have HF : Hid (∀ W, Calls Tryz.prog 74 #[Lv x a c] W fun e w' => e = .returned (.bool x.formed) ∧ Kept [] W w') := fun W => formed13 x a c
 cases hf : x.formed with
 | false =>
  have hq : encB x = [] ∧ encE x = 1 := by simp [encB, encE, hf]
  rw [hq.1, hq.2]
  clear hq
  rw [hf] at HF
  clear hf
  go_enter Tryz.func111, Tryz.ntmps111
  go_wp2_with fail
  refine (HF.out _).mono ?_
  rintro e w1 ⟨rfl, k1⟩
  go_wp2_with fail
  go_ret2
  exact ⟨_, rfl, Owns.nil 5 _, k0.trans k1 (by simp), fresh_nil w 0⟩
 | true =>
  have hq : encB x = encL x ∧ encE x = 0 := by simp [encB, encE, hf]
  rw [hq.1, hq.2]
  clear hq
  have hf2 : x.fr.length ≤ 40 ∧ x.args.length ≤ 4 := by simpa [Lt.formed] using hf
  obtain ⟨hf3, hf4⟩ := hf2
  have hel := encL_length x
  rw [hf] at HF
  clear hf
  go_enter Tryz.func111, Tryz.ntmps111
  go_wp2_with fail
  obtain ⟨W0, e0, -, hz0, hb0⟩ := box1 w (.cells #[Sv x.fr, .int .u64 (x.ser : Int), .int .i64 x.kind, .slice a x.args.length c] 81)
  rw [e0] at k0
  rw [e0]
  clear e0
  refine (HF.out _).mono ?_
  rintro e w1 ⟨rfl, k1⟩
  go_wp2_with fail
  refine (newW _).mono ?_
  rintro e w2 ⟨p, rfl, hW2, k2, hp2⟩
  have hb2 := k2.keeps (k1.keeps hb0 (by simp)) (by simp)
  have k02 := (k0.trans k1 (by simp)).trans k2 (by simp)
  obtain ⟨c0, c1, c2, c3⟩ := cells4 hb2
  have hsz := k1.size
  go_wp2_with fail
  refine (lay27 p _ [] x a c hW2 (HX.out.kept k02 (by simp)) (fun hne g hg hm => ?_) hok (by simp; omega)).mono ?_
  ·have := HX.out.ltg hne hg
   have := k0.size
   rw [foot_nil] at hm
   simp at hm
   omega
  rintro e w3 ⟨rfl, v3, hW3, k3, n3⟩
  rw [List.nil_append] at hW3
  rw [foot_nil] at k3
  go_wp2_with fail
  refine (wbytes_any p _ _ _ hW3 (by omega)).mono ?_
  rintro e w4 ⟨v4, rfl, hO4, k4, hF4⟩
  go_wp2_with fail
  go_ret2
  have k23 : Kept [] w w3 := k02.trans k3 (by simp; omega)
  refine ⟨v4, rfl, hO4, k23.trans k4 (by simp), fun g hg => ?_⟩
  have := hF4 g hg
  have := k23.size
  omega
end
abbrev Uv (n : Nat) : Value := .int .u64 (n : Int)
structure Yq where
 to : List UInt8
 q : Lq
instance : Inhabited Yq := ⟨⟨[], default⟩⟩
def ot (y : Yq) : Ot := ⟨y.to, y.q.x⟩
def cellsY (y : Yq) : List Value := [Sv y.to, Sv y.q.x.fr, .int .u64 (y.q.x.ser : Int), .int .i64 y.q.x.kind, y.q.sl]
abbrev Yv (to : List UInt8) (x : Lt) (a : Option Addr) (c : Nat) : Value := .agg #[Sv to, Sv x.fr, .int .u64 (x.ser : Int), .int .i64 x.kind, .slice a x.args.length c]
def CY (l : List Yq) : List (List Value) := l.map cellsY
theorem CY_length (l : List Yq) : (CY l).length = l.length := by simp [CY]
theorem CY_append (a b : List Yq) : CY (a ++ b) = CY a ++ CY b := by simp [CY]
theorem CY_wide (l : List Yq) : Wide 5 (CY l) := fun r hr => by
 obtain ⟨x, _, rfl⟩ := List.mem_map.1 hr
 refine ⟨rfl, fun v hv => ?_⟩
 simp [cellsY] at hv
 rcases hv with rfl | rfl | rfl | rfl | rfl <;> rfl
def cellsK (y : La) : List Value := [Sv y.k, Uv y.s]
def CK (l : List La) : List (List Value) := l.map cellsK
theorem CK_length (l : List La) : (CK l).length = l.length := by simp [CK]
theorem CK_wide (l : List La) : Wide 2 (CK l) := fun r hr => by
 obtain ⟨x, _, rfl⟩ := List.mem_map.1 hr
 refine ⟨rfl, fun v hv => ?_⟩
 simp [cellsK] at hv
 rcases hv with rfl | rfl <;> rfl
structure CellsO (cs : List Value) (own : List UInt8) (K : List La) (qs : List Yq) : Prop where
 len : cs.length = 291
 own : cs[0]? = some (Sv own)
 ks : ∀ (j : Nat) (y : La), K[j]? = some y → ∀ (i : Nat) (v : Value), (cellsK y)[i]? = some v → cs[1 + j * 2 + i]? = some v
 kn : cs[129]? = some (.int .i64 (K.length : Int))
 ys : ∀ (j : Nat) (y : Yq), qs[j]? = some y → ∀ (i : Nat) (v : Value), (cellsY y)[i]? = some v → cs[130 + j * 5 + i]? = some v
 yn : cs[290]? = some (.int .i64 (qs.length : Int))
 one : ∀ v ∈ cs, v.oneCell' = true
theorem set_one {cs : List Value} {i : Nat} {x : Value} (h : ∀ v ∈ cs, v.oneCell' = true) (hx : x.oneCell' = true) : ∀ v ∈ cs.set i x, v.oneCell' = true := fun v hv => by
 rcases List.mem_or_eq_of_mem_set hv with h1 | h1
 ·exact h v h1
 ·subst h1; exact hx
theorem wide_one {k : Nat} {rs : List (List Value)} (h : Wide k rs) : ∀ v ∈ rs.flatten, v.oneCell' = true := fun v hv => by
 obtain ⟨r, hr, hv⟩ := List.mem_flatten.1 hv
 exact (h r hr).2 v hv
theorem over_one {cs L : List Value} {m n : Nat} (h : ∀ v ∈ cs, v.oneCell' = true) (hL : ∀ v ∈ L, v.oneCell' = true) : ∀ v ∈ cs.take m ++ L ++ cs.drop n, v.oneCell' = true := fun v hv => by
 rcases List.mem_append.1 hv with hv | hv
 ·rcases List.mem_append.1 hv with hv | hv
  ·exact h v (List.mem_of_mem_take hv)
  ·exact hL v hv
 ·exact h v (List.mem_of_mem_drop hv)
theorem cellsK_lt {y : La} {i : Nat} {v : Value} (h : (cellsK y)[i]? = some v) : i < 2 := (List.getElem?_eq_some_iff.1 h).1
theorem cellsY_lt {y : Yq} {i : Nat} {v : Value} (h : (cellsY y)[i]? = some v) : i < 5 := (List.getElem?_eq_some_iff.1 h).1
theorem get_lt {α : Type} {l : List α} {j : Nat} {y : α} (h : l[j]? = some y) : j < l.length := (List.getElem?_eq_some_iff.1 h).1
structure IsO (w : World) (p : Nat) (own : List UInt8) (K : List La) (qs : List Yq) : Prop where
 box : ∃ cs, w.heap[p]? = some (.cells cs.toArray 168 (0, 0)) ∧ CellsO cs own K qs
 kn : K.length ≤ 64
 ln : qs.length ≤ 32
 args : ∀ y ∈ qs, OwnsJ w y.q.sl y.q.x.args
section
variable {w w' : World} {p : Nat} {own : List UInt8} {K : List La} {qs : List Yq}
theorem ownsJ_type {v : Value} {l : List Int} (h : OwnsJ w v l) {g : Nat} (hg : v.ownBlock = some g) : ∃ cs, w.heap[g]? = some (.cells cs 2 (0, 0)) := by
 rcases h.2 with ⟨rfl, _⟩ | ⟨g1, cap, cur, rfl, _, hb, _⟩
 ·simp [Value.ownBlock] at hg
 ·simp [Value.ownBlock] at hg
  subst hg
  exact ⟨_, hb⟩
theorem ownsJ_ne {v : Value} {l : List Int} (h : OwnsJ w v l) {p : Nat} {cs : Array Value} {t : TypeId} {fz : Nat × Nat} (hp : w.heap[p]? = some (.cells cs t fz)) (ht : t ≠ 2) : v.ownBlock ≠ some p := fun hg => by
 obtain ⟨cs', h'⟩ := ownsJ_type h hg
 rw [h'] at hp
 injection hp with hp
 injection hp with _ hp _
 exact ht hp.symm
theorem IsO.lt (h : IsO w p own K qs) : p < w.heap.size := by obtain ⟨cs, hb, _⟩ := h.box; exact lt_of_block hb
theorem IsO.kept {S : List Nat} (h : IsO w p own K qs) (k : Kept S w w') (hp : p ∉ S) (hq : ∀ y ∈ qs, ∀ g, y.q.sl.ownBlock = some g → g ∉ S) : IsO w' p own K qs := by
 obtain ⟨cs, hb, hc⟩ := h.box
 exact ⟨⟨cs, k.keeps hb hp, hc⟩, h.kn, h.ln, fun y hm => (h.args y hm).kept k (hq y hm)⟩
theorem IsO.kept0 (h : IsO w p own K qs) (k : Kept [] w w') : IsO w' p own K qs := h.kept k (by simp) (by simp)
theorem IsO.cell {cs : List Value} {t : TypeId} (hb : w.heap[p]? = some (.cells cs.toArray t (0, 0))) {i : Nat} {v : Value} (hi : cs[i]? = some v) : w.cell? ⟨p, i, none⟩ = some v := by
 unfold World.cell?
 rw [hb]
 simpa using hi
theorem IsO.free (h : IsO w p own K qs) (i : Nat) : w.frozen? ⟨p, i, none⟩ = false := by
 obtain ⟨cs, hb, _⟩ := h.box
 simp [World.frozen?, hb]
theorem IsO.owner (h : IsO w p own K qs) : w.cell? ⟨p, 0, none⟩ = some (Sv own) := by
 obtain ⟨cs, hb, hc⟩ := h.box
 exact IsO.cell hb hc.own
theorem IsO.known (h : IsO w p own K qs) : w.cell? ⟨p, 129, none⟩ = some (.int .i64 (K.length : Int)) := by
 obtain ⟨cs, hb, hc⟩ := h.box
 exact IsO.cell hb hc.kn
theorem IsO.count (h : IsO w p own K qs) : w.cell? ⟨p, 290, none⟩ = some (.int .i64 (qs.length : Int)) := by
 obtain ⟨cs, hb, hc⟩ := h.box
 exact IsO.cell hb hc.yn
theorem IsO.key (h : IsO w p own K qs) {j : Nat} {y : La} (hj : K[j]? = some y) : w.cell? ⟨p, 1 + j * 2, none⟩ = some (Sv y.k) ∧ w.cell? ⟨p, 1 + j * 2 + 1, none⟩ = some (Uv y.s) := by
 obtain ⟨cs, hb, hc⟩ := h.box
 exact ⟨IsO.cell hb (hc.ks j y hj 0 _ rfl), IsO.cell hb (hc.ks j y hj 1 _ rfl)⟩
theorem IsO.at (h : IsO w p own K qs) {j : Nat} {y : Yq} (hj : qs[j]? = some y) : w.cell? ⟨p, 130 + j * 5, none⟩ = some (Sv y.to) ∧ w.cell? ⟨p, 130 + j * 5 + 1, none⟩ = some (Sv y.q.x.fr) ∧ w.cell? ⟨p, 130 + j * 5 + 2, none⟩ = some (.int .u64 (y.q.x.ser : Int)) ∧ w.cell? ⟨p, 130 + j * 5 + 3, none⟩ = some (.int .i64 y.q.x.kind) ∧ w.cell? ⟨p, 130 + j * 5 + 4, none⟩ = some y.q.sl := by
 obtain ⟨cs, hb, hc⟩ := h.box
 exact ⟨IsO.cell hb (hc.ys j y hj 0 _ rfl), IsO.cell hb (hc.ys j y hj 1 _ rfl), IsO.cell hb (hc.ys j y hj 2 _ rfl), IsO.cell hb (hc.ys j y hj 3 _ rfl), IsO.cell hb (hc.ys j y hj 4 _ rfl)⟩
theorem IsO.any (h : IsO w p own K qs) {i : Nat} (hi : i < 291) : ∃ v, w.cell? ⟨p, i, none⟩ = some v := by
 obtain ⟨cs, hb, hc⟩ := h.box
 exact ⟨_, IsO.cell hb (List.getElem?_eq_getElem (by rw [hc.len]; exact hi))⟩
theorem IsO.rowY (h : IsO w p own K qs) : ReadsR 5 w (.slice (some ⟨p, 130, none⟩) qs.length 32) (CY qs) := by
 obtain ⟨cs, hb, hc⟩ := h.box
 refine ⟨some ⟨p, 130, none⟩, 32, by rw [CY_length], by rw [CY_length]; exact h.ln, by unfold maxLen; omega, by simp, fun _ => ⟨p, 130, rfl, fun j r hr i x hx => ?_⟩⟩
 rw [CY, List.getElem?_map, Option.map_eq_some_iff] at hr
 obtain ⟨q, hq, rfl⟩ := hr
 exact IsO.cell hb (hc.ys j q hq i x hx)
end
def zeroO (own : List UInt8) : List Value := Sv own :: ((CK (List.replicate 64 ⟨[], 0⟩)).flatten ++ (.int .i64 0 :: ((CY (List.replicate 32 ⟨[], ⟨⟨[], 0, 0, []⟩, none, 0⟩⟩)).flatten ++ [.int .i64 0])))
theorem cellsO_new (own : List UInt8) : CellsO (zeroO own) own [] [] := by
 refine ⟨by simp [zeroO, CK, CY, cellsK, cellsY], rfl, by simp, ?_, by simp, ?_, fun v hv => ?_⟩
 ·rfl
 ·rfl
 ·unfold zeroO at hv
  rcases List.mem_cons.1 hv with rfl | hv
  ·rfl
  ·rcases List.mem_append.1 hv with hv | hv
   ·exact wide_one (CK_wide _) v hv
   ·rcases List.mem_cons.1 hv with rfl | hv
    ·rfl
    ·rcases List.mem_append.1 hv with hv | hv
     ·exact wide_one (CY_wide _) v hv
     ·simp at hv; subst hv; rfl
theorem CellsO.setK {cs : List Value} {own : List UInt8} {K : List La} {qs : List Yq} (h : CellsO cs own K qs) (hK : K.length ≤ 64) (hq : qs.length ≤ 32) {j : Nat} {y : La} (hj : K[j]? = some y) (s : Nat) : CellsO (cs.set (1 + j * 2 + 1) (Uv s)) own (K.set j ⟨y.k, s⟩) qs := by
 have hlt := get_lt hj
 refine ⟨by rw [List.length_set]; exact h.len, by rw [List.getElem?_set_ne (by omega)]; exact h.own, fun i z hz m v hv => ?_, by rw [List.getElem?_set_ne (by omega), List.length_set]; exact h.kn, fun i z hz m v hv => ?_, by rw [List.getElem?_set_ne (by omega)]; exact h.yn, set_one h.one rfl⟩
 ·have hm := cellsK_lt hv
  by_cases hij : j = i
  ·subst hij
   rw [List.getElem?_set_self hlt] at hz
   injection hz with hz
   subst hz
   match m, hm with
   | 0, _ =>
    rw [List.getElem?_set_ne (by omega)]
    exact h.ks j y hj 0 v hv
   | 1, _ =>
    rw [List.getElem?_set_self (by have := h.len; omega)]
    exact hv
  ·rw [List.getElem?_set_ne hij] at hz
   rw [List.getElem?_set_ne (by omega)]
   exact h.ks i z hz m v hv
 ·rw [List.getElem?_set_ne (by omega)]
  exact h.ys i z hz m v hv
end Go.Proofs.YtngnenbidpojeaaGreatDoor
