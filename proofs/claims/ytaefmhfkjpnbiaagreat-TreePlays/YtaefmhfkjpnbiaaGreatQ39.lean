import Derived.Test.YtaefmhfkjpnbiaaGreatQ37
import Derived.Test.YtaefmhfkjpnbiaaGreatQ38
/-
  Lists of lists of changes that came in, opened.
-/
namespace Go.Proofs.YtaefmhfkjpnbiaaGreat
open Go.RowKit Go.Deep Go.ChangeShapes
set_option linter.unusedVariables false

set_option maxRecDepth 100000 in
theorem open_chss {H : Type} {enc : TypeId × Value → H} {W : World} {fuel : Nat} {cs : List Value} {x : DataW H × List MemPlace} (h : DataW.trod enc Tryz.prog W 0 (fun _ => true) true fuel 22 cs = some x) (hsz : ∀ n ∈ x.1.weights Tryz.prog 22, n ≤ reachBytes) :
    ∃ v ls, cs = [v] ∧ RowL W v ls ∧ ls.length ≤ 140737488355328 ∧ ∀ l ∈ ls, ValsQ W l.rs ∧ InQ l.rs := by
  rcases open_slice Tryz.underlying22 h with ⟨h0, hx⟩ | ⟨a, len, cap, m, n, D, Pl, hcs, hb, hl, hm, hmm, hx, hel⟩
  · exact ⟨_, [], h0, ⟨ReadsR.nil 1 W, by simp⟩, by simp, by simp⟩
  · have hm' : m = cap := by simpa using hmm
    subst hm'
    have hlen : len ≤ 140737488355328 := by
      have := hsz ((((List.range len).map D).length + ((List.range (m - len)).map fun i => D (len + i)).length) * Tryz.prog.bytesOf 40) (by
        rw [hx]
        simp only [DataW.weights, Tryz.underlying22, List.mem_cons]
        left
        simp)
      rw [show Tryz.prog.bytesOf 40 = 24 by kernel_rfl] at this
      unfold reachBytes at this
      simp at this
      omega
    have each : ∀ i, i < len → ∃ p : Lq, W.cell? (a.add i) = some (.slice p.ad p.rs.length p.cap) ∧ RowQ W (.slice p.ad p.rs.length p.cap) p.rs ∧ ValsQ W p.rs ∧ InQ p.rs := by
      intro i hi
      obtain ⟨cs', h1, h2⟩ := hel i (by omega)
      have hwt : ∀ z ∈ (D i).weights Tryz.prog 40, z ≤ reachBytes := fun z hz => hsz z (by
        rw [hx]
        simp only [DataW.weights, Tryz.underlying22, List.mem_cons, List.mem_append]
        exact .inr (.inl (weightsAll_mem (List.mem_map.2 ⟨i, List.mem_range.2 hi, rfl⟩) hz)))
      rw [show Tryz.prog.cellsOf 40 = 1 by kernel_rfl] at h1
      obtain ⟨_, hlen, hcell⟩ := World.cells?_some h1
      obtain ⟨v, l, rfl, hr, hv, hi2⟩ := open_chs h2 hwt
      have c0 := hcell 0 (by omega)
      rw [addr_add_add] at c0
      obtain ⟨a', c', rfl, _, _⟩ := hr.form
      exact ⟨⟨l, a', c'⟩, by simpa using c0, hr, hv, hi2⟩
    have hinh : Inhabited Lq := ⟨⟨[], none, 0⟩⟩
    obtain ⟨f, hfp⟩ := choose_lt each
    have hll : ((List.range len).map f).length = len := by simp
    refine ⟨_, (List.range len).map f, hcs, ⟨⟨some a, m, by rw [CL_length, hll], by rw [CL_length, hll]; omega, hm, by simp, fun hne => ?_⟩, fun l hl => ?_⟩, by rw [hll]; exact hlen, fun l hl => ?_⟩
    · have hpos : 0 < len := by
        rcases Nat.eq_zero_or_pos len with h | h
        · subst h; simp [CL] at hne
        · exact h
      obtain ⟨b, o, spot⟩ := a
      have hc := (hfp 0 (by omega)).1
      have hspot : spot = none := by simpa [Addr.add] using World.cell?_spot hc
      subst hspot
      refine ⟨b, o, rfl, fun j r hr i y hy => ?_⟩
      have hr' : ((List.range len).map f).map (fun l => [l.sl]) = CL ((List.range len).map f) := rfl
      rw [← hr', List.getElem?_map, Option.map_eq_some_iff] at hr
      obtain ⟨p, hp, rfl⟩ := hr
      have hj : j < len := by
        have := (List.getElem?_eq_some_iff.1 hp).1
        simpa using this
      rw [List.getElem?_map, List.getElem?_range hj] at hp
      simp at hp
      subst hp
      have c0 := (hfp j hj).1
      rw [add_at] at c0
      cases i with
      | zero => simp at hy; subst hy; rw [Nat.mul_one, Nat.add_zero]; exact c0
      | succ i => simp at hy
    · simp only [List.mem_map, List.mem_range] at hl
      obtain ⟨i, hi, rfl⟩ := hl
      exact (hfp i hi).2.1
    · simp only [List.mem_map, List.mem_range] at hl
      obtain ⟨i, hi, rfl⟩ := hl
      exact (hfp i hi).2.2
end Go.Proofs.YtaefmhfkjpnbiaaGreat
/-
  TreePlays, its calls in their order.
-/
namespace Go.Proofs.YtaefmhfkjpnbiaaGreat
open Go.RowKit
set_option linter.unusedVariables false

def PlayD (tb db : Nat) (I : World → Prop) (w : World) : Prop := Calls Tryz.prog 19 #[Pp tb, Pp db] w fun e w1 => e = .returned (.bool true) ∧ I w1
def PlayS (tb db : Nat) (I : World → Prop) (w : World) : Prop := PlayD tb db I w ∧ Calls Tryz.prog 18 #[Pp tb] w fun e w1 => e = .returned (.tuple #[]) ∧ PlayD tb db I w1
def PlayE (p tb db : Nat) (v : Value) (I R : World → Prop) (w : World) (er want : Int) : Prop :=
  (er = 6 ∧ want = 0 ∧ Calls Tryz.prog 16 #[Pp p] w fun e w1 => ∃ a n c, e = .returned (.slice a n c) ∧ n < 1500 ∧ R w1) ∨
  (er = 0 ∧ want = 0 ∧ Calls Tryz.prog 17 #[Pp db, v] w fun e w1 => e = .returned (.tuple #[]) ∧ PlayS tb db I w1) ∨
  ((er = 1 ∨ er = 4) ∧ want = er ∧ PlayS tb db I w)
def PlayA (p tb db : Nat) (ad : Addr) (v : Value) (I R : World → Prop) (w : World) : Prop :=
  Calls Tryz.prog 14 #[Pp tb, v] w fun e w1 => ∃ er : Int, e = .returned (.int .i64 er) ∧ w1.cell? ad = some v ∧ Calls Tryz.prog 15 #[v] w1 fun e w2 => ∃ want : Int, e = .returned (.int .i64 want) ∧ w2.cell? ad = some v ∧ PlayE p tb db v I R w2 er want
def PlayK (tb db : Nat) (fr to : List UInt8) (R : World → Prop) (w : World) : Prop :=
  Calls Tryz.prog 20 #[Pp tb, Sv fr, Sv to] w fun e w1 => ∃ a1 c1 ks, e = .returned (.slice a1 (List.length ks) c1) ∧ ks.length ≤ 100000 ∧ Calls Tryz.prog 21 #[Pp db, Sv fr, Sv to] w1 fun e w2 => ∃ a2 c2, e = .returned (.slice a2 ks.length c2) ∧ (∀ W, Kept [] w2 W → ReadsR 1 W (.slice a1 ks.length c1) (CS ks) ∧ ReadsR 1 W (.slice a2 ks.length c2) (CS ks)) ∧ ∀ W, Kept [] w2 W → Calls Tryz.prog 22 #[Pp tb, Sv fr] W fun e w3 => ∃ a n c val b, e = .returned (.tuple #[.slice a n c, .bool b]) ∧ Calls Tryz.prog 23 #[Pp db, Sv fr] w3 fun e w4 => ∃ a' n' c', e = .returned (.tuple #[.slice a' n' c', .bool b]) ∧ (Reads w4 (.slice a n c) val ∧ Reads w4 (.slice a' n' c') val) ∧ R w4
def PlayF (I : Nat → Nat → Nat → Nat → World → Prop) (w : World) : Prop :=
  Calls Tryz.prog 12 #[.int .i64 3001] w fun e w3 => ∃ q, e = .returned (Pp q) ∧ Calls Tryz.prog 11 #[Pp q, .int .i64 1, .int .i64 3000, .slice none 0 0] w3 fun e w4 => ∃ p, e = .returned (.tuple #[Pp p, .int .i64 0]) ∧ Calls Tryz.prog 13 #[Pp p, .int .i64 0] w4 fun e w5 => ∃ tb, e = .returned (.tuple #[Pp tb, .int .i64 0]) ∧ I p tb w5.heap.size 0 (w5.alloc (.cells #[.slice none 0 0] 38))
def PlayB (I : Nat → Nat → Nat → Nat → World → Prop) (R : World → Prop) (w : World) (b : Bool) : Prop :=
  (b = false ∧ Calls Tryz.prog 9 #[] w fun e w1 => e = .returned (.bool true) ∧ R w1) ∨ (b = true ∧ PlayF I w)
section
variable {w : World}
set_option maxRecDepth 100000 in
set_option maxHeartbeats 4000000 in
theorem plays_walk {R : World → Prop} {I : Nat → Nat → Nat → Nat → World → Prop} {a0 : Option Addr} {N c0 m : Nat} {fr to : List UInt8} (hm : m < 18446744073709551616) (hN : N ≤ 140737488355328)
    (HC : Calls Tryz.prog 9 #[] w fun e w1 => e = .returned (.bool true) ∧ Calls Tryz.prog 10 #[.slice a0 N c0] w1 fun e w2 => ∃ b : Bool, e = .returned (.bool b) ∧ PlayB I R w2 b)
    (HI : Hid (∀ p tb db j wr, I p tb db j wr → (j < N → j < 40 ∧ ∃ b o v, a0 = some ⟨b, o, none⟩ ∧ wr.cell? ⟨b, o + j, none⟩ = some v ∧ PlayA p tb db ⟨b, o + j, none⟩ v (I p tb db (j + 1)) R wr) ∧ (j = N → PlayK tb db fr to R wr))) :
    Calls Tryz.prog 3 #[.slice a0 N c0, .int .u64 (m : Int), Sv fr, Sv to] w fun e w' => e = .returned (.bool true) ∧ R w' := by
  go_enter Tryz.func3, Tryz.ntmps3
  go_wp2_with fail
  refine HC.mono ?_
  rintro e w1 ⟨rfl, HC⟩
  go_wp2_with fail
  refine HC.mono ?_
  rintro e w2 ⟨b, rfl, ⟨rfl, HC⟩ | ⟨rfl, HC⟩⟩
  · go_wp2_with fail
    refine HC.mono ?_
    rintro e w3 ⟨rfl, hR⟩
    have HR := Hid.mk hR
    clear hR HC
    go_wp2
    go_ret
    exact ⟨rfl, HR.out⟩
  · unfold PlayF at HC
    go_wp2_with fail
    refine HC.mono ?_
    rintro e w3 ⟨q, rfl, HC⟩
    go_wp2_with fail
    refine HC.mono ?_
    rintro e w4 ⟨p, rfl, HC⟩
    go_wp2_with fail
    refine HC.mono ?_
    rintro e w5 ⟨tb, rfl, HC⟩
    have HS := Hid.mk HC
    clear HC
    go_wp2_with fail
    generalize w5.heap.size = db at *
    obtain ⟨W5, hW5⟩ : ∃ W5, Hid (w5.alloc (.cells #[.slice none 0 0] 38) = W5) := ⟨_, rfl⟩
    rw [hW5.out] at HS ⊢
    clear hW5
    go_loopw [46] (fun i wr => ∃ j : Nat, i = .int .i64 (j : Int) ∧ j ≤ N ∧ Hid (I p tb db j wr)) (fun i _ => N - (intOf i).toNat)
    case atStart => exact ⟨0, rfl, by omega, HS⟩
    case round =>
      obtain ⟨j, rfl, hj, hI⟩ := hrel
      by_cases hlt : j < N
      · obtain ⟨hj40, b, o, v, rfl, d0, HC⟩ := (HI.out p tb db j wr hI.out).1 hlt
        clear hI HS
        unfold PlayA at HC
        go_wp2_with fail
        refine HC.mono ?_
        rintro e w6 ⟨er, rfl, d1, HC⟩
        clear d0
        go_wp2_with fail
        refine HC.mono ?_
        rintro e w7 ⟨want, rfl, d2, ⟨rfl, rfl, HC⟩ | ⟨rfl, rfl, HC⟩ | ⟨hr, rfl, HS3⟩⟩
        · clear d1
          go_wp2_with fail
          refine HC.mono ?_
          rintro e w8 ⟨a8, n8, c8, rfl, h8, hR⟩
          have HR := Hid.mk hR
          clear HC hR d2
          have i8 : decide ((n8 : Int) < 1500) = true := decide_eq_true (by omega)
          go_wp2
          go_ret
          first
          | exact ⟨rfl, HR.out⟩
          | exact ⟨congrArg (fun b => Ending.returned (Value.bool b)) i8, HR.out⟩
        · clear d1
          go_wp2_with fail
          refine HC.mono ?_
          rintro e w8 ⟨rfl, HC⟩
          go_wp2_with fail
          · refine HC.2.mono ?_
            rintro e w9 ⟨rfl, HC⟩
            unfold PlayD at HC
            go_wp2_with fail
            refine HC.mono ?_
            rintro e w10 ⟨rfl, hI⟩
            have HI2 := Hid.mk hI
            clear HC hI
            go_wp2
            go_roundw
            case rel => exact ⟨j + 1, by go_num, by omega, HI2⟩
            case measure => simp [intOf]; omega
          · refine (HC.1 : Calls _ _ _ _ _).mono ?_
            rintro e w10 ⟨rfl, hI⟩
            have HI2 := Hid.mk hI
            clear HC hI
            go_wp2
            go_roundw
            case rel => exact ⟨j + 1, by go_num, by omega, HI2⟩
            case measure => simp [intOf]; omega
        · rcases hr with rfl | rfl
          · clear d1 d2 HC
            go_wp2_with fail
            · refine HS3.2.mono ?_
              rintro e w9 ⟨rfl, HC⟩
              unfold PlayD at HC
              go_wp2_with fail
              refine HC.mono ?_
              rintro e w10 ⟨rfl, hI⟩
              have HI2 := Hid.mk hI
              clear hI
              go_wp2
              go_roundw
              case rel => exact ⟨j + 1, by go_num, by omega, HI2⟩
              case measure => simp [intOf]; omega
            · refine (HS3.1 : Calls _ _ _ _ _).mono ?_
              rintro e w10 ⟨rfl, hI⟩
              have HI2 := Hid.mk hI
              clear hI
              go_wp2
              go_roundw
              case rel => exact ⟨j + 1, by go_num, by omega, HI2⟩
              case measure => simp [intOf]; omega
          · clear d1 d2 HC
            go_wp2_with fail
            · refine HS3.2.mono ?_
              rintro e w9 ⟨rfl, HC⟩
              unfold PlayD at HC
              go_wp2_with fail
              refine HC.mono ?_
              rintro e w10 ⟨rfl, hI⟩
              have HI2 := Hid.mk hI
              clear hI
              go_wp2
              go_roundw
              case rel => exact ⟨j + 1, by go_num, by omega, HI2⟩
              case measure => simp [intOf]; omega
            · refine (HS3.1 : Calls _ _ _ _ _).mono ?_
              rintro e w10 ⟨rfl, hI⟩
              have HI2 := Hid.mk hI
              clear hI
              go_wp2
              go_roundw
              case rel => exact ⟨j + 1, by go_num, by omega, HI2⟩
              case measure => simp [intOf]; omega
      · obtain rfl : j = N := by omega
        have HC := (HI.out p tb db j wr hI.out).2 rfl
        clear hI HS HI
        unfold PlayK at HC
        go_wp2_with fail
        refine HC.mono ?_
        rintro e w6 ⟨a1, c1, ks, rfl, hk, HC⟩
        go_wp2_with fail
        refine HC.mono ?_
        rintro e w7 ⟨a2, c2, rfl, hrd, HC⟩
        have HRD := Hid.mk hrd
        have HG := Hid.mk HC
        obtain ⟨M, hM⟩ : ∃ M, Hid (ks.length = M) := ⟨_, rfl⟩
        rw [hM.out] at hk HRD ⊢
        clear hrd HC
        go_wp2_with fail
        go_loopw [109] (fun i wr => ∃ k : Nat, i = .int .i64 (k : Int) ∧ k ≤ M ∧ Kept [] w7 wr) (fun i _ => M - (intOf i).toNat)
        case atStart => exact ⟨0, rfl, by omega, Kept.refl [] w7⟩
        case round =>
          obtain ⟨k, rfl, hkM, kk⟩ := hrel
          by_cases hlt2 : k < M
          · obtain ⟨x, hx⟩ : ∃ x, ks[k]? = some x := ⟨_, List.getElem?_eq_getElem (by have := hM.out; omega)⟩
            obtain ⟨b1, o1, rfl, d1⟩ := csAt (HRD.out _ kk).1 hx
            obtain ⟨b2, o2, rfl, d2⟩ := csAt (HRD.out _ kk).2 hx
            have HK := Hid.mk kk
            have hkI : (k : Int) < (M : Int) := by omega
            clear hx kk HRD
            go_wp2_with fail
            go_quiet (fail)
            go_wp2
            go_roundw
            case rel => exact ⟨k + 1, by go_num, by omega, HK.out.drewN _⟩
            case measure => simp [intOf]; omega
          · obtain rfl : k = M := by omega
            have HC := HG.out _ kk
            clear kk HRD HG
            go_wp2_with fail
            refine HC.mono ?_
            rintro e w8 ⟨a, n, c, val, b, rfl, HC⟩
            go_wp2_with fail
            refine HC.mono ?_
            rintro e w9 ⟨a', n', c', rfl, ⟨r1, r2⟩, hR⟩
            have s1 := string_of (P := Tryz.prog) 48 5 Tryz.underlying48 9 Tryz.underlying5 Tryz.underlying9 _ _ _ r1
            have s2 := string_of (P := Tryz.prog) 48 5 Tryz.underlying48 9 Tryz.underlying5 Tryz.underlying9 _ _ _ r2
            have HR := Hid.mk hR
            clear HC hR r1 r2
            go_wp2
            go_ret
            exact ⟨rfl, HR.out⟩
end
end Go.Proofs.YtaefmhfkjpnbiaaGreat
/-
  TreePlays, whole.
-/
namespace Go.Proofs.YtaefmhfkjpnbiaaGreat
open Go.RowKit
set_option linter.unusedVariables false

/-- Before the list j: the tree has the table's keys and values. -/
structure PlayI (G : Prop) (w0 : World) (C S : Nat → Nat) (p tb db j : Nat) (w : World) (q : Nat) (vT : Value) (T : List KV) (ρ : Rho) (t : AT) (old : List Nat) (s : St) (L : List Ent) (fl : List Nat) : Prop where
  tre : Tre w0 w tb p q (TV db vT T) ρ t old s 1 3000 L fl
  its : (itsT t).map kv = T
  tab : IsTab w db vT T
  ok : TOk T (C j) (S j)
  ge : w0.heap.size ≤ db
  olds : old.length ≤ 1060 * j
  ws : s.ws.length ≤ 1460 * j
  down : s.down = false
  fuse : s.fuse < 0
  few : G
def PlayH (G : Prop) (w0 : World) (C S : Nat → Nat) (p tb db j : Nat) (w : World) : Prop := ∃ q vT T ρ t old s L fl, PlayI G w0 C S p tb db j w q vT T ρ t old s L fl
section
variable {G : Prop} {w0 w : World} {C S : Nat → Nat} {p tb db j q : Nat} {vT : Value} {T : List KV} {ρ : Rho} {t : AT} {old : List Nat} {s : St} {L : List Ent} {fl : List Nat}
theorem PlayI.same (h : PlayI G w0 C S p tb db j w q vT T ρ t old s L fl) (hC : C j ≤ 100000) : PlayD tb db (PlayH G w0 C S p tb db j) w := by
  refine (same_any h.tre h.its h.tab (Nat.le_trans h.ok.len hC) (fun x hx => (h.ok.each x hx).2)).mono ?_
  rintro e w1 ⟨rfl, k1⟩
  exact ⟨rfl, q, vT, T, ρ, t, old, s, L, fl, h.tre.kept k1, h.its, h.tab.keptV k1 (by simp), h.ok, h.ge, h.olds, h.ws, h.down, h.fuse, h.few⟩
theorem PlayI.both (h : PlayI G w0 C S p tb db j w q vT T ρ t old s L fl) (hC : C j ≤ 100000) (hj : j ≤ 40) : PlayS tb db (PlayH G w0 C S p tb db j) w := by
  refine ⟨h.same hC, (tre_settle h.tre (by have := h.olds; omega)).mono ?_⟩
  rintro e w1 ⟨rfl, L1, fl1, h1, k1⟩
  exact ⟨rfl, PlayI.same (L := L1) (fl := fl1) ⟨h1, h.its, h.tab.kp k1 (fun x hx => hx), h.ok, h.ge, by simp, h.ws, h.down, h.fuse, h.few⟩ hC⟩
theorem PlayI.later (h : PlayI G w0 C S p tb db j w q vT T ρ t old s L fl) {w' : World} (k : Kept [] w w') (hC : C j ≤ C (j + 1)) (hS : S j ≤ S (j + 1)) : PlayI G w0 C S p tb db (j + 1) w' q vT T ρ t old s L fl :=
  ⟨h.tre.kept k, h.its, h.tab.keptV k (by simp), h.ok.more hC hS, h.ge, by have := h.olds; omega, by have := h.ws; omega, h.down, h.fuse, h.few⟩
theorem play_step (h : PlayI G w0 C S p tb db j w q vT T ρ t old s L fl) {l : Lq} (hr : RowQ w0 l.sl l.rs) (hv : ValsQ w0 l.rs) {ad : Addr} (had : ∀ W, Kept [] w0 W → W.cell? ad = some l.sl) (hj : j < 40) (hC1 : C (j + 1) = C j + l.rs.length) (hS1 : S (j + 1) = S j + wgL l) (hC : C (j + 1) ≤ 500) (hS : S (j + 1) ≤ 60000) : PlayA p tb db ad l.sl (PlayH G w0 C S p tb db (j + 1)) (Kept [] w0) w := by
  have ho := h.olds
  have hw := h.ws
  have hok := h.ok
  have hlen : (itsT t).length ≤ C j := by
    have := hok.len
    rw [← h.its, List.length_map] at this
    exact this
  have hnew : WrongIs (l.rs.map Cq.c) 0 → TOk (tapp T (l.rs.map Cq.c)) (C (j + 1)) (S (j + 1)) := fun hw0 => by
    have hvs := hw0.vals
    unfold wgL at hS1
    exact (hok.app hw0).more (by rw [List.length_map]; omega) (by omega)
  refine (apply_any h.tre (hr.kept h.tre.k (by simp)) (hv.kept h.tre.k (by simp)) (by omega) (fun hw0 is his => ?_) (by omega) (by omega) h.down).mono ?_
  · rw [cst_kv, his, h.its]
    exact (hnew hw0).cost (by omega)
  rintro e w1 ⟨er, rfl, hap⟩
  have hk1 : Kept [] w0 w1 := by
    rcases hap with ⟨_, _, k1⟩ | ⟨_, ⟨_, _, _, _, _, _, _, h1, _⟩ | ⟨_, _, k1⟩ | ⟨_, hf, _⟩⟩
    · exact h.tre.k.trans k1 (by simp)
    · exact h1.k
    · exact h.tre.k.trans k1 (by simp)
    · have := h.fuse; omega
  refine ⟨er, rfl, had w1 hk1, (wrong_any (Hid.mk rfl) (hr.kept hk1 (by simp)) (by omega)).mono ?_⟩
  rintro e w2 ⟨want, rfl, hwant, k2⟩
  have hk2 := hk1.trans k2 (by simp)
  refine ⟨want, rfl, had w2 hk2, ?_⟩
  rcases hap with ⟨h0, hw0, k1⟩ | ⟨hw0, ⟨rfl, ρ1, t1, old1, s1, L1, fl1, h1, k1, hkv, _, ho1, hs1, hd1, hf1⟩ | ⟨rfl, ⟨w9, F9, ρ9, t9, g1, g2, g3⟩, k1⟩ | ⟨_, hf, _⟩⟩
  · exact .inr (.inr ⟨hw0.lit h0, hwant.one hw0, (h.later (k1.trans k2 (by simp)) (by omega) (by omega)).both (by omega) (by omega)⟩)
  · refine .inr (.inl ⟨rfl, hwant.one hw0, ?_⟩)
    have hD2 := (h.tab.kp k1 (fun x hx => hx)).keptV k2 (by simp)
    have h2 := h1.kept k2
    have HK : ∀ W, Kept [db] w2 W → Kept [] w0 W := fun W kW => hk2.trans kW (fun x hx => .inr (by simp at hx; rw [hx]; exact h.ge))
    refine (tabApply_any hD2 hok.up (Hid.mk rfl) (Hid.mk fun W kW => hr.kept (HK W kW) (by simp)) (Hid.mk fun W kW => hv.kept (HK W kW) (by simp)) (Hid.mk (by have := hok.len; omega)) (by omega)).mono ?_
    rintro e w3 ⟨rfl, v3, hD3, k3, hN3⟩
    have h3 := h2.turn (V' := TV db v3 (tapp T (l.rs.map Cq.c))) k3 (fun x hx => by simp at hx; rw [hx]; exact .inl rfl) (fun x hx => by
      rcases hN3 with ⟨hz, rfl⟩ | hf3
      · have : l.rs = [] := List.eq_nil_of_length_eq_zero hz
        rw [this] at hx
        exact .inl hx
      · rcases hx with rfl | ⟨_, hx⟩
        · exact .inl (.inl rfl)
        · exact .inr (hf3 x hx)) (fun x hx => TV.lt hD3 hx)
    refine ⟨rfl, PlayI.both (q := q) (vT := v3) (T := tapp T (l.rs.map Cq.c)) (ρ := ρ1) (t := t1) (old := old1) (s := s1) (L := L1) (fl := fl1) ⟨h3, by rw [hkv, h.its], hD3, hnew hw0, h.ge, by omega, by omega, hd1, by rw [hf1 h.fuse]; exact h.fuse, h.few⟩ (by omega) (by omega)⟩
  · refine .inl ⟨rfl, hwant.one hw0, ?_⟩
    have h2 := (h.tre.kept k1).kept k2
    refine (tre_free h2).mono ?_
    rintro e w3 ⟨v3, ns, rfl, ho3, hri, k3, hf3⟩
    obtain ⟨a3, c3, rfl, _, _⟩ := ho3.form
    refine ⟨a3, _, c3, rfl, ?_, hk2.trans k3 (by simp)⟩
    rw [h.its] at g2
    have hn := hnew hw0
    have e1 : (itsT t9).length ≤ 500 := by
      rw [← List.length_map (f := kv), g2]
      exact Nat.le_trans hn.len hC
    have e2 : ((itsT t9).map cst).sum ≤ 900 := by
      rw [cst_kv, g2]
      exact hn.cost (by omega)
    have e3 := blT_le g1 e1 e2
    have e4 := hri.1.length_eq
    omega
  · have := h.fuse
    omega
theorem play_end (h : PlayI G w0 C S p tb db j w q vT T ρ t old s L fl) (hC : C j ≤ 500) (fr to : List UInt8) : PlayK tb db fr to (Kept [] w0) w := by
  have hlen : T.length ≤ 100000 := Nat.le_trans h.ok.len (by omega)
  have hl : (itsT t).length ≤ 100000 := by
    rw [← List.length_map (f := kv), h.its]
    exact hlen
  have hk := tre_keys h.tre hl fr to
  rw [h.its] at hk
  refine hk.mono ?_
  rintro e w1 ⟨v1, rfl, ho1, k1, hf1⟩
  obtain ⟨a1, c1, e1, _, _⟩ := ho1.form
  rw [CS_length] at e1
  subst e1
  have hks : (keysIn fr to T).length ≤ 100000 := by
    unfold keysIn
    rw [List.length_map]
    exact Nat.le_trans (List.length_filter_le _ _) hlen
  refine ⟨a1, c1, keysIn fr to T, rfl, hks, (tabKeys_any (h.tab.keptV k1 (by simp)) hlen fr to).mono ?_⟩
  rintro e w2 ⟨v2, rfl, ho2, k2, hf2⟩
  obtain ⟨a2, c2, e2, _, _⟩ := ho2.form
  rw [CS_length] at e2
  subst e2
  have kw2 := k1.trans k2 (by simp)
  refine ⟨a2, c2, rfl, fun W kW => ⟨((ho1.kept k2 (by simp)).kept kW (by simp)).reads (CS_wide _), (ho2.kept kW (by simp)).reads (CS_wide _)⟩, fun W kW => ?_⟩
  have hW := kw2.trans kW (by simp)
  refine (tre_get (h.tre.kept hW) fr).mono ?_
  rintro e w3 ⟨v3, val, b, rfl, hr3, hg3, k3⟩
  rw [h.its] at hg3
  obtain ⟨a3, c3, rfl, _⟩ := id hr3
  refine ⟨a3, _, c3, val, b, rfl, ?_⟩
  have hW3 := hW.trans k3 (by simp)
  refine (tabGet_any (h.tab.keptV hW3 (by simp)) h.ok.up hlen (fun x hx => (h.ok.each x hx).2) fr).mono ?_
  rintro e w4 ⟨v4, val', b', rfl, hr4, hg4, k4⟩
  obtain ⟨rfl, rfl⟩ := hg3.one h.ok.up hg4
  obtain ⟨a4, c4, rfl, _⟩ := id hr4
  exact ⟨a4, _, c4, rfl, ⟨hr3.kept k4 (by simp), hr4⟩, h.tre.k.trans (hW3.trans k4 (by simp)) (by simp)⟩
end
set_option maxRecDepth 100000 in
theorem plays_all (w : World) {a0 : Option Addr} {c0 m : Nat} {ls : List Lq} {fr to : List UInt8} (hm : m < 18446744073709551616) (hr : RowL w (.slice a0 ls.length c0) ls) (hl : ls.length ≤ 140737488355328) (hvi : ∀ l ∈ ls, ValsQ w l.rs ∧ InQ l.rs) :
    Calls Tryz.prog 3 #[.slice a0 ls.length c0, .int .u64 (m : Int), Sv fr, Sv to] w fun e w' => e = .returned (.bool true) ∧ Kept [] w w' := by
  obtain ⟨C, hC⟩ : ∃ C : Nat → Nat, ∀ j, C j = ((ls.take j).map fun l => l.rs.length).sum := ⟨_, fun _ => rfl⟩
  obtain ⟨S, hS⟩ : ∃ S : Nat → Nat, ∀ j, S j = ((ls.take j).map wgL).sum := ⟨_, fun _ => rfl⟩
  have hCs : ∀ j l, ls[j]? = some l → C (j + 1) = C j + l.rs.length := fun j l h => by rw [hC, hC, tsum_succ (fun l : Lq => l.rs.length) ls j l h]
  have hSs : ∀ j l, ls[j]? = some l → S (j + 1) = S j + wgL l := fun j l h => by rw [hS, hS, tsum_succ wgL ls j l h]
  refine plays_walk (R := Kept [] w) (I := PlayH (FewOk ls) w C S) hm hl ((awake_any w).mono ?_) (Hid.mk fun p tb db j wr hI => ?_)
  · rintro e w1 ⟨rfl, k1⟩
    refine ⟨rfl, (few_any (Hid.mk rfl) hl (hr.kept k1 (by simp) (by simp)) (Hid.mk fun l hl => (hvi l hl).2)).mono ?_⟩
    rintro e w2 ⟨b, rfl, k2, hfew⟩
    refine ⟨b, rfl, ?_⟩
    have kk2 := k1.trans k2 (by simp)
    cases b with
    | false =>
      refine .inl ⟨rfl, (awake_any w2).mono ?_⟩
      rintro e w3 ⟨rfl, k3⟩
      exact ⟨rfl, kk2.trans k3 (by simp)⟩
    | true =>
      refine .inr ⟨rfl, ?_⟩
      unfold PlayF
      have e1 : ((3000 : Nat) : Int) = 3000 := by omega
      have e2 : ((3001 : Nat) : Int) = 3001 := by omega
      have hnew := psy_new (w0 := w) kk2 3001 1 3000 (by omega) (by omega) (by omega)
      rw [e1, e2] at hnew
      refine hnew.mono ?_
      rintro e w3 ⟨q, rfl, k3, h11⟩
      refine ⟨q, rfl, (h11 w3 (Kept.refl [] w3)).mono ?_⟩
      rintro e w4 ⟨p, fl, rfl, hfl, hsy, k4⟩
      refine ⟨p, rfl, (open_new hsy (by omega) (fun b hb => hb.elim) (fun b hb => hb.elim)).mono ?_⟩
      rintro e w5 ⟨tb, rfl, htb, hT, k5⟩
      refine ⟨tb, rfl, ?_⟩
      obtain ⟨W5, hW5⟩ : ∃ W5, w5.alloc (.cells #[.slice none 0 0] 38) = W5 := ⟨_, rfl⟩
      have kW5 : Kept [] w5 W5 := by rw [← hW5]; exact (Kept.refl [] w5).alloc _
      have hb5 : W5.heap[w5.heap.size]? = some (.cells #[.slice none 0 0] 38 (0, 0)) := by rw [← hW5]; exact heap_alloc_new w5 _
      rw [hW5]
      have hD5 : IsTab W5 w5.heap.size (.slice none 0 0) [] := ⟨hb5, ReadsR.nil 2 W5, by simp [Value.ownBlock]⟩
      have hT5 := hT.turn (V' := TV w5.heap.size (.slice none 0 0) []) kW5 (by simp) (fun x hx => by
        rcases hx with rfl | ⟨hx, _⟩
        · exact .inr (Nat.le_refl _)
        · exact absurd rfl hx) (fun x hx => TV.lt hD5 hx)
      exact ⟨q, _, [], _, none, [], _, [], fl, hT5, rfl, hD5, TOk.nil _ _, hT.k.size, by simp, by simp, rfl, by simp, hfew rfl⟩
  · obtain ⟨q, vT, T, ρ, t, old, s, L, fl, h⟩ := hI
    obtain ⟨f1, f2, f3⟩ := h.few
    have top : ∀ k, C k ≤ 500 ∧ S k ≤ 60000 := fun k => by
      rw [hC, hS]
      exact ⟨Nat.le_trans (tsum_le _ ls k) f2, Nat.le_trans (tsum_le _ ls k) f3⟩
    refine ⟨fun hlt => ?_, fun he => play_end h (top j).1 fr to⟩
    obtain ⟨l, hl⟩ : ∃ l, ls[j]? = some l := ⟨_, List.getElem?_eq_getElem hlt⟩
    have hm := List.mem_of_getElem? hl
    obtain ⟨b, o, rfl, _⟩ := hr.at hl
    have had : ∀ W, Kept [] w W → W.cell? ⟨b, o + j, none⟩ = some l.sl := fun W kW => by
      obtain ⟨b', o', e', g0⟩ := (hr.kept kW (by simp) (by simp)).at hl
      injection e' with e'
      injection e' with e1 e2 _
      subst e1 e2
      exact g0
    refine ⟨by omega, b, o, l.sl, rfl, had wr h.tre.k, ?_⟩
    exact play_step h (hr.each l hm) (hvi l hm).1 had (by omega) (hCs j l hl) (hSs j l hl) (top (j + 1)).1 (top (j + 1)).2
end Go.Proofs.YtaefmhfkjpnbiaaGreat
