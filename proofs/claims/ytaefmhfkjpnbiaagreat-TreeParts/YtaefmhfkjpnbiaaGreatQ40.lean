import Derived.Test.YtaefmhfkjpnbiaaGreatQ38
/-
  TreeParts, its calls in their order.
-/
namespace Go.Proofs.YtaefmhfkjpnbiaaGreat
open Go.RowKit
set_option linter.unusedVariables false

def PartE (ta tb db : Nat) (R : World → Prop) (w : World) : Prop := Calls Tryz.prog 19 #[Pp ta, Pp db] w fun e w1 => e = .returned (.bool true) ∧ Calls Tryz.prog 19 #[Pp tb, Pp db] w1 fun e w2 => e = .returned (.bool true) ∧ R w2
def PartO (tb : Nat) (I R : World → Prop) (w : World) (er : Int) : Prop := (er ≠ 0 ∧ R w) ∨ (er = 0 ∧ Calls Tryz.prog 18 #[Pp tb] w fun e w2 => e = .returned (.tuple #[]) ∧ I w2)
def PartS (tb : Nat) (v : Value) (I R : World → Prop) (w : World) : Prop := Calls Tryz.prog 14 #[Pp tb, v] w fun e w1 => ∃ er : Int, e = .returned (.int .i64 er) ∧ PartO tb I R w1 er
def PartA (ta tb : Nat) (v : Value) (I : Nat → Nat → Nat → Nat → World → Prop) (R : World → Prop) (w : World) (er : Int) : Prop := (er ≠ 0 ∧ R w) ∨ (er = 0 ∧ Calls Tryz.prog 17 #[Pp w.heap.size, v] (w.alloc (.cells #[.slice none 0 0] 38)) fun e w1 => e = .returned (.tuple #[]) ∧ I ta tb w.heap.size 0 w1)
def PartF (v : Value) (I : Nat → Nat → Nat → Nat → World → Prop) (R : World → Prop) (w : World) : Prop :=
  Calls Tryz.prog 12 #[.int .i64 4001] w fun e w1 => ∃ q, e = .returned (Pp q) ∧ Calls Tryz.prog 11 #[Pp q, .int .i64 1, .int .i64 4000, .slice none 0 0] w1 fun e w2 => ∃ p, e = .returned (.tuple #[Pp p, .int .i64 0]) ∧
  Calls Tryz.prog 12 #[.int .i64 4001] w2 fun e w3 => ∃ q', e = .returned (Pp q') ∧ Calls Tryz.prog 11 #[Pp q', .int .i64 1, .int .i64 4000, .slice none 0 0] w3 fun e w4 => ∃ p', e = .returned (.tuple #[Pp p', .int .i64 0]) ∧
  Calls Tryz.prog 13 #[Pp p, .int .i64 0] w4 fun e w5 => ∃ ta, e = .returned (.tuple #[Pp ta, .int .i64 0]) ∧ Calls Tryz.prog 13 #[Pp p', .int .i64 0] w5 fun e w6 => ∃ tb, e = .returned (.tuple #[Pp tb, .int .i64 0]) ∧
  Calls Tryz.prog 14 #[Pp ta, v] w6 fun e w7 => ∃ er : Int, e = .returned (.int .i64 er) ∧ PartA ta tb v I R w7 er
def PartW (v : Value) (I : Nat → Nat → Nat → Nat → World → Prop) (R : World → Prop) (w : World) (er : Int) : Prop := (er ≠ 0 ∧ Calls Tryz.prog 9 #[] w fun e w1 => e = .returned (.bool true) ∧ R w1) ∨ (er = 0 ∧ PartF v I R w)
def PartB (v : Value) (N : Nat) (I : Nat → Nat → Nat → Nat → World → Prop) (R : World → Prop) (w : World) (b : Bool) : Prop :=
  ((b = false ∨ 60 < N) ∧ Calls Tryz.prog 9 #[] w fun e w1 => e = .returned (.bool true) ∧ R w1) ∨ (b = true ∧ N ≤ 60 ∧ Calls Tryz.prog 15 #[v] w fun e w1 => ∃ er : Int, e = .returned (.int .i64 er) ∧ PartW v I R w1 er)
section
variable {w : World}
set_option maxRecDepth 100000 in
set_option maxHeartbeats 4000000 in
theorem parts_walk {R : World → Prop} {I : Nat → Nat → Nat → Nat → World → Prop} {a0 : Option Addr} {N c0 m : Nat} (hm : m < 256) (hN : N ≤ c0) (hN2 : N ≤ 140737488355328)
    (HC : Calls Tryz.prog 9 #[] w fun e w1 => e = .returned (.bool true) ∧ Calls Tryz.prog 10 #[.slice (some ⟨w1.heap.size, 0, none⟩) 1 1] (w1.alloc (.cells #[.slice a0 N c0] 40)) fun e w2 => ∃ b : Bool, e = .returned (.bool b) ∧ PartB (.slice a0 N c0) N I R w2 b)
    (HI : Hid (∀ ta tb db j wr, I ta tb db j wr → N ≤ 60 ∧ (j < N → PartS tb (.slice (cutA a0 c0 ((j + m) % N) 3) 1 (c0 - (j + m) % N)) (I ta tb db (j + 1)) R wr) ∧ (j = N → PartE ta tb db R wr))) :
    Calls Tryz.prog 8 #[.slice a0 N c0, .int .u8 (m : Int)] w fun e w' => e = .returned (.bool true) ∧ R w' := by
  have hcut : Hid (∀ k W, k < N → (Instr.slice 40 (.slice a0 N c0) (some (.int .i64 (k : Int))) (some (.int .i64 ((k : Int) + 1))) none).run Tryz.prog W = .ok (.slice (cutA a0 c0 k 3) 1 (c0 - k)) W) := Hid.mk fun k W hk => by
    have h := run_cutM rt40 W a0 N c0 k (k + 1) (by omega) (by omega)
    rw [Nat.add_sub_cancel_left] at h
    exact h
  go_enter Tryz.func8, Tryz.ntmps8
  go_wp2_with fail
  refine HC.mono ?_
  rintro e w1 ⟨rfl, HC⟩
  go_wp2_with fail
  refine HC.mono ?_
  rintro e w2 ⟨b, rfl, ⟨hb, HC⟩ | ⟨rfl, h60, HC⟩⟩
  · cases b with
    | false =>
      go_wp2_with fail
      refine HC.mono ?_
      rintro e w3 ⟨rfl, hR⟩
      have HR := Hid.mk hR
      clear hR HC
      go_wp2
      go_ret
      exact ⟨rfl, HR.out⟩
    | true =>
      have h60 : (60 : Int) < (N : Int) := by simp at hb; omega
      clear hb
      go_wp2_with fail
      refine HC.mono ?_
      rintro e w3 ⟨rfl, hR⟩
      have HR := Hid.mk hR
      clear hR HC
      go_wp2
      go_ret
      exact ⟨rfl, HR.out⟩
  · have d60 : decide ((60 : Int) < (N : Int)) = false := decide_eq_false (by omega)
    go_wp2_with fail
    refine HC.mono ?_
    rintro e w3 ⟨er, rfl, ⟨he, HC⟩ | ⟨rfl, HF⟩⟩
    · go_wp2_with fail
      refine HC.mono ?_
      rintro e w3 ⟨rfl, hR⟩
      have HR := Hid.mk hR
      clear hR HC
      go_wp2
      go_ret
      exact ⟨rfl, HR.out⟩
    unfold PartF at HF
    clear HC
    have HC := HF
    clear HF
    go_wp2_with fail
    refine HC.mono ?_
    rintro e w4 ⟨q, rfl, HC⟩
    go_wp2_with fail
    refine HC.mono ?_
    rintro e w5 ⟨p, rfl, HC⟩
    go_wp2_with fail
    refine HC.mono ?_
    rintro e w6 ⟨q', rfl, HC⟩
    go_wp2_with fail
    refine HC.mono ?_
    rintro e w7 ⟨p', rfl, HC⟩
    go_wp2_with fail
    refine HC.mono ?_
    rintro e w8 ⟨ta, rfl, HC⟩
    go_wp2_with fail
    refine HC.mono ?_
    rintro e w9 ⟨tb, rfl, HC⟩
    go_wp2_with fail
    refine HC.mono ?_
    rintro e w10 ⟨er, rfl, ⟨he, hR⟩ | ⟨rfl, HF⟩⟩
    · have HR := Hid.mk hR
      clear hR HC
      go_wp2
      go_ret
      exact ⟨rfl, HR.out⟩
    clear HC
    go_wp2_with fail
    refine HF.mono ?_
    rintro e w11 ⟨rfl, hI⟩
    have HS := Hid.mk hI
    clear HF hI
    generalize w10.heap.size = db at *
    go_wp2_with fail
    go_loopw [66] (fun i wr => ∃ j : Nat, i = .int .i64 (j : Int) ∧ j ≤ N ∧ Hid (I ta tb db j wr)) (fun i _ => N - (intOf i).toNat)
    case atStart => exact ⟨0, rfl, by omega, HS⟩
    case round =>
      obtain ⟨j, rfl, hj, hI⟩ := hrel
      by_cases hlt : j < N
      · have HC := (HI.out ta tb db j wr hI.out).2.1 hlt
        obtain ⟨k, hk⟩ : ∃ k, Hid ((j + m) % N = k) := ⟨_, rfl⟩
        rw [hk.out] at HC
        have hkN : k < N := by rw [← hk.out]; exact Nat.mod_lt _ (by omega)
        have hcutk := fun W => hcut.out k W hkN
        have hrem : Int.tmod ((j : Int) + (m : Int)) (N : Int) = (k : Int) := by
          rw [← hk.out]
          exact (Int.ofNat_tmod (j + m) N).symm
        clear hI HS
        unfold PartS at HC
        go_wp2_with fail
        refine HC.mono ?_
        rintro e w12 ⟨er, rfl, ⟨he, hR⟩ | ⟨rfl, HF⟩⟩
        · have HR := Hid.mk hR
          clear hR HC
          go_wp2
          go_ret
          exact ⟨rfl, HR.out⟩
        · clear HC
          go_wp2_with fail
          refine HF.mono ?_
          rintro e w13 ⟨rfl, hI⟩
          have HI2 := Hid.mk hI
          clear HF hI
          go_wp2
          go_roundw
          case rel => exact ⟨j + 1, by go_num, by omega, HI2⟩
          case measure => simp [intOf]; omega
      · obtain rfl : j = N := by omega
        have HC := (HI.out ta tb db j wr hI.out).2.2 rfl
        clear hI HS HI
        unfold PartE at HC
        go_wp2_with fail
        refine HC.mono ?_
        rintro e w12 ⟨rfl, HC⟩
        go_wp2_with fail
        refine HC.mono ?_
        rintro e w13 ⟨rfl, hR⟩
        have HR := Hid.mk hR
        clear hR HC
        go_wp2
        go_ret
        exact ⟨rfl, HR.out⟩
end
end Go.Proofs.YtaefmhfkjpnbiaaGreat
/-
  Two trees side by side; changes in another order.
-/
namespace Go.Proofs.YtaefmhfkjpnbiaaGreat
open Go.RowKit
set_option linter.unusedVariables false

theorem upk_ext {A B : List KV} (hA : UpK A) (hB : UpK B) (h : ∀ x, x ∈ A ↔ x ∈ B) : A = B := by
  have nd : ∀ C : List KV, UpK C → C.Nodup := fun C hC => by
    have h2 : C.Pairwise fun a b => a.1 < b.1 := hC
    refine h2.imp ?_
    intro a b hab e
    rw [e] at hab
    exact klt_irrefl b.1 hab
  have hp : A.Perm B := (List.perm_ext_iff_of_nodup (nd A hA) (nd B hB)).2 h
  have hA2 : A.Pairwise fun a b => a.1 < b.1 := hA
  have hB2 : B.Pairwise fun a b => a.1 < b.1 := hB
  exact List.Perm.eq_of_pairwise (fun x y _ _ h1 h2 => absurd h2 (klt_asymm h1)) hA2 hB2 hp
theorem tapp_perm {l m : List Cg} (hp : l.Perm m) (hn : (l.map Cg.key).Nodup) {T : List KV} (hu : UpK T) : tapp T l = tapp T m := by
  have hn' : (m.map Cg.key).Nodup := (hp.map Cg.key).nodup_iff.1 hn
  refine upk_ext (up_tapp _ hu) (up_tapp _ hu) fun x => ?_
  rw [mem_tapp l hn, mem_tapp m hn']
  simp only [hp.mem_iff]
theorem WrongIs.of {l : List Cg} (hn : (l.map Cg.key).Nodup) (hc : ∀ c ∈ l, 1 ≤ c.key.length ∧ c.key.length ≤ 64 ∧ c.val.length ≤ 20000) : WrongIs l 0 := by
  refine .inr (.inr ⟨?_, ?_, rfl⟩)
  · rintro (⟨c, h1, h2⟩ | h)
    · have := hc c h1; omega
    · exact h hn
  · rintro ⟨c, h1, h2⟩
    have := hc c h1
    omega
theorem WrongIs.take {l : List Cg} (h : WrongIs l 0) (j : Nat) : WrongIs (l.take j) 0 := by
  obtain ⟨h1, h2⟩ := h.zero
  exact .of (List.Nodup.sublist ((List.take_sublist j l).map Cg.key) h1) (fun c hc => h2 c (List.mem_of_mem_take hc))
/-- The list, begun at another place. -/
def rot {α : Type} (l : List α) (r : Nat) : List α := l.drop r ++ l.take r
theorem rot_perm {α : Type} (l : List α) (r : Nat) : (rot l r).Perm l := by
  unfold rot
  exact List.perm_append_comm.trans (List.Perm.of_eq (List.take_append_drop r l))
theorem rot_at {α : Type} (l : List α) (m j : Nat) (hj : j < l.length) : (rot l (m % l.length))[j]? = l[(j + m) % l.length]? := by
  have hN : 0 < l.length := by omega
  have hr := Nat.mod_lt m hN
  have e : (j + m) % l.length = (j + m % l.length) % l.length := by rw [Nat.add_mod_mod]
  rw [e]
  generalize m % l.length = r at *
  unfold rot
  by_cases h : j + r < l.length
  · rw [Nat.mod_eq_of_lt h, List.getElem?_append_left (by rw [List.length_drop]; omega), List.getElem?_drop, Nat.add_comm]
  · have h2 : (j + r) % l.length = j + r - l.length := by rw [Nat.mod_eq_sub_mod (by omega), Nat.mod_eq_of_lt (by omega)]
    rw [h2, List.getElem?_append_right (by rw [List.length_drop]; omega), List.length_drop, List.getElem?_take_of_lt (by omega)]
    congr 1
    omega
theorem Kept.between {S : List Nat} {w0 w w' : World} (k : Kept S w w') (h0 : Kept [] w0 w) (h0' : Kept [] w0 w') : Kept (S.filter fun x => decide (w0.heap.size ≤ x) && decide (x < w.heap.size)) w w' :=
  ⟨k.os, k.tape, k.output, k.size, fun b hb hn => by
    by_cases hS : b ∈ S
    · by_cases hlt : b < w0.heap.size
      · rw [h0'.block b hlt (by simp), h0.block b hlt (by simp)]
      · exact absurd (List.mem_filter.2 ⟨hS, by simp; omega⟩) hn
    · exact k.block b hb hS⟩
section
variable {w0 w1 w w' : World} {tb p q : Nat} {V V' X X' : Nat → Prop} {ρ : Rho} {t : AT} {old : List Nat} {s : St} {fr ct : Nat} {L : List Ent} {fl : List Nat}
theorem SyP.base (h : SyP w1 w q p s fr ct L fl X) (k : Kept [] w0 w1) (hX : ∀ x, X' x → X x ∨ x < w1.heap.size) : SyP w0 w q p s fr ct L fl X' := by
  obtain ⟨F, G, T, hD, hP, hT, hFG, hO, hK, hH⟩ := h
  refine ⟨F, G, T, hD, hP, hT, hFG, hO, k.trans hK (by simp), fun x hx => ⟨Nat.le_trans k.size (hH x hx).1, fun hm => ?_⟩⟩
  rcases hX x hm with h | h
  · exact (hH x hx).2 h
  · have := (hH x hx).1
    omega
theorem Tre.vlt (h : Tre w0 w tb p q V ρ t old s fr ct L fl) {x : Nat} (hx : V x) : x < w.heap.size := by
  obtain ⟨T, vo, h⟩ := h
  exact h.lt x (.inr (.inr (.inr hx)))
/-- Memory of others' has turned, and there is more of it. -/
theorem Tre.aside (h : Tre w0 w tb p q V ρ t old s fr ct L fl) {S : List Nat} (k : Kept S w w') (h0 : Kept [] w0 w') (hS : ∀ x ∈ S, w0.heap.size ≤ x → x < w.heap.size → V x) : Tre w0 w' tb p q (fun x => V x ∨ (w.heap.size ≤ x ∧ x < w'.heap.size)) ρ t old s fr ct L fl := by
  refine h.turn (k.between h.k h0) (fun x hx => ?_) (fun x hx => hx.imp id And.left) (fun x hx => ?_)
  · obtain ⟨h1, h2⟩ := List.mem_filter.1 hx
    simp at h2
    exact hS x h1 h2.1 h2.2
  · rcases hx with hx | hx
    · exact Nat.lt_of_lt_of_le (h.vlt hx) k.size
    · exact hx.2
/-- All memory is one's or the other's. -/
def Cover (w0 w : World) (Va Vb : Nat → Prop) : Prop := ∀ x, w0.heap.size ≤ x → x < w.heap.size → Va x ∨ Vb x
theorem Cover.symm {Va Vb : Nat → Prop} (h : Cover w0 w Va Vb) : Cover w0 w Vb Va := fun x h1 h2 => (h x h1 h2).symm
/-- The other tree has worked. -/
theorem Tre.besides {Va Vb : Nat → Prop} (h : Tre w0 w tb p q Va ρ t old s fr ct L fl) (hc : Cover w0 w Va Vb) (k : KP Vb w w') (h0 : Kept [] w0 w') : Tre w0 w' tb p q (fun x => Va x ∨ (w.heap.size ≤ x ∧ x < w'.heap.size)) ρ t old s fr ct L fl ∧ Cover w0 w' (fun x => Va x ∨ (w.heap.size ≤ x ∧ x < w'.heap.size)) Vb := by
  obtain ⟨S, k, hS⟩ := k
  refine ⟨h.aside k h0 fun x hx h1 h2 => (hc x h1 h2).resolve_right fun hv => hS x hv hx, fun x h1 h2 => ?_⟩
  rcases Nat.lt_or_ge x w.heap.size with hlt | hge
  · exact (hc x h1 hlt).imp .inl id
  · exact .inl (.inr ⟨hge, h2⟩)
end
end Go.Proofs.YtaefmhfkjpnbiaaGreat
/-
  TreeParts, whole.
-/
namespace Go.Proofs.YtaefmhfkjpnbiaaGreat
open Go.RowKit
set_option linter.unusedVariables false

/-- Before the change j of the list ds: the one tree has it all, the other its first j changes. -/
structure PartI (w0 : World) (ds : List Cg) (T : List KV) (p q p' q' ta tb db j : Nat) (w : World) (Va Vb : Nat → Prop) (vT : Value) (ρa : Rho) (tA : AT) (oa : List Nat) (sa : St) (La : List Ent) (fa : List Nat) (ρb : Rho) (tB : AT) (sb : St) (Lb : List Ent) (fb : List Nat) : Prop where
  a : Tre w0 w ta p q Va ρa tA oa sa 1 4000 La fa
  b : Tre w0 w tb p' q' Vb ρb tB [] sb 1 4000 Lb fb
  cover : Cover w0 w Va Vb
  aT : (itsT tA).map kv = T
  bT : (itsT tB).map kv = tapp [] (ds.take j)
  tab : IsTab w db vT T
  tv : ∀ x, TV db vT T x → Vb x
  ws : sb.ws.length ≤ 1460 * j
  down : sb.down = false
  fuse : sb.fuse < 0
def PartH (w0 : World) (ds : List Cg) (T : List KV) (p q p' q' ta tb db j : Nat) (w : World) : Prop := ∃ Va Vb vT ρa tA oa sa La fa ρb tB sb Lb fb, PartI w0 ds T p q p' q' ta tb db j w Va Vb vT ρa tA oa sa La fa ρb tB sb Lb fb
theorem Applied.k {w0 w : World} {tb p q : Nat} {V : Nat → Prop} {ρ : Rho} {t : AT} {old : List Nat} {s : St} {fr ct : Nat} {L : List Ent} {fl : List Nat} {list : List Cg} {er : Int} {w' : World} (h : Applied w0 w tb p q V ρ t old s fr ct L fl list er w') (k : Kept [] w0 w) : Kept [] w0 w' := by
  rcases h with ⟨_, _, k1⟩ | ⟨_, ⟨_, _, _, _, _, _, _, h1, _⟩ | ⟨_, _, k1⟩ | ⟨_, _, _, _, _, h1, _⟩⟩
  · exact k.trans k1 (by simp)
  · exact h1.k
  · exact k.trans k1 (by simp)
  · exact h1.k
section
variable {w0 w : World} {ds : List Cg} {T : List KV} {p q p' q' ta tb db j : Nat} {Va Vb : Nat → Prop} {vT : Value} {ρa : Rho} {tA : AT} {oa : List Nat} {sa : St} {La : List Ent} {fa : List Nat} {ρb : Rho} {tB : AT} {sb : St} {Lb : List Ent} {fb : List Nat}
theorem part_ok (hw : WrongIs ds 0) (hB : (ds.map fun c => c.val.length).sum ≤ 60000) (j : Nat) : TOk (tapp [] (ds.take j)) (min j ds.length) 60000 := by
  have h := (TOk.nil 0 0).app (hw.take j)
  refine h.more (by rw [List.length_take]; omega) ?_
  have := tsum_le (fun c : Cg => c.val.length) ds j
  omega
theorem part_step (h : PartI w0 ds T p q p' q' ta tb db j w Va Vb vT ρa tA oa sa La fa ρb tB sb Lb fb) {v : Value} {x : Cq} (hr : RowQ w0 v [x]) (hv : ValsQ w0 [x]) (hx : ds[j]? = some x.c) (hj : j < 60) (hw : WrongIs ds 0) (hB : (ds.map fun c => c.val.length).sum ≤ 60000) : PartS tb v (PartH w0 ds T p q p' q' ta tb db (j + 1)) (Kept [] w0) w := by
  have hws := h.ws
  have hok := part_ok hw hB j
  have hnx : tapp (tapp [] (ds.take j)) [x.c] = tapp [] (ds.take (j + 1)) := by rw [tsnoc hx, tapp_append]
  have hlen : (itsT tB).length ≤ 60 := by
    have := hok.len
    rw [← h.bT, List.length_map] at this
    omega
  refine (apply_any h.b (hr.kept h.b.k (by simp)) (hv.kept h.b.k (by simp)) (by simp; omega) (fun _ is his => ?_) (by simp) (by omega) h.down).mono ?_
  · rw [cst_kv, his, h.bT]
    simp only [List.map_cons, List.map_nil]
    rw [hnx]
    exact (part_ok hw hB (j + 1)).cost (by omega)
  rintro e w1 ⟨er, rfl, hap⟩
  refine ⟨er, rfl, ?_⟩
  have hk := hap.k h.b.k
  by_cases he : er = 0
  · subst he
    refine .inr ⟨rfl, ?_⟩
    rcases hap with ⟨h0, _⟩ | ⟨_, ⟨_, ρ1, t1, old1, s1, L1, fl1, h1, k1, hkv, _, ho1, hs1, hd1, hf1⟩ | ⟨h0, _⟩ | ⟨h0, _⟩⟩
    · exact absurd rfl h0
    · obtain ⟨ha1, hc1⟩ := h.a.besides h.cover k1 hk
      have hD1 := h.tab.kp k1 h.tv
      refine (tre_settle h1 (by simp at ho1; omega)).mono ?_
      rintro e w2 ⟨rfl, L2, fl2, h2, k2⟩
      obtain ⟨ha2, hc2⟩ := ha1.besides hc1 k2 h2.k
      refine ⟨rfl, _, Vb, vT, ρa, tA, oa, sa, La, fa, ρ1, t1, s1, L2, fl2, ha2, h2, hc2, h.aT, ?_, hD1.kp k2 h.tv, h.tv, by omega, hd1, by rw [hf1 h.fuse]; exact h.fuse⟩
      rw [hkv, h.bT]
      exact hnx
    · omega
    · omega
  · exact .inl ⟨he, hk⟩
theorem part_end (h : PartI w0 ds T p q p' q' ta tb db j w Va Vb vT ρa tA oa sa La fa ρb tB sb Lb fb) (hj : ds.length ≤ j) (hT : tapp [] ds = T) (hw : WrongIs ds 0) (hB : (ds.map fun c => c.val.length).sum ≤ 60000) (hl : ds.length ≤ 60) : PartE ta tb db (Kept [] w0) w := by
  have hok := part_ok hw hB j
  have hbT := h.bT
  rw [List.take_of_length_le hj, hT] at hok hbT
  have hlen : T.length ≤ 100000 := by have := hok.len; omega
  refine (same_any h.a h.aT h.tab hlen (fun x hx => (hok.each x hx).2)).mono ?_
  rintro e w1 ⟨rfl, k1⟩
  have hb1 := h.b.kept k1
  refine ⟨rfl, (same_any hb1 hbT (h.tab.keptV k1 (by simp)) hlen (fun x hx => (hok.each x hx).2)).mono ?_⟩
  rintro e w2 ⟨rfl, k2⟩
  exact ⟨rfl, hb1.k.trans k2 (by simp)⟩
end
theorem row_one {w : World} {a : Option Addr} {c k : Nat} {rs : List Cq} {x : Cq} (h : RowQ w (.slice a rs.length c) rs) (hc : rs.length ≤ c) (hx : rs[k]? = some x) : RowQ w (.slice (cutA a c k 3) 1 (c - k)) [x] := by
  have hk : k < rs.length := (List.getElem?_eq_some_iff.1 hx).1
  have g := ReadsR.cut (i := k) (j := k + 1) (m := c) (CQ_length rs).symm h (by omega) (by omega) (by omega) (Nat.le_refl c)
  rw [Nat.add_sub_cancel_left] at g
  have e : ((CQ rs).take (k + 1)).drop k = CQ [x] := by
    have h1 : (CQ rs)[k]? = some (encQ x) := by unfold CQ; rw [List.getElem?_map, hx]; rfl
    rw [tsnoc h1, List.drop_append, List.length_take, CQ_length, List.drop_of_length_le (by rw [List.length_take]; omega), Nat.min_eq_left (by omega), Nat.sub_self]
    rfl
  rw [e] at g
  exact g
set_option maxRecDepth 100000 in
theorem parts_all (w : World) {a0 : Option Addr} {c0 m : Nat} {rs : List Cq} (hm : m < 256) (hr : RowQ w (.slice a0 rs.length c0) rs) (hv : ValsQ w rs) (hi : InQ rs) :
    Calls Tryz.prog 8 #[.slice a0 rs.length c0, .int .u8 (m : Int)] w fun e w' => e = .returned (.bool true) ∧ Kept [] w w' := by
  have hcap : rs.length ≤ c0 := by
    obtain ⟨_, _, e, h1, _⟩ := hr.form
    injection e with _ _ e
    rw [e]
    exact h1
  obtain ⟨ds, hds⟩ : ∃ ds, ds = (rot rs (m % rs.length)).map Cq.c := ⟨_, rfl⟩
  have hperm : ds.Perm (rs.map Cq.c) := by rw [hds]; exact (rot_perm rs _).map Cq.c
  have hdl : ds.length = rs.length := by rw [hperm.length_eq, List.length_map]
  refine parts_walk (R := Kept [] w) (I := fun ta tb db j wr => rs.length ≤ 60 ∧ WrongIs (rs.map Cq.c) 0 ∧ (rs.map wgt).sum ≤ 60000 ∧ ∃ p q p' q', PartH w ds (tapp [] (rs.map Cq.c)) p q p' q' ta tb db j wr) hm hcap (by have := hi.1; omega) ((awake_any w).mono ?_) (Hid.mk fun ta tb db j wr hI => ?_)
  · rintro e w1 ⟨rfl, k1⟩
    obtain ⟨W1, hW1⟩ : ∃ W1, w1.alloc (.cells #[.slice a0 rs.length c0] 40) = W1 := ⟨_, rfl⟩
    have kW : Kept [] w1 W1 := by rw [← hW1]; exact (Kept.refl [] w1).alloc _
    have hb : W1.heap[w1.heap.size]? = some (.cells #[.slice a0 rs.length c0] 40 (0, 0)) := by rw [← hW1]; exact heap_alloc_new w1 _
    have kk1 := k1.trans kW (by simp)
    rw [hW1]
    have hL : RowL W1 (.slice (some ⟨w1.heap.size, 0, none⟩) 1 1) [⟨rs, a0, c0⟩] := by
      refine ⟨⟨_, 1, rfl, by simp [CL], by unfold maxLen; omega, by simp, fun _ => ⟨w1.heap.size, 0, rfl, fun j r hj i x hx => ?_⟩⟩, fun l hl => ?_⟩
      · cases j with
        | zero =>
          simp [CL] at hj
          subst hj
          cases i with
          | zero => simp at hx; subst hx; simp [World.cell?, hb]
          | succ i => simp at hx
        | succ j => simp [CL] at hj
      · simp at hl
        subst hl
        exact hr.kept kk1 (by simp)
    have hin : ∀ l ∈ ([⟨rs, a0, c0⟩] : List Lq), l.rs.length ≤ 4398046511104 ∧ ∀ x ∈ l.rs, x.c.val.length ≤ 140737488355328 ∧ x.c.key.length ≤ 140737488355328 := fun l hl => by
      simp only [List.mem_cons, List.not_mem_nil, or_false] at hl
      subst hl
      exact hi
    refine ⟨rfl, (few_any (N := 1) (ls := [⟨rs, a0, c0⟩]) (Hid.mk rfl) (by omega) hL (Hid.mk hin)).mono ?_⟩
    rintro e w2 ⟨b, rfl, k2, hfew⟩
    refine ⟨b, rfl, ?_⟩
    have kk2 := kk1.trans k2 (by simp)
    have hno : Calls Tryz.prog 9 #[] w2 fun e w1 => e = .returned (.bool true) ∧ Kept [] w w1 := (awake_any w2).mono fun e w3 ⟨he, k3⟩ => ⟨he, kk2.trans k3 (by simp)⟩
    by_cases h60 : 60 < rs.length
    · exact .inl ⟨.inr h60, hno⟩
    cases b with
    | false => exact .inl ⟨.inl rfl, hno⟩
    | true =>
      obtain ⟨_, f2, f3⟩ := hfew rfl
      simp [wgL] at f2 f3
      refine .inr ⟨rfl, by omega, (wrong_any (Hid.mk rfl) (hr.kept kk2 (by simp)) (by omega)).mono ?_⟩
      rintro e w3 ⟨er, rfl, hw, k3⟩
      refine ⟨er, rfl, ?_⟩
      have kk3 := kk2.trans k3 (by simp)
      by_cases he : er = 0
      case neg => exact .inl ⟨he, (awake_any w3).mono fun e w4 ⟨he, k4⟩ => ⟨he, kk3.trans k4 (by simp)⟩⟩
      subst he
      refine .inr ⟨rfl, ?_⟩
      unfold PartF
      have e1 : ((4000 : Nat) : Int) = 4000 := by omega
      have e2 : ((4001 : Nat) : Int) = 4001 := by omega
      have hnew := psy_new (w0 := w) kk3 4001 1 4000 (by omega) (by omega) (by omega)
      rw [e1, e2] at hnew
      refine hnew.mono ?_
      rintro e w4 ⟨q, rfl, k4, h11⟩
      refine ⟨q, rfl, (h11 w4 (Kept.refl [] w4)).mono ?_⟩
      rintro e wA ⟨p, fl, rfl, hfl, hsy, kA⟩
      have hnew2 := psy_new (w0 := wA) (Kept.refl [] wA) 4001 1 4000 (by omega) (by omega) (by omega)
      rw [e1, e2] at hnew2
      refine ⟨p, rfl, hnew2.mono ?_⟩
      rintro e w5 ⟨q', rfl, k5, h11'⟩
      refine ⟨q', rfl, (h11' w5 (Kept.refl [] w5)).mono ?_⟩
      rintro e wB ⟨p', fl', rfl, hfl', hsy', kB⟩
      have kAB : Kept [] wA wB := k5.trans kB (by simp)
      have kwA : Kept [] w wA := hsy.k
      have hsa := (hsy.more (Y := fun x => wA.heap.size ≤ x) kAB (fun y hy => hy)).less (Y := fun x => wA.heap.size ≤ x ∧ x < wB.heap.size) (fun x hx => .inl hx.1)
      refine ⟨p', rfl, (open_new hsa (by omega) (fun b hb => hb.2) (fun b hb => Nat.le_trans kwA.size hb.1)).mono ?_⟩
      rintro e wC ⟨ta, rfl, hta, hA, kC⟩
      have hsb0 := hsy'.base (w0 := w) (X' := fun x => w.heap.size ≤ x ∧ x < wA.heap.size) kwA (fun x hx => .inr hx.2)
      have hsb := (hsb0.more (Y := fun x => wB.heap.size ≤ x) kC (fun y hy => hy)).less (Y := fun x => (w.heap.size ≤ x ∧ x < wA.heap.size) ∨ (wB.heap.size ≤ x ∧ x < wC.heap.size)) (fun x hx => hx.elim .inr (fun h => .inl h.1))
      have zAB := kAB.size
      have zC := kC.size
      have zA := kwA.size
      refine ⟨ta, rfl, (open_new hsb (by omega) (fun b hb => by omega) (fun b hb => by omega)).mono ?_⟩
      rintro e wD ⟨tb, rfl, htb, hB, kD⟩
      have zD := kD.size
      have hA2 := hA.aside kD hB.k (by simp)
      have hcov : Cover w wD (fun x => (wA.heap.size ≤ x ∧ x < wB.heap.size) ∨ (wC.heap.size ≤ x ∧ x < wD.heap.size)) (fun x => (w.heap.size ≤ x ∧ x < wA.heap.size) ∨ (wB.heap.size ≤ x ∧ x < wC.heap.size)) := fun x h1 h2 => by omega
      have hvals := hw.vals
      refine ⟨tb, rfl, (apply_any hA2 (hr.kept hA2.k (by simp)) (hv.kept hA2.k (by simp)) (by simp [itsT]; omega) (fun hw is his => ?_) (by simp) (by simp) rfl).mono ?_⟩
      · rw [cst_kv, his]
        exact ((TOk.nil 0 0).app hw).cost (by omega)
      rintro e wE ⟨er, rfl, hap⟩
      refine ⟨er, rfl, ?_⟩
      have hkE := hap.k hA2.k
      by_cases he : er = 0
      case neg => exact .inl ⟨he, hkE⟩
      subst he
      refine .inr ⟨rfl, ?_⟩
      rcases hap with ⟨h0, _⟩ | ⟨_, ⟨_, ρ1, t1, old1, s1, L1, fl1, h1, k1, hkv, _⟩ | ⟨h0, _⟩ | ⟨h0, _⟩⟩
      · exact absurd rfl h0
      · obtain ⟨hB1, hc1⟩ := hB.besides hcov.symm k1 hkE
        obtain ⟨W5, hW5⟩ : ∃ W5, wE.alloc (.cells #[.slice none 0 0] 38) = W5 := ⟨_, rfl⟩
        have kW5 : Kept [] wE W5 := by rw [← hW5]; exact (Kept.refl [] wE).alloc _
        have hb5 : W5.heap[wE.heap.size]? = some (.cells #[.slice none 0 0] 38 (0, 0)) := by rw [← hW5]; exact heap_alloc_new wE _
        have hlt5 : wE.heap.size < W5.heap.size := (Array.getElem?_eq_some_iff.1 hb5).1
        rw [hW5]
        have hD5 : IsTab W5 wE.heap.size (.slice none 0 0) [] := ⟨hb5, ReadsR.nil 2 W5, by simp [Value.ownBlock]⟩
        have kE5 := hkE.trans kW5 (by simp)
        have zE := hkE.size
        have hA5 := h1.aside kW5 kE5 (by simp)
        have hB5 := hB1.aside kW5 kE5 (by simp)
        have HK : ∀ W, Kept [wE.heap.size] W5 W → Kept [] w W := fun W kW => kE5.trans kW (fun x hx => .inr (by simp at hx; rw [hx]; exact zE))
        refine (tabApply_any hD5 List.Pairwise.nil (Hid.mk rfl) (Hid.mk fun W kW => hr.kept (HK W kW) (by simp)) (Hid.mk fun W kW => hv.kept (HK W kW) (by simp)) (Hid.mk (by simp; omega)) (by omega)).mono ?_
        rintro e w7 ⟨rfl, v7, hD7, k7, hN7⟩
        have hk7 := HK w7 k7
        have hA7 := hA5.aside k7 hk7 (fun x hx _ _ => by simp at hx; rw [hx]; exact .inr ⟨Nat.le_refl _, hlt5⟩)
        have hB7 := hB5.aside k7 hk7 (fun x hx _ _ => by simp at hx; rw [hx]; exact .inr ⟨Nat.le_refl _, hlt5⟩)
        refine ⟨rfl, by omega, hw, by omega, p, q, p', q', _, _, v7, ρ1, t1, old1, s1, L1, fl1, _, none, _, [], fl', hA7, hB7, fun x g1 g2 => ?_, hkv, by simp [itsT, tapp], hD7, fun x hx => ?_, by simp, rfl, by simp⟩
        · rcases Nat.lt_or_ge x wE.heap.size with g3 | g3
          · rcases hc1 x g1 g3 with h | h
            · exact .inr (.inl (.inl h))
            · exact .inl (.inl (.inl h))
          · rcases Nat.lt_or_ge x W5.heap.size with g4 | g4
            · exact .inl (.inl (.inr ⟨g3, g4⟩))
            · exact .inl (.inr ⟨g4, g2⟩)
        · have hx7 := TV.lt hD7 hx
          rcases hx with rfl | ⟨_, hx⟩
          · exact .inl (.inr ⟨Nat.le_refl _, hlt5⟩)
          · rcases hN7 with ⟨_, rfl⟩ | h
            · simp [Value.ownBlock] at hx
            · exact .inr ⟨h x hx, hx7⟩
      · omega
      · omega
  · obtain ⟨h60, hw, hwg, p, q, p', q', Va, Vb, vT, ρa, tA, oa, sa, La, fa, ρb, tB, sb, Lb, fb, h⟩ := hI
    have hwd : WrongIs ds 0 := hw.perm hperm.symm
    have hBd : (ds.map fun c => c.val.length).sum ≤ 60000 := by
      have := hw.vals
      have e := (hperm.map fun c => c.val.length).sum_nat
      omega
    refine ⟨h60, fun hlt => ?_, fun he => part_end h (by omega) (tapp_perm hperm hwd.zero.1 List.Pairwise.nil) hwd hBd (by omega)⟩
    have hk : (j + m) % rs.length < rs.length := Nat.mod_lt _ (by omega)
    obtain ⟨x, hx⟩ : ∃ x, rs[(j + m) % rs.length]? = some x := ⟨_, List.getElem?_eq_getElem hk⟩
    have hdx : ds[j]? = some x.c := by rw [hds, List.getElem?_map, rot_at rs m j hlt, hx]; rfl
    have hst := part_step h (row_one hr hcap hx) (fun y hy => by simp at hy; subst hy; exact hv y (List.mem_of_getElem? hx)) hdx (by omega) hwd hBd
    refine hst.mono ?_
    rintro e w1 ⟨er, he, ho⟩
    refine ⟨er, he, ho.imp id (fun g => ⟨g.1, g.2.mono fun e w2 g2 => ⟨g2.1, h60, hw, hwg, p, q, p', q', g2.2⟩⟩)⟩
end Go.Proofs.YtaefmhfkjpnbiaaGreat
