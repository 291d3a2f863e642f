import Derived.Deep.Slices
import Derived.ChangeArms
import Derived.OpenShut
import Derived.SizedLaws
import Derived.Test.YtngnenbidpojeaaGreatDoorT18
import Derived.Test.YtngnenbidpojeaaGreatDoorT19
import Derived.Test.YtngnenbidpojeaaGreatDoorT20
import Derived.Test.YtngnenbidpojeaaGreatDoorT21
import Derived.Test.YtngnenbidpojeaaGreatDoorT24
/-
 The program's Run, where it may be run.
-/
namespace Go.Proofs.YtngnenbidpojeaaGreatDoor
open Go.RowKit
set_option maxRecDepth 100000
set_option linter.unusedVariables false
theorem cells8_N {w : World} {b : Nat} {v0 v1 v2 v3 v4 v5 v6 v7 : Value} {t : TypeId} (h : w.heap[b]? = some (.cells #[v0, v1, v2, v3, v4, v5, v6, v7] t (0, 0))) : w.cell? ⟨b, 0, none⟩ = some v0 ∧ w.cell? ⟨b, 1, none⟩ = some v1 ∧ w.cell? ⟨b, 2, none⟩ = some v2 ∧ w.cell? ⟨b, 3, none⟩ = some v3 ∧ w.cell? ⟨b, 4, none⟩ = some v4 ∧ w.cell? ⟨b, 5, none⟩ = some v5 ∧ w.cell? ⟨b, 6, none⟩ = some v6 ∧ w.cell? ⟨b, 7, none⟩ = some v7 := by simp [World.cell?, h]
theorem may_parts {p : Pg} {l : Lt} {now : Int} (h : mayI p l now = true) : formedP p = true ∧ l.formed = true ∧ 0 ≤ now := by
 unfold mayI at h
 simp at h
 exact ⟨h.1.1, h.1.2, h.2⟩
theorem good_of {w W : World} {nv cv av : Value} {p : Pg} {reg : List Int} {l : Lt} {now : Int} (hI : Ins w nv cv av p reg l now) (k : Kept [] w W) (hm : mayI p l now = true) : (⟨W, nv, cv, av, p, l, now⟩ : Bs).Good ∧ Base p l now ∧ (∀ i ∈ p.code, Named i) ∧ (∀ i ∈ p.code, Told p i) ∧ (∀ i ∈ p.code, okI p.names.length p.code.length i = true) := by
 obtain ⟨h1, h2, h3⟩ := may_parts hm
 obtain ⟨f1, f2, f3, f4⟩ := formed_parts h1
 obtain ⟨g1, g2⟩ := formed_named h1 hI.okp
 have hl : l.fr.length ≤ 40 ∧ l.args.length ≤ 4 := by unfold Lt.formed at h2; simpa using h2
 have hn := hI.now
 unfold I64 at hn
 exact ⟨⟨⟨hI.prog.keep k, hI.args.keep k⟩, f3, f2, hl.1, ⟨h3, by show now ≤ 9223372036854775807; omega⟩⟩, ⟨f3, hI.ok, h2, h3, hI.now⟩, g1, g2, f4⟩
structure RunAt (B : Bs) (reg : List Int) (R : Rsl × Int) (m : Mc) (k : Nat) : Prop where
 k500 : k ≤ 500
 sound : Sound reg B.now k m
 res : R = endI (runI B.pg B.l B.now (500 - k) k m)
section
variable {B : Bs} {reg : List Int} {R : Rsl × Int} {m : Mc} {k : Nat}
theorem RunAt.lite (h : RunAt B reg R m k) : Lite m := ⟨by have := h.sound.wide.few; have := h.k500; omega, by have := h.sound.few; have := h.k500; omega, h.sound.fine.sent⟩
theorem RunAt.ended (h : RunAt B reg R m k) (hc : B.pg.code.length ≤ m.at_) : R = (⟨m.reg, m.ev, m.sent, m.tm, k⟩, 0) := by
 rw [h.res, run_end (List.getElem?_eq_none hc)]
 rfl
theorem RunAt.out (h : RunAt B reg R m 500) (hc : m.at_ < B.pg.code.length) : R = (Rsl.none 500, 11) := by
 rw [h.res, show 500 - 500 = 0 from rfl, run_out (List.getElem?_eq_getElem hc)]
 rfl
theorem RunAt.step (hb : Base B.pg B.l B.now) (h : RunAt B reg R m k) {i : In} (hi : B.pg.code[m.at_]? = some i) (hn : Named i) (ht : Told B.pg i) (hk : k < 500) : (∀ m', oneI B.pg B.l B.now m i = .go m' → RunAt B reg R m' (k + 1)) ∧ (∀ m' n, oneI B.pg B.l B.now m i = .halt m' → B.pg.code.length ≤ n → RunAt B reg R { m' with at_ := n } (k + 1) ∧ R = (⟨m'.reg, m'.ev, m'.sent, m'.tm, k + 1⟩, 0)) ∧ (∀ e, oneI B.pg B.l B.now m i = .err e → e ≠ 0 ∧ R = (Rsl.none (k + 1), e)) := by
 have hs := h.sound.step hb hn ht
 have e5 : 500 - k = (500 - (k + 1)) + 1 := by omega
 refine ⟨fun m' ho => ?_, fun m' n ho hl => ?_, fun e ho => ?_⟩
 ·rw [ho] at hs
  exact ⟨by omega, hs, by rw [h.res, e5, run_step hi ho]⟩
 ·rw [ho] at hs
  have hs : Sound reg B.now (k + 1) m' := hs
  have hr : R = (⟨m'.reg, m'.ev, m'.sent, m'.tm, k + 1⟩, 0) := by rw [h.res, e5, run_halt hi ho]; rfl
  refine ⟨⟨by omega, ⟨⟨hs.fine.reg, hs.fine.ev, hs.fine.sent, hs.fine.tm, hs.fine.st⟩, ⟨hs.wide.st, hs.wide.reg, hs.wide.ev, hs.wide.sent, hs.wide.tm, hs.wide.few⟩, hs.few⟩, ?_⟩, hr⟩
  rw [hr, run_end (List.getElem?_eq_none hl)]
  rfl
 ·rw [ho] at hs
  have hs : e = 10 ∨ e = 12 := hs
  exact ⟨by omega, by rw [h.res, e5, run_err hi ho]; rfl⟩
end
theorem MSt.told {B : Bs} {w W : World} {p g : Nat} {m : Mc} {k : Nat} (h : MSt B w p m k) : ∃ ev sn tm, (∃ pre, pre.length = 25 ∧ w.heap[p]? = some (.cells (pre ++ cellsR m.reg ev sn tm k).toArray 181 (0, 0))) ∧ ev.oneCell' = true ∧ sn.oneCell' = true ∧ tm.oneCell' = true ∧ ∀ W g, g < B.w0.heap.size → Kept [g] w W → ∀ n, n ≤ B.w0.heap.size → IsRs n W (.agg (cellsR m.reg ev sn tm k).toArray) ⟨m.reg, m.ev, m.sent, m.tm, k⟩ := by
 obtain ⟨stk, ev, sn, tm, h⟩ := h
 refine ⟨ev, sn, tm, ⟨_, h.len, h.rs.box⟩, ?_, ?_, ?_, fun W g hg kk n hn => ⟨⟨ev, sn, tm, rfl, (h.rs.ev.own.reads (wideE _)).kept kk ?_, (h.rs.sn.own.reads (wideS _)).kept kk ?_, (h.rs.tm.own.reads (wideT _)).kept kk ?_, fun g' h' => Nat.le_trans hn (h.rs.ev.new g' h'), fun g' h' => Nat.le_trans hn (h.rs.sn.new g' h'), fun g' h' => Nat.le_trans hn (h.rs.tm.new g' h')⟩, h.rs.r8⟩⟩
 ·obtain ⟨a, c, rfl, -⟩ := h.rs.ev.form; rfl
 ·obtain ⟨a, c, rfl, -⟩ := h.rs.sn.form; rfl
 ·obtain ⟨a, c, rfl, -⟩ := h.rs.tm.form; rfl
 ·intro g' h1 h2; have := h.rs.ev.new g' h1; simp at h2; omega
 ·intro g' h1 h2; have := h.rs.sn.new g' h1; simp at h2; omega
 ·intro g' h1 h2; have := h.rs.tm.new g' h1; simp at h2; omega
theorem MSt.c_k {B : Bs} {w : World} {p : Nat} {m : Mc} {k : Nat} (h : MSt B w p m k) : w.cell? ⟨p, 36, none⟩ = some (.int .i64 (k : Int)) := by
 obtain ⟨stk, ev, sn, tm, h⟩ := h
 exact h.c_k
theorem MSt.c_at {B : Bs} {w : World} {p : Nat} {m : Mc} {k : Nat} (h : MSt B w p m k) : w.cell? ⟨p, 7, none⟩ = some (.int .i64 (m.at_ : Int)) := by
 obtain ⟨stk, ev, sn, tm, h⟩ := h
 exact h.c_at
def zM : List Value := [.slice none 0 0, .slice none 0 0, .string ⟨#[]⟩, .int .u64 0, .int .i64 0, .slice none 0 0, .int .i64 0, .int .i64 0, .int .i64 0, .int .i64 0, .int .i64 0, .int .i64 0, .int .i64 0, .int .i64 0, .int .i64 0, .int .i64 0, .int .i64 0, .int .i64 0, .int .i64 0, .int .i64 0, .int .i64 0, .int .i64 0, .int .i64 0, .int .i64 0, .int .i64 0, .int .i64 0, .int .i64 0, .int .i64 0, .int .i64 0, .int .i64 0, .int .i64 0, .int .i64 0, .int .i64 0, .slice none 0 0, .slice none 0 0, .slice none 0 0, .int .i64 0]
theorem alloc73 (W : World) : (Instr.alloc 181 true (.tuple #[])).run Tryz.prog W = .ok (.pointer (some ⟨W.heap.size, 0, none⟩)) (W.alloc (.cells zM.toArray 181)) := by kernel_rfl
theorem size73 : (Tryz.prog.info? 181).map (·.size) = some 37 := by kernel_rfl
def z16 : List Int := [0, 0, 0, 0, 0, 0, 0, 0, 0, 0, 0, 0, 0, 0, 0, 0]
theorem start_M (B : Bs) (reg : List Int) (h8 : reg.length = 8) (g1 : B.nv.oneCell' = true) (g2 : B.cv.oneCell' = true) (g3 : B.av.oneCell' = true) : ∃ W, (Instr.storeAt 181 (.pointer (some ⟨B.w0.heap.size, 0, none⟩)) (.agg (preM B 0 z16 0 ++ cellsR reg (.slice none 0 0) (.slice none 0 0) (.slice none 0 0) 0).toArray)).run Tryz.prog (B.w0.alloc (.cells zM.toArray 181)) = .ok () W ∧ MSt B W B.w0.heap.size (Mc.start reg) 0 := by
 have k1 := (Kept.refl [] B.w0).alloc (.cells zM.toArray 181)
 have hl : (preM B 0 z16 0 ++ cellsR reg (.slice none 0 0) (.slice none 0 0) (.slice none 0 0) 0).length = 37 := by rw [List.length_append, preM_length rfl, cellsR_length, h8]
 obtain ⟨W, h1, h2, h3⟩ := store_whole (P := Tryz.prog) (X := preM B 0 z16 0 ++ cellsR reg (.slice none 0 0) (.slice none 0 0) (.slice none 0 0) 0) (heap_alloc_new B.w0 (.cells zM.toArray 181)) (by rw [hl]; rfl) (by rw [hl]; exact size73) (fun v hv => by
  rcases List.mem_append.1 hv with hv | hv
  ·unfold preM at hv
   rcases List.mem_append.1 hv with hv | hv
   ·simp [Bs.fix] at hv
    rcases hv with rfl | rfl | rfl | rfl | rfl | rfl | rfl
    ·exact g1
    ·exact g2
    ·rfl
    ·rfl
    ·rfl
    ·exact g3
    ·rfl
   ·rcases List.mem_cons.1 hv with rfl | hv
    ·rfl
    ·rcases List.mem_append.1 hv with hv | hv
     ·exact BI_one_N _ v hv
     ·simp at hv; subst hv; rfl
  ·exact cellsR_one rfl rfl rfl v hv)
 have kk : Kept [] B.w0 W := k1.trans h3 (fun x hx => .inr (by simp at hx; omega))
 exact ⟨W, h1, z16, _, _, _, rfl, rfl, ⟨h2, h8, Out.nil kk, Out.nil kk, Out.nil kk, Nat.le_refl _⟩⟩
section
variable {w : World} {nv cv av : Value} {p : Pg} {reg : List Int} {l : Lt} {now : Int}
set_option maxHeartbeats 4000000 in
theorem run11_yes (hG : Glob w) (hI : Ins w nv cv av p reg l now) (hm : mayI p l now = true) (R : Rsl × Int) (hR : R = endI (runI p l now 500 0 (Mc.start reg))) : Calls Tryz.prog 34 #[.agg #[nv, cv], .agg (BI_N reg).toArray, .agg #[.string ⟨l.fr.toArray⟩, .int .u64 (l.ser : Int), .int .i64 l.kind, av], .int .i64 now] w fun e w' => ∃ v, e = .returned (.tuple #[v, .int .i64 R.2]) ∧ IsRs w.heap.size w' v R.1 ∧ Kept [] w w' := by
 have HG := Hid.mk (fun W k => good_of (W := W) hI k hm)
 have HS := Hid.mk (Sound.start (now := now) hI.regs)
 obtain ⟨hf, hlf, hnow⟩ := may_parts hm
 have hr8 := hI.r8
 obtain ⟨a0, a1, a2, a3, a4, a5, a6, a7, hreg⟩ := eight_of hI.r8
 obtain ⟨a, c, b, d, rfl, rfl, hl1, hl2⟩ := hI.prog.form
 obtain ⟨aa, ac, rfl, ha1, ha2⟩ := hI.args.form
 rw [rowJ_length] at *
 rw [show (BI_N reg).toArray = #[.int .i64 a0, .int .i64 a1, .int .i64 a2, .int .i64 a3, .int .i64 a4, .int .i64 a5, .int .i64 a6, .int .i64 a7] by rw [hreg]; rfl]
 obtain ⟨W0, e0, k0, hz0, hb0, hb1, hb2, hb3⟩ := box4 w (.cells #[.slice a p.names.length c, .slice b p.code.length d] 44) (.cells #[.int .i64 a0, .int .i64 a1, .int .i64 a2, .int .i64 a3, .int .i64 a4, .int .i64 a5, .int .i64 a6, .int .i64 a7] 84) (.cells #[.string ⟨l.fr.toArray⟩, .int .u64 (l.ser : Int), .int .i64 l.kind, .slice aa l.args.length ac] 81) (.cells #[.int .i64 0, .int .i64 0, .int .i64 0, .int .i64 0, .int .i64 0, .int .i64 0, .int .i64 0, .int .i64 0, .slice none 0 0, .slice none 0 0, .slice none 0 0, .int .i64 0] 103)
 have hb3 : W0.heap[w.heap.size + 1 + 1 + 1]? = some (.cells (cellsR z8_N (.slice none 0 0) (.slice none 0 0) (.slice none 0 0) 0).toArray 103 (0, 0)) := hb3
 obtain ⟨y0, y1⟩ := cells2_N hb0
 have HF := Hid.mk (formed13_N (hI.prog.keep k0) hI.names (hG.kept k0))
 have HL := Hid.mk (fun W => lformed18 (w := W) l aa ac hI.fr (by omega))
 rw [hf] at HF
 rw [hlf] at HL
 have HB0 := Hid.mk hb0
 have HB1 := Hid.mk hb1
 have HB2 := Hid.mk hb2
 have HB3 := Hid.mk hb3
 have HK := Hid.mk k0
 have HZ := Hid.mk hz0
 have HE : Hid (∀ (W : World) (X : List Value), Kept [] W0 W → X.length = 12 → (∀ v ∈ X, v.oneCell' = true) → ∃ W', (Instr.storeAt 103 (.pointer (some ⟨w.heap.size + 1 + 1 + 1, 0, none⟩)) (.agg X.toArray)).run Tryz.prog W = .ok () W' ∧ W'.heap[w.heap.size + 1 + 1 + 1]? = some (.cells X.toArray 103 (0, 0)) ∧ Kept [w.heap.size + 1 + 1 + 1] W W' ∧ Kept [] w W') := fun W X kW hX h1 => by
  obtain ⟨W', h1, h2, h3⟩ := store_whole (P := Tryz.prog) (X := X) (kW.keeps hb3 (by simp)) (by rw [hX]; rfl) (by rw [hX]; exact size37) h1
  exact ⟨W', h1, h2, h3, (k0.then kW).trans h3 (fun x hx => .inr (by simp at hx; omega))⟩
 have HST : Hid (∀ W, ∃ W3, (Instr.storeAt 181 (.pointer (some ⟨W.heap.size, 0, none⟩)) (.agg (preM ⟨W, .slice a p.names.length c, .slice b p.code.length d, .slice aa l.args.length ac, p, l, now⟩ 0 z16 0 ++ cellsR [a0, a1, a2, a3, a4, a5, a6, a7] (.slice none 0 0) (.slice none 0 0) (.slice none 0 0) 0).toArray)).run Tryz.prog (W.alloc (.cells zM.toArray 181)) = .ok () W3 ∧ MSt ⟨W, .slice a p.names.length c, .slice b p.code.length d, .slice aa l.args.length ac, p, l, now⟩ W3 W.heap.size (Mc.start reg) 0) := fun W => by
  rw [hreg]
  exact start_M ⟨W, .slice a p.names.length c, .slice b p.code.length d, .slice aa l.args.length ac, p, l, now⟩ [a0, a1, a2, a3, a4, a5, a6, a7] rfl rfl rfl rfl
 have HR := Hid.mk hR
 have HREG := Hid.mk hreg
 have hnow2 : ¬ now < 0 := by omega
 clear hb0 hb1 hb2 hb3 hG hI k0 hz0 hR hm hf hlf hreg hnow
 go_enter Tryz.func34, Tryz.ntmps34
 go_wp2_with (first | (go_at_call 32; refine HF.out.mono ?_; rintro e w1 ⟨rfl, k1⟩; obtain ⟨v0, v1, v2, v3⟩ := cells4 (k1.keeps HB2.out (by simp))) | (go_at_call 74; refine (HL.out _).mono ?_; rintro e w2 ⟨rfl, k2⟩; have K2 := Hid.mk (k1.then k2); clear k1 k2; obtain ⟨t0, t1⟩ := cells2_N (K2.out.keeps HB0.out (by simp)); obtain ⟨u0, u1, u2, u3⟩ := cells4 (K2.out.keeps HB2.out (by simp)); obtain ⟨s0, s1, s2, s3, s4, s5, s6, s7⟩ := cells8_N (K2.out.keeps HB1.out (by simp)); obtain ⟨W3, hst, HM0⟩ := HST.out w2; have HM0 := Hid.mk HM0) | (refine wpList_alloc_run_N 181 rfl rfl _ _ (alloc73 w2) ?_) | (refine wpList_store_run_N 181 (.tmp 10) (.tmp 30) rfl rfl _ _ rfl rfl _ hst ?_))
 clear hst u0 u1 u2 u3 s0 s1 s2 s3 s4 s5 s6 s7 HST HF HL
 have HGD := Hid.mk (HG.out w2 (HK.out.then K2.out))
 have HW2 : Hid (w.heap.size + 1 + 1 + 1 < w2.heap.size) := by have := K2.out.size; have := HZ.out; show w.heap.size + 1 + 1 + 1 < w2.heap.size; omega
 clear HG
 obtain ⟨B, hB⟩ : ∃ B : Bs, (⟨w2, .slice a p.names.length c, .slice b p.code.length d, .slice aa l.args.length ac, p, l, now⟩ : Bs) = B := ⟨_, rfl⟩
 have HBw : Hid (B.w0 = w2) := by show B.w0 = w2; rw [← hB]
 have HBp : Hid (B.pg = p) := by show B.pg = p; rw [← hB]
 have HBl : Hid (B.l = l) := by show B.l = l; rw [← hB]
 have HBn : Hid (B.now = now) := by show B.now = now; rw [← hB]
 rw [hB] at HM0 HGD
 have HRA : Hid (RunAt B reg R (Mc.start reg) 0) := ⟨by omega, by rw [HBn.out]; exact HS.out, by rw [HBp.out, HBl.out, HBn.out]; exact HR.out⟩
 have HGP : Hid (p.code.length ≤ 200) := by have := HGD.out.1.few; rw [HBp.out] at this; exact this
 have hlen := HGP.out
 have HFI : Hid (∀ (m : Mc), m.at_ < p.code.length → ∃ (i : Nat) (arg : Int), B.pg.code[m.at_]? = some ⟨(i : Int), arg⟩ ∧ Fit B.pg i arg ∧ Named ⟨(i : Int), arg⟩ ∧ Told B.pg ⟨(i : Int), arg⟩) := fun m hm => by
  rw [← HBp.out] at hm
  have e1 : B.pg.code[m.at_]? = some B.pg.code[m.at_] := List.getElem?_eq_getElem hm
  have hmem := List.getElem_mem hm
  rw [← HBp.out] at HGD
  obtain ⟨o, ho, hf⟩ := fit_of (HGD.out.2.2.2.2 _ hmem)
  have e2 : B.pg.code[m.at_] = ⟨(o : Int), B.pg.code[m.at_].arg⟩ := by rw [← ho]
  rw [e2] at e1
  exact ⟨o, _, e1, hf, by rw [← e2]; exact HGD.out.2.2.1 _ hmem, by rw [← e2]; exact HGD.out.2.2.2.1 _ hmem⟩
 clear hB HS HR HREG HZ
 generalize hq : w2.heap.size = q at *
 have HQ := Hid.mk hq
 clear hq
 have HI0 : Hid (MSt B W3 q (Mc.start reg) 0 ∧ RunAt B reg R (Mc.start reg) 0) := ⟨HM0.out, HRA.out⟩
 clear HM0 HRA t0 t1 y0 y1
 go_frame
 go_loopw [] (fun wr => ∃ (m : Mc) (k : Nat), k ≤ 500 ∧ Hid (MSt B wr q m k ∧ RunAt B reg R m k)) (fun wr => 501 - natAt wr q 36)
 case atStart => exact ⟨_, 0, by omega, HI0⟩
 case round =>
  obtain ⟨m, k, hk, H⟩ := hrel
  have kr : Kept [] w2 wr := by rw [← HBw.out]; exact H.out.1.kept
  obtain ⟨t0, t1⟩ := cells2_N ((K2.out.then kr).keeps HB0.out (by simp))
  have c7 := H.out.1.c_at
  have c36 := H.out.1.c_k
  have hmea := natAt_eq c36
  have HMEA := Hid.mk hmea
  have HKR := Hid.mk (K2.out.then kr)
  clear kr hmea
  by_cases hlt : m.at_ < p.code.length
  ·have hltI : (m.at_ : Int) < (p.code.length : Int) := by omega
   obtain ⟨i, arg, hi, hF, hN, hT⟩ := HFI.out m hlt
   by_cases h5 : k = 500
   ·subst h5
    have HO := Hid.mk (H.out.2.out (by rw [HBp.out]; exact hlt))
    have HC := Hid.mk (step19_out H.out.1)
    clear hF hN hT hi
    go_wp2_with (first | (go_at_call 94; refine HC.out.mono ?_; rintro e w5 ⟨rfl, h5⟩; have c9 := h5.c_k; have kr5 : Kept [] w2 w5 := (by rw [← HBw.out]; exact h5.kept); obtain ⟨W6, hst, hb6, k6, k7⟩ := HE.out w5 (cellsR z8_N (.slice none 0 0) (.slice none 0 0) (.slice none 0 0) 500) (K2.out.then kr5) rfl (cellsR_one rfl rfl rfl); clear h5 kr5) | (refine wpList_store_run_N 103 (.tmp 8) (.tmp 43) rfl rfl _ _ rfl rfl _ hst ?_))
    exact bodyPost_ret (results_cell_row2 (p := 8) (u := 9) (ty := 103) rfl _ _ (w.heap.size + 1 + 1 + 1) 103 _ (0, 0) _ rfl hb6 Tryz.underlying103 rfl (by kernel_rfl) _ rfl) rfl ⟨_, by rw [HO.out]; rfl, by rw [HO.out]; exact isRs_none _ 500, k7⟩
   ·have hk5 : k < 500 := by omega
    have HC := Hid.mk (step19_t HGD.out.1 H.out.1 hi hk5 hF H.out.2.lite)
    obtain ⟨R1, R2, R3⟩ := H.out.2.step (by rw [HBp.out, HBl.out, HBn.out]; exact HGD.out.2.1) hi hN hT hk5
    cases ho : oneI B.pg B.l B.now m ⟨(i : Int), arg⟩ with
    | go m' =>
     have HX := Hid.mk (R1 m' ho)
     rw [ho] at HC
     clear R1 R2 R3 ho hF hN hT hi
     go_wp2_with (go_at_call 94; refine HC.out.mono ?_; rintro e w5 ⟨cc, rfl, rfl, h5⟩; have HN5 := Hid.mk (natAt_eq h5.c_k); have H5 := Hid.mk h5; clear h5)
     go_roundw
     case rel => exact ⟨m', k + 1, by omega, Hid.mk ⟨H5.out, HX.out⟩⟩
     case measure => rw [HN5.out, HMEA.out]; omega
    | halt m' =>
     have HX := Hid.mk (R2 m' B.pg.code.length ho (Nat.le_refl _)).1
     rw [ho] at HC
     clear R1 R2 R3 ho hF hN hT hi
     go_wp2_with (go_at_call 94; refine HC.out.mono ?_; rintro e w5 ⟨cc, rfl, rfl, h5⟩; have HN5 := Hid.mk (natAt_eq h5.c_k); have H5 := Hid.mk h5; clear h5)
     go_roundw
     case rel => exact ⟨_, k + 1, by omega, Hid.mk ⟨H5.out, HX.out⟩⟩
     case measure => rw [HN5.out, HMEA.out]; omega
    | err ee =>
     obtain ⟨hne, hRR⟩ := R3 ee ho
     have HO := Hid.mk hRR
     rw [ho] at HC
     have hne' : (ee == 0) = false := by simpa using hne
     clear R1 R2 R3 ho hF hN hT hi hRR
     go_wp2_with (first | (go_at_call 94; refine HC.out.mono ?_; rintro e w5 ⟨cc, rfl, rfl, m5, h5⟩; have c9 := h5.c_k; have kr5 : Kept [] w2 w5 := (by rw [← HBw.out]; exact h5.kept); obtain ⟨W6, hst, hb6, k6, k7⟩ := HE.out w5 (cellsR z8_N (.slice none 0 0) (.slice none 0 0) (.slice none 0 0) (k + 1)) (K2.out.then kr5) rfl (cellsR_one rfl rfl rfl); clear h5 kr5) | (refine wpList_store_run_N 103 (.tmp 8) (.tmp 43) rfl rfl _ _ rfl rfl _ hst ?_))
     exact bodyPost_ret (results_cell_row2 (p := 8) (u := 9) (ty := 103) rfl _ _ (w.heap.size + 1 + 1 + 1) 103 _ (0, 0) _ rfl hb6 Tryz.underlying103 rfl (by kernel_rfl) _ rfl) rfl ⟨_, by rw [HO.out]; rfl, by rw [HO.out]; exact isRs_none _ (k + 1), k7⟩
  ·have hltI : ¬ (m.at_ : Int) < (p.code.length : Int) := by omega
   have HO := Hid.mk (H.out.2.ended (by rw [HBp.out]; omega))
   obtain ⟨ev, sn, tm, ⟨pre, hp25, hbm⟩, o1, o2, o3, HT⟩ := H.out.1.told (W := wr) (g := 0)
   have hR8 := H.out.1.r8
   have hld : (Instr.loadAt 103 (.pointer (some ⟨q, 25, none⟩))).run Tryz.prog wr = .ok (.agg (cellsR m.reg ev sn tm k).toArray) wr := load_mid 25 hbm hp25 103 _ rfl Tryz.underlying103 (by rw [cellsR_length, hR8]; exact size37)
   obtain ⟨W6, hst, hb6, k6, k7⟩ := HE.out wr (cellsR m.reg ev sn tm k) HKR.out (by rw [cellsR_length, hR8]) (cellsR_one o1 o2 o3)
   have HRES := Hid.mk (HT W6 (w.heap.size + 1 + 1 + 1) (by rw [HBw.out, HQ.out]; exact HW2.out) k6 w.heap.size (by rw [HBw.out, HQ.out]; exact Nat.le_of_lt (Nat.lt_of_le_of_lt (by omega) HW2.out)))
   have HSZ : Hid ((cellsR m.reg ev sn tm k).length = 12) := by show (cellsR m.reg ev sn tm k).length = 12; rw [cellsR_length, hR8]
   clear HT hbm hp25 hR8 o1 o2 o3 k6
   generalize cellsR m.reg ev sn tm k = X at *
   go_wp2_with (first | (refine wpList_load_run_N 103 (.tmp 45) rfl rfl _ rfl _ hld ?_) | (refine wpList_store_run_N 103 (.tmp 8) (.tmp 46) rfl rfl _ _ rfl rfl _ hst ?_))
   exact bodyPost_ret (results_cell_row2 (p := 8) (u := 9) (ty := 103) rfl _ _ (w.heap.size + 1 + 1 + 1) 103 _ (0, 0) _ rfl hb6 Tryz.underlying103 rfl (by rw [List.size_toArray, HSZ.out]; exact size37) _ rfl) rfl ⟨_, by rw [HO.out]; rfl, by rw [HO.out]; exact HRES.out, k7⟩
end
abbrev Lval (l : Lt) (av : Value) : Value := .agg #[.string ⟨l.fr.toArray⟩, .int .u64 (l.ser : Int), .int .i64 l.kind, av]
section
variable {w : World} {nv cv av : Value} {p : Pg} {reg : List Int} {l : Lt} {now : Int}
theorem run11 (hG : Glob w) (hI : Ins w nv cv av p reg l now) : Calls Tryz.prog 34 #[.agg #[nv, cv], .agg (BI_N reg).toArray, Lval l av, .int .i64 now] w fun e w' => ∃ v, e = .returned (.tuple #[v, .int .i64 (resI p reg l now).2]) ∧ IsRs w.heap.size w' v (resI p reg l now).1 ∧ Kept [] w w' := by
 unfold resI
 cases hm : mayI p l now with
 | false => rw [if_neg (by simp)]; exact run11_no hG hI hm
 | true => rw [if_pos rfl]; exact run11_yes hG hI hm _ rfl
end
def z12 : List Value := [.int .i64 0, .int .i64 0, .int .i64 0, .int .i64 0, .int .i64 0, .int .i64 0, .int .i64 0, .int .i64 0, .slice none 0 0, .slice none 0 0, .slice none 0 0, .int .i64 0]
structure ResB (w : World) (g : Nat) (R : Rsl) (ev sn tm : Value) : Prop where
 box : w.heap[g]? = some (.cells (cellsR R.reg ev sn tm R.k).toArray 103 (0, 0))
 ev : ReadsR 2 w ev (rowE R.ev)
 sn : ReadsR 3 w sn (rowS R.sent)
 tm : ReadsR 5 w tm (rowT R.tm)
 r8 : R.reg.length = 8
section
variable {w w' : World} {g : Nat} {R : Rsl} {ev sn tm : Value}
end
theorem prog_fresh {w : World} {g : Nat} {C : List In} (h : w.heap[g]? = some (.cells (rowI C).flatten.toArray 83 (0, 0))) (hl : C.length ≤ 1000) : ReadsR 2 w (.slice (some ⟨g, 0, none⟩) C.length C.length) (rowI C) :=
 (ownsR_block h (wideI C) (by rw [rowI_length]) (by unfold maxLen; omega)).reads (wideI C)
theorem lok_of {l : Lt} (h1 : l.ser < 18446744073709551616) (h2 : I64 l.kind) (h3 : ∀ z ∈ l.args, I64 z) : l.ok := ⟨h1, h2, h3⟩
theorem i64_lit {z : Int} (h : -9223372036854775808 ≤ z ∧ z ≤ 9223372036854775807) : I64 z := by unfold I64; omega
section
variable {w : World}
end
end Go.Proofs.YtngnenbidpojeaaGreatDoor
namespace Go.Proofs.YtngnenbidpojeaaGreatDoor
set_option maxRecDepth 100000
open Go.RowKit Go.Deep Go.ChangeShapes
set_option linter.unusedVariables false
theorem open_instr {H : Type} {enc : TypeId × Value → H} {W : World} {fuel : Nat} {cs : List Value} {x : DataW H × List MemPlace} (h : DataW.trod enc Tryz.prog W 0 (fun _ => true) true fuel 108 cs = some x) (hl : cs.length = 2) :
  ∃ e : In, cs = [.int .i64 e.op, .int .i64 e.arg] ∧ I64 e.op ∧ I64 e.arg := by
 obtain ⟨xs, k, hk, hxy, _, hxl, hf⟩ := DataW.trod_struct Tryz.underlying108 h
 match xs, hxl, cs, hl with
 | [y0, y1], _, [v0, v1], _ =>
  have g0 := hf 0 _ rfl
  have g1 := hf 1 _ rfl
  simp [show Tryz.prog.cellsOf 3 = 1 by kernel_rfl, show Tryz.prog.cellsOf 2 = 1 by kernel_rfl] at g0 g1
  obtain ⟨a, e0, f0, w0⟩ := DataW.trod_int Tryz.underlying3 g0
  obtain ⟨b, e1, f1, w1⟩ := DataW.trod_int Tryz.underlying2 g1
  simp at e0 e1
  subst e0 e1
  exact ⟨⟨a, b⟩, rfl, bounds_i64 w0, bounds_i64 w1⟩
theorem open_row {α : Type} [Inhabited α] {H : Type} {enc : TypeId × Value → H} {W : World} {fuel : Nat} {cs : List Value} {x : DataW H × List MemPlace} {T e : TypeId} {k : Nat} (hT : Tryz.prog.underlying T = some (.slice e)) (hk : Tryz.prog.cellsOf e = k) (hk0 : 0 < k) (cellsA : α → List Value) (ok : α → Prop)
  (hlen : ∀ a, (cellsA a).length = k)
  (each1 : ∀ (n : Nat) (cs : List Value) (y : DataW H × List MemPlace), DataW.trod enc Tryz.prog W 0 (fun _ => true) true n e cs = some y → cs.length = k → ∃ a, cs = cellsA a ∧ ok a)
  (h : DataW.trod enc Tryz.prog W 0 (fun _ => true) true fuel T cs = some x) :
  ∃ (v : Value) (l : List α), cs = [v] ∧ ReadsR k W v (l.map cellsA) ∧ ∀ a ∈ l, ok a := by
 rcases open_slice hT h with ⟨h0, hx⟩ | ⟨a, len, cap, m, n, D, Pl, hcs, hb, hl, hm, hmm, hx, hel⟩
 ·exact ⟨_, [], h0, ReadsR.nil k W, by simp⟩
 ·have hm' : m = cap := by simpa using hmm
  subst hm'
  have each : ∀ i, i < len → ∃ q : α, (∀ j y, (cellsA q)[j]? = some y → W.cell? (a.add (i * k + j)) = some y) ∧ ok q := by
   intro i hi
   obtain ⟨cs', h1, h2⟩ := hel i (by omega)
   rw [hk] at h1
   obtain ⟨_, hlen', hcell⟩ := World.cells?_some h1
   obtain ⟨q, rfl, hok⟩ := each1 _ _ _ h2 (by simpa using hlen')
   refine ⟨q, fun j y hy => ?_, hok⟩
   have hj := (List.getElem?_eq_some_iff.1 hy).1
   have := hcell j (by rw [hlen] at hj; exact hj)
   rw [addr_add_add] at this
   rw [this]
   simp [hy]
  obtain ⟨f, hfp⟩ := choose_lt each
  have hll : ((List.range len).map f).length = len := by simp
  refine ⟨_, (List.range len).map f, hcs, ⟨some a, m, by rw [List.length_map, hll], by rw [List.length_map, hll]; omega, hm, by simp, fun hne => ?_⟩, ?_⟩
  ·have hpos : 0 < len := by
    rcases Nat.eq_zero_or_pos len with h | h
    ·subst h; simp at hne
    ·exact h
   obtain ⟨b, o, spot⟩ := a
   have hq0 : ∃ y, (cellsA (f 0))[0]? = some y := ⟨(cellsA (f 0))[0]'(by rw [hlen]; exact hk0), by simp⟩
   obtain ⟨y, hy⟩ := hq0
   have hc := (hfp 0 (by omega)).1 0 y hy
   have hspot : spot = none := by simpa [Addr.add] using World.cell?_spot hc
   subst hspot
   refine ⟨b, o, rfl, fun j r hr i y hy => ?_⟩
   rw [List.getElem?_map, Option.map_eq_some_iff] at hr
   obtain ⟨p, hp, rfl⟩ := hr
   have hj : j < len := by
    have := (List.getElem?_eq_some_iff.1 hp).1
    simpa using this
   have hpf : p = f j := by
    rw [List.getElem?_map] at hp
    simp [hj] at hp
    exact hp.symm
   subst hpf
   have := (hfp j hj).1 i y hy
   rw [add_at] at this
   rw [Nat.add_assoc]
   exact this
  ·intro q hq
   obtain ⟨i, hi, rfl⟩ := List.mem_map.1 hq
   exact (hfp i (by simpa using hi)).2
theorem size_list (s : ByteArray) : s.size = s.data.toList.length := by
 rw [Array.length_toList]
 rfl
structure PgIn (W : World) (v : Value) (p : Pg) : Prop where
 form : ∃ a b, v = .agg #[a, b] ∧ IsP_N W a b p
 names : ∀ s ∈ p.names, s.length ≤ 9223372036854775807
 code : ∀ x ∈ p.code, I64 x.op ∧ I64 x.arg
theorem open_prog {H : Type} {enc : TypeId × Value → H} {W : World} {fuel : Nat} {cs : List Value} {x : DataW H × List MemPlace} (h : DataW.trod enc Tryz.prog W 0 (fun _ => true) true fuel 25 cs = some x) :
  ∃ a b p, cs = [a, b] ∧ PgIn W (.agg #[a, b]) p := by
 obtain ⟨xs, k, hk, hxy, hcl, hxl, hf⟩ := DataW.trod_struct Tryz.underlying25 h
 have hc2 : cs.length = 2 := hcl.trans (show Tryz.prog.cellsOf 25 = 2 by kernel_rfl)
 match xs, hxl, cs, hc2 with
 | [y0, y1], _, [v0, v1], _ =>
  have g0 := hf 0 _ rfl
  have g1 := hf 1 _ rfl
  simp [show Tryz.prog.cellsOf 22 = 1 by kernel_rfl, show Tryz.prog.cellsOf 23 = 1 by kernel_rfl] at g0 g1
  obtain ⟨v, l, e0, r0, o0⟩ := open_row (α := List UInt8) Tryz.underlying22 (show Tryz.prog.cellsOf 9 = 1 by kernel_rfl) (by omega) (fun s => [.string ⟨s.toArray⟩]) (fun s => s.length ≤ 9223372036854775807) (fun _ => rfl) (fun n cs y hy hl => by
   obtain ⟨s, e, -, hs⟩ := DataW.trod_string Tryz.underlying9 hy
   refine ⟨s.data.toList, by rw [e], ?_⟩
   have : s.size = s.data.toList.length := size_list s
   rw [← this]
   exact Nat.le_trans hs (by decide)) g0
  obtain ⟨u, m, e1, r1, o1⟩ := open_row (α := In) Tryz.underlying23 (show Tryz.prog.cellsOf 108 = 2 by kernel_rfl) (by omega) (fun x => [.int .i64 x.op, .int .i64 x.arg]) (fun x => I64 x.op ∧ I64 x.arg) (fun _ => rfl) (fun n cs y hy hl => open_instr hy hl) g1
  simp at e0 e1
  subst e0 e1
  exact ⟨_, _, ⟨l, m⟩, rfl, ⟨⟨_, _, rfl, ⟨r0, r1⟩⟩, o0, o1⟩⟩
end Go.Proofs.YtngnenbidpojeaaGreatDoor
namespace Go.Proofs.YtngnenbidpojeaaGreatDoor
open Go.RowKit
set_option maxRecDepth 100000
set_option linter.unusedVariables false
theorem cells12 {w : World} {b : Nat} {v0 v1 v2 v3 v4 v5 v6 v7 v8 v9 v10 v11 : Value} {t : TypeId} (h : w.heap[b]? = some (.cells #[v0, v1, v2, v3, v4, v5, v6, v7, v8, v9, v10, v11] t (0, 0))) : w.cell? ⟨b, 0, none⟩ = some v0 ∧ w.cell? ⟨b, 1, none⟩ = some v1 ∧ w.cell? ⟨b, 2, none⟩ = some v2 ∧ w.cell? ⟨b, 3, none⟩ = some v3 ∧ w.cell? ⟨b, 4, none⟩ = some v4 ∧ w.cell? ⟨b, 5, none⟩ = some v5 ∧ w.cell? ⟨b, 6, none⟩ = some v6 ∧ w.cell? ⟨b, 7, none⟩ = some v7 ∧ w.cell? ⟨b, 8, none⟩ = some v8 ∧ w.cell? ⟨b, 9, none⟩ = some v9 ∧ w.cell? ⟨b, 10, none⟩ = some v10 ∧ w.cell? ⟨b, 11, none⟩ = some v11 := by simp [World.cell?, h]
def ResX (W0 wc : World) (g : Nat) (R : Rsl) : Prop := (∃ ev sn tm, ResB wc g R ev sn tm ∧ (∀ g', ev.ownBlock = some g' → W0.heap.size ≤ g') ∧ (∀ g', sn.ownBlock = some g' → W0.heap.size ≤ g') ∧ (∀ g', tm.ownBlock = some g' → W0.heap.size ≤ g')) ∧ Kept [] W0 wc ∧ W0.heap.size ≤ g
theorem store_cells {P : Program} {w : World} {g : Nat} {t : TypeId} {L X : List Value} (hb : w.heap[g]? = some (.cells L.toArray t (0, 0))) (hl : X.length = L.length) (h1 : ∀ v ∈ X, v.oneCell' = true) : ∃ W, (storeCells ⟨g, 0, none⟩ X).run P w = .ok () W ∧ W.heap[g]? = some (.cells X.toArray t (0, 0)) ∧ Kept [g] w W := by
 have h := run_storeCells_at P g 0 t X 0 L.toArray w hb (by simp [hl]) h1
 refine ⟨_, h, ?_, (Kept.refl [g] w).setRow (.inl (by simp)) _⟩
 have hlt := lt_of_block hb
 have h' : w.heap[g] = .cells L.toArray t (0, 0) := by simpa [Array.getElem?_eq_getElem hlt] using hb
 show (w.heap.modify g _)[g]? = _
 rw [Array.getElem?_eq_getElem (by simpa using hlt), Array.getElem_modify_self, h']
 simp [hl]
theorem resX_cells {n g : Nat} {W0 w4 : World} {v : Value} {R : Rsl} (h : IsRs n w4 v R) (K : Kept [] W0 w4) (hn : W0.heap.size ≤ n) : ∃ X : List Value, v = .agg X.toArray ∧ X.length = 12 ∧ ∀ g w5, w5.heap[g]? = some (.cells z12.toArray 103 (0, 0)) → W0.heap.size ≤ g → (g < n ∨ w5 = w4.alloc (.cells z12.toArray 103) ∧ g = w4.heap.size) → (w5 = w4 ∨ w5 = w4.alloc (.cells z12.toArray 103)) → ∃ W, (storeCells ⟨g, 0, none⟩ X).run Tryz.prog w5 = .ok () W ∧ ResX W0 W g R := by
 obtain ⟨⟨ev, sn, tm, rfl, h1, h2, h3, n1, n2, n3⟩, h8⟩ := h
 obtain ⟨a1, c1, f1, -⟩ := h1.form
 obtain ⟨a2, c2, f2, -⟩ := h2.form
 obtain ⟨a3, c3, f3, -⟩ := h3.form
 have hl : (cellsR R.reg ev sn tm R.k).length = 12 := by rw [cellsR_length, h8]
 refine ⟨_, rfl, hl, fun g w5 hb hg hor hw => ?_⟩
 have k5 : Kept [] w4 w5 := by
  rcases hw with rfl | rfl
  ·exact Kept.refl [] _
  ·exact (Kept.refl [] w4).alloc _
 obtain ⟨W, s1, s2, s3⟩ := store_cells (P := Tryz.prog) (X := cellsR R.reg ev sn tm R.k) hb (by rw [hl]; rfl) (cellsR_one (by rw [f1]; rfl) (by rw [f2]; rfl) (by rw [f3]; rfl))
 have keepR : ∀ {k : Nat} {x : Value} {rs : List (List Value)}, ReadsR k w4 x rs → (∀ g', x.ownBlock = some g' → n ≤ g') → Wide k rs → 0 < k → ReadsR k W x rs := fun {k x rs} hr hx hwd hk0 => by
  rcases hor with hor | ⟨-, rfl⟩
  ·exact (hr.keep k5).kept s3 (fun g' h' h2 => by have := hx g' h'; simp at h2; omega)
  ·by_cases hne : rs = []
   ·subst hne
    obtain ⟨a, cap, e, q1, q2, q3, q4⟩ := hr
    exact ⟨a, cap, e, q1, q2, q3, fun h => absurd rfl h⟩
   ·obtain ⟨g', e1, e2⟩ := hr.lt hwd hk0 hne
    exact (hr.keep k5).kept s3 (fun g'' h' h2 => by rw [e1] at h'; injection h' with h'; subst h'; simp at h2; omega)
 exact ⟨W, s1, ⟨ev, sn, tm, ⟨s2, keepR h1 n1 (wideE _) (by omega), keepR h2 n2 (wideS _) (by omega), keepR h3 n3 (wideT _) (by omega), h8⟩, fun g hg => Nat.le_trans hn (n1 g hg), fun g hg => Nat.le_trans hn (n2 g hg), fun g hg => Nat.le_trans hn (n3 g hg)⟩, (K.then k5).trans s3 (fun x hx => .inr (by simp at hx; omega)), hg⟩
theorem rowT_at_N {w : World} {v : Value} {C : List Tm} (h : ReadsR 5 w v (rowT C)) {j : Nat} {x : Tm} (hj : C[j]? = some x) : ∃ b o c, v = .slice (some ⟨b, o, none⟩) C.length c ∧ w.cell? ⟨b, o + j * 5, none⟩ = some (.string ⟨x.nm.toArray⟩) ∧ w.cell? ⟨b, o + j * 5 + 1, none⟩ = some (.bool x.can) ∧ w.cell? ⟨b, o + j * 5 + 2, none⟩ = some (.int .i64 x.due) ∧ w.cell? ⟨b, o + j * 5 + 3, none⟩ = some (.int .i64 x.per) ∧ w.cell? ⟨b, o + j * 5 + 4, none⟩ = some (.int .i64 x.kind) := by
 obtain ⟨b, o, c, e, hc⟩ := h.at j [.string ⟨x.nm.toArray⟩, .bool x.can, .int .i64 x.due, .int .i64 x.per, .int .i64 x.kind] (by simp [rowT, hj])
 rw [rowT_length] at e
 exact ⟨b, o, c, e, hc 0 _ rfl, hc 1 _ rfl, hc 2 _ rfl, hc 3 _ rfl, hc 4 _ rfl⟩
section
variable {w : World}
end
end Go.Proofs.YtngnenbidpojeaaGreatDoor
