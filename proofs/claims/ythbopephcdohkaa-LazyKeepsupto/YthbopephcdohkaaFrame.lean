/-
  From a walk of one goroutine to a row of the second form that says 'leaving' and that the clock may go on.
-/
import Derived.Test.YthbopephcdohkaaRows
import Derived.Conc.HoldsTime
import Derived.JoinedCond
import Derived.Leaving
namespace Go.Proofs.Ythbopephcdohkaa
open Go Go.Conc Go.ConcM Go.ChangeShapes

section
variable {H : Type} {enc : TypeId × Value → H}

theorem os_back {W W' : World} (h : W'.os = W.os) : { W' with os := W.os } = W' := by rw [← h]

/-- One goroutine: what its walk says, as the row asks it. -/
theorem alone_time (s : ChangeSpec) {a : Assume} {C : Checked} {os : Os} {f : FuncId} {fn : Func} {F : Stop.Interp} {conds : List PathCond} {apart fresh handsOn : Bool}
    (own : ownKnob C.prog.godebug = none) (started : os.Started) (noInit : C.prog.inits.idxOf? f = none) (hfn : C.prog.funcs[f]? = some fn)
    (witness : ∃ (w : World) (tape : Tape) (i : Input), w.os = os ∧ (w.forCall tape i).Shaped C.prog ∧ i.vars = [] ∧ Input.okWide C.prog (w.forCall tape i) .any w.heap.size f i ∧
      (Rows.OpenSpec.upto s).pre6 enc C.prog fn conds apart (w.forCall tape i).memory i.args ∧ a.holds C.prog (lone (Frame.enter C.prog f i.args .normal) [] (w.forCall tape i)))
    (contract : ∀ (W : World) (base : Nat) (args : Array Value) (ds gs : List (DataW H)) (before : List MemPlace),
      (∀ (j : Nat) t v, fn.params[j]? = some t → args[j]? = some v → Value.okWide C.prog W .any base t v) →
      DataW.Whole enc C.prog fn.params.toList s.vars apart W args.toList ds gs before → Rows.uptoSmall H (ds ++ gs) = true →
      Calls C.prog f args W fun e W' => ∃ v, e = .returned v ∧ s.post enc C.prog fn apart fresh handsOn false W args v W' ∧ W'.os = W.os) :
    ReturnsInLeavingWide a C os f .any ((Rows.OpenSpec.upto s).pre6 enc C.prog fn conds apart) ((Rows.OpenSpec.upto s).postWith enc C.prog fn F (outsideKept [.timePasses]) apart fresh handsOn) := by
  intro enter
  refine ReturnsInOpen.mono (atReturn := aloneAtReturn C.prog) (always := nothingAlways) (fun m w t x => ⟨x.2.1, onlyLeaving_of_quiet x.1, x.2.2⟩) (fun _ x => x) (returnsInHanded_of_calls own started noInit witness ?_ enter)
  intro w tape i _ _ _ hok hpre _
  obtain ⟨_, _, _, fn', hfn', _, _, _, _, hval⟩ := hok
  obtain rfl : fn' = fn := Option.some.inj (hfn'.symm.trans hfn)
  obtain ⟨ds, gs, before, hw, _, hk⟩ := (OpenSpec.pre_some (s := Rows.OpenSpec.upto s) (k := Rows.uptoSmall) rfl conds apart _ _).1 hpre.1
  refine (contract (w.forCall tape i) w.heap.size i.args ds gs before hval (DataW.Whole.of_heap (w' := w.forCall tape i) (by rfl) hw) hk).mono fun e W' ⟨v, he, hp, ho⟩ => ?_
  subst he
  have hp' : s.post enc C.prog fn' apart fresh handsOn false (w.forCall tape i) i.args v { W' with os := (w.forCall tape i).os } := by rw [os_back ho]; exact hp
  exact postWith_blind (postWith_of_post (F := F) hp' (by rw [ho]; exact OsLater.refl _))

/-- One input that fits, the tape calm. -/
theorem witness_calm (s : ChangeSpec) {C : Checked} {os : Os} {f : FuncId} {fn : Func} {conds : List PathCond} {apart : Bool} (i : Input) (fuel : Nat)
    (hv : (World.plainHolding C.prog os i).variablesB C.prog = true)
    (hr : ((World.plainHolding C.prog os i).heap.toList.drop C.prog.globals.size).take ((begin C.prog (fun _ _ => 0) default).world.heap.size - C.prog.globals.size) =
      (begin C.prog (fun _ _ => 0) default).world.heap.toList.drop C.prog.globals.size)
    (hok : Input.okWideB C.prog (World.plainHolding C.prog os i) f ⟨#[], i.args, []⟩ = true)
    {x : List (DataW H) × List (DataW H) × List MemPlace} (hx : DataW.whole enc C.prog (World.plainHolding C.prog os i).memory fn.params.toList s.vars apart i.args.toList fuel = some x)
    (hconds : conds.all (PathCond.test C.prog ⟨fn.params.toList, x.1, (Rows.OpenSpec.upto s).bare.plain.varTypes C.prog, x.2.1⟩) = true) (hkk : Rows.uptoSmall H (x.1 ++ x.2.1) = true)
    (hsz : (Rows.OpenSpec.upto s).bare.sizedB enc C.prog fn apart (World.plainHolding C.prog os i).memory i.args fuel = true := by kernel_rfl) :
    ∃ (w : World) (tape : Tape) (i : Input), w.os = os ∧ (w.forCall tape i).Shaped C.prog ∧ i.vars = [] ∧ Input.okWide C.prog (w.forCall tape i) .any w.heap.size f i ∧
      (Rows.OpenSpec.upto s).pre6 enc C.prog fn conds apart (w.forCall tape i).memory i.args ∧ ({ calm := true } : Assume).holds C.prog (lone (Frame.enter C.prog f i.args .normal) [] (w.forCall tape i)) := by
  refine ⟨World.holding C.prog os i, fun _ _ => 0, ⟨#[], i.args, []⟩, rfl, World.shaped_of_B hv hr, (Input.okWide_of_okWideB (base := 0) hok).1, (Input.okWide_of_okWideB hok).2, ⟨?_, sizedMet_of_sizedB hsz⟩, ?_⟩
  · exact (OpenSpec.pre_some (s := Rows.OpenSpec.upto s) (k := Rows.uptoSmall) rfl conds apart _ _).2 ⟨x.1, x.2.1, x.2.2, DataW.Whole_of_whole hx, hconds, hkk⟩
  · simp only [Assume.holds]
    exact ⟨by simp, fun _ _ _ _ => rfl, by simp, by simp, by simp⟩
end

/-- The row, of its closed facts and of what the calls do. -/
theorem holds_time {p : Pinned} {s : ChangeSpec} {c : OpenClaim} (f : FuncId) (fn : Func) (hn : c.program = p.name) (hs : c.sum = p.sum) (hsp : c.spec = s.name) (hstart : c.start = .entering) (hout : c.outside = [.timePasses])
    (hin : c.inits = []) (hun : c.under = none) (hi4 : c.initsInPlace = [] ∧ c.initsUnfollowed = false ∧ c.initsRecurse = false ∧ c.initsNamed = [] ∧ c.initsPassed = []) (hnb : c.noBlocks = false) (hlv : c.leaving = true) (hfo : c.followed = none) (hnar : c.narrowed = true) (hstill : c.still = false)
    (hfn : p.checked.prog.funcNamed c.func = some f) (hf : p.checked.prog.funcs[f]? = some fn) (closed : joinedFacts p.checked.prog f fn (Rows.OpenSpec.upto s).bare c = true)
    (hinst : fn.isInstance p.checked.prog c.origin c.targs) (hwrap : fn.isWrapper p.checked.prog c.wrapper c.mainSum)
    (h : ∀ os : Os, os.Started → ∀ (H : Type) (enc : TypeId × Value → H) (F : Stop.Interp), ReturnsInLeavingWide c.assume p.checked os f .any (c.pre enc p.checked.prog fn (Rows.OpenSpec.upto s)) ((Rows.OpenSpec.upto s).postWith enc p.checked.prog fn F (outsideKept [.timePasses]) c.apart c.fresh c.handsOn)) :
    c.holds p (Rows.OpenSpec.upto s) := by
  simp only [joinedFacts, Bool.and_eq_true, beq_iff_eq, Array.all_eq_true_iff_forall_mem, List.all_eq_true, decide_eq_true_eq] at closed
  obtain ⟨⟨⟨⟨⟨⟨⟨⟨⟨⟨⟨⟨⟨⟨⟨⟨⟨⟨⟨⟨⟨⟨⟨⟨⟨⟨⟨⟨⟨⟨⟨q1, q2⟩, q3⟩, q4⟩, q5⟩, q6⟩, q7⟩, q8⟩, q9⟩, q10⟩, q11⟩, q12⟩, q13⟩, q14⟩, q15⟩, q16⟩, q17⟩, q18⟩, q19⟩, q20⟩, q21⟩, q22⟩, q23⟩, q24⟩, q25⟩, q26⟩, q27⟩, q28⟩, q29⟩, q30⟩, q31⟩, q32⟩ := closed
  have quiet : ∀ os : Os, Stop.quiet p.checked.prog os := fun os k hk => by rw [q9] at hk; cases hk
  have world : ∀ os : Os, c.world os ↔ os.Started := fun os => by
    unfold OpenClaim.world
    rw [hout, hstart]
    exact ⟨fun x => x.1, fun x => ⟨x, fun o ho => by rw [List.mem_singleton] at ho; subst ho; trivial⟩⟩
  have told : c.startTold p.checked.prog := by unfold OpenClaim.startTold; rw [hstart]; exact ⟨hin, hun, hi4⟩
  have fits : c.startFits p.checked.prog := by unfold OpenClaim.startFits; rw [hstart]; exact q26
  have names : namedTie p.checked.prog c.namedList (Rows.OpenSpec.upto s).vars = true := by unfold OpenClaim.namedList; rw [hfo]; exact q5
  have words : p.checked.prog.envWorded = true := by unfold Program.envWorded; rw [q9]; rfl
  have narrow : c.narrowed = (c.outside.any OutsideCond.fixesBytes || (Rows.OpenSpec.upto s).cond.isSome || c.shortTexts.isSome) := by rw [hout, hnar]; rfl
  have lists : c.lists p.checked.prog [] := by unfold OpenClaim.lists; rw [hfo]
  refine ⟨q1, hn, hs, hsp, q2, q3, fits, told, f, fn, hfn, hf, ⟨q4, q20⟩, (fun x => by rw [hnb] at x; cases x), names, hinst, hwrap, q6.trans q7.symm, ⟨q8.trans q9.symm, words, q25⟩, q10, q11, q12, q13, q14, ⟨q15, q31, q32⟩, ⟨q16, q21⟩, ⟨q17, q22, q29, q30⟩, ⟨q23, q27, q28, q18⟩, narrow,
    fun n hm => varReadable_some (q19 n hm), ⟨_, (world _).2 WideRow.started_initial, quiet _⟩, [], lists, fun os st _ H enc _ => ?_⟩
  rw [OpenClaim.post_not_still hstill]
  unfold OpenClaim.form
  rw [hstart, q6]
  intro F
  have key := h os ((world os).1 st) H enc F q26
  have e1 : c.okInput = Input.okWide := by unfold OpenClaim.okInput; rw [hnb]
  have e2 : c.atReturn p.checked.prog = leavingAtReturn p.checked.prog := by unfold OpenClaim.atReturn; rw [hlv]
  have e3 : c.always p.checked.prog [] = nothingAlways := by unfold OpenClaim.always; rw [hfo]
  have e4 : (Rows.OpenSpec.upto s).post enc p.checked.prog fn F c.outside c.apart c.fresh c.handsOn c.again = (Rows.OpenSpec.upto s).postWith enc p.checked.prog fn F (outsideKept [.timePasses]) c.apart c.fresh c.handsOn := by rw [hout]; rfl
  rw [← e4] at key
  rw [e1, e2, e3]
  exact key

end Go.Proofs.Ythbopephcdohkaa
