import Derived.Deep.QuietTactic
import Derived.BigQuiet
import Derived.Shelf.SlSortCmp.WholeK
import Derived.Shelf.SlSortCmp.NoneTotal
import Derived.Shelf.Pu.Clone
import Derived.Ground.SlsfProg
import Derived.Ground.MpProg
import Derived.Test.YtgpbhlfdlkemjaaGreatProg
import Derived.Test.YtgpbhlfdlkemjaaGreatH34
/-
 changes: the walk.
-/
namespace Go.Proofs.YtgpbhlfdlkemjaaGreat
open Go.RowKit
set_option linter.unusedVariables false
theorem up_uniq {is:List Itm} (h:Up is) {i i':Itm} (hi:i∈is) (hi':i'∈is) (e:i.key=i'.key):i=i':=by
 refine nodup_key (f:=Itm.key) (List.pairwise_map.2 (h.imp ?_)) i hi i' hi' e
 intro a b hab e
 rw [e] at hab
 exact klt_irrefl _ hab
section
variable {w:World}{F:Nat→Prop}{ρ:Rho}
set_option maxRecDepth 100000 in
set_option maxHeartbeats 4000000 in
theorem changes_any {tb:Nat}{t:AT} (c1:w.cell? ⟨tb,1,none⟩=some (ptrT t)) (hT:Hid (IsT w F ρ t)) (hu:Hid (Up (itsT t))) (hsz:Hid (Sized (itsT t))) (hB:Hid (Blank ρ w)) {a:Option Addr}{N c:Nat}{rs:List Cq} (hr:RowQ w (.slice a N c) rs) (hN:Hid (N=rs.length)) (hl:N≤900000) (hv:Hid (ValsQ w rs)) (hvs:Hid (∀x∈rs,x.c.key.length≤64∧x.c.val.length≤20000))
  (H77:Hid (∀(key:List UInt8) (W:World),key.length≤64→Calls Tryz.prog 77 #[Sv key] W fun e w'=>e=.returned (Sv key)∧Kept [] W w')) :
  Calls Tryz.prog 47 #[Pp tb,.slice a N c] w fun e w'=>∃v cs,e=.returned v∧ChAt ρ w (itsT t) rs N w' v cs:=by
 have HRD:Hid (∀W,Kept [] w W→RowQ W (.slice a N c) rs):=Hid.mk fun W kW=>hr.kept kW (by simp)
 have HC1:Hid (∀W,Kept [] w W→W.cell? ⟨tb,1,none⟩=some (ptrT t)):=Hid.mk fun W kW=>by rw [kW.cell (World.block_lt_of_cell? _ _ c1) (by simp)];exact c1
 have HF:Hid (∀W,Kept [] w W→∀key,Calls Tryz.prog 56 #[ptrT t,Sv key] W fun e w'=>FoundAt (itsT t) key e∧∃q,w'=W.drewN q):=Hid.mk fun W kW key=>by
  have hT':IsT W F ρ t:=by
   cases t with
   | none=>trivial
   | some n=>exact ⟨hT.out.1.kept kW (by simp),hT.out.2⟩
  exact findT hT' hu.out key
 have HI:Hid (∀i∈itsT t,∀W,Kept [] w W→IsI W F ρ i):=Hid.mk fun i hi W kW=>by
  cases t with
  | none=>simp [itsT] at hi
  | some n=>exact (hT.out.1.item i hi).kept kW (by simp)
 clear hr c1
 obtain ⟨P,hP⟩:∃P,Hid (P=ptrT t):=⟨_,rfl⟩
 rw [←hP.out] at HC1 HF
 obtain ⟨is,his⟩:∃is,Hid (is=itsT t):=⟨_,rfl⟩
 rw [←his.out] at HF HI ⊢
 have hszi:Hid (Sized is):=Hid.mk (by rw [his.out];exact hsz.out)
 have hui:Hid (Up is):=Hid.mk (by rw [his.out];exact hu.out)
 clear hT hu hsz hP
 go_enter Tryz.func47,Tryz.ntmps47
 go_wp2_with fail
 go_loopw [5,12] (fun v i wr=>∃(j:Nat) (cs:List Chg),i=.int .i64 (j:Int)∧j≤N∧Hid (ChAt ρ w is rs j wr v cs)) (fun _ i _=>N-(intOf i).toNat)
 case atStart=>exact ⟨0,[],rfl,by omega,Hid.mk ChAt.start⟩
 case round =>
  obtain ⟨j,cs,rfl,hj,hA⟩:=hrel
  have kk:=hA.out.kept
  by_cases hlt:j<N
  ·obtain ⟨x,hx⟩:∃x,rs[j]?=some x:=⟨_,List.getElem?_eq_getElem (by have:=hN.out;omega)⟩
   have HX:=Hid.mk hx
   have hm:=List.mem_of_getElem? hx
   obtain ⟨b,o,rfl,c0,c1,c2⟩:=(HRD.out wr kk).at hx
   have hnew:=cell_new3 wr (Sv x.c.key) (.slice x.ad x.c.val.length x.cap) (.bool x.c.gone) 61
   obtain ⟨W1,hW1⟩:∃W1,Hid (wr.alloc (.cells #[Sv x.c.key,.slice x.ad x.c.val.length x.cap,.bool x.c.gone] 61)=W1):=⟨_,rfl⟩
   have k1:Kept [] wr W1:=by rw [←hW1.out];exact (Kept.refl [] wr).alloc _
   have kw1:=kk.trans k1 (by simp)
   rw [hW1.out] at hnew
   obtain ⟨n0,n1,n2⟩:=hnew
   have t1:W1.cell? ⟨tb,1,none⟩=some P:=HC1.out _ kw1
   have hkl:=hvs.out x hm
   have HVX:Hid (∀W,Kept [] w W→Reads W (.slice x.ad x.c.val.length x.cap) x.c.val):=Hid.mk fun W kW=>(hv.out x hm).kept kW (by simp)
   have HSK:Hid (chg is x.c=false→∀W,Kept [] W1 W→ChAt ρ w is rs (j+1) W u5 cs):=Hid.mk fun h W kW=>hA.out.skip HX.out h (k1.trans kW (by simp))
   have HMR:Hid (chg is x.c=true→∀W,Kept [] W1 W→∀(c:Chg),chV c=asC x.c→(∀i,c.2=some i→IsI W (fun b=>wr.heap.size≤b) ρ i∧i.key=c.1∧wr.heap.size≤i.ad)→∃ad cp w2,(Builtin.append_ #[86,86] 86 #[u5,.slice (some ⟨W.heap.size,0,none⟩) 1 1]).run Tryz.prog (W.alloc (.cells #[Sv c.1,ptr c.2] 143))=.ok (.slice ad (cs.length+1) cp) w2∧ChAt ρ w is rs (j+1) w2 (.slice ad (cs.length+1) cp) (cs++[c])):=Hid.mk fun h W kW c hcv hi=>hA.out.more HX.out h (k1.trans kW (by simp)) c hcv hi (by omega) 86
   have HCH:Hid (chg is x.c=if x.c.gone then decide (x.c.key∈is.map Itm.key) else decide ((x.c.key,x.c.val)∉is.map kv)):=Hid.mk rfl
   have HAS:Hid (asC x.c=(x.c.key,if x.c.gone then none else some x.c.val)):=Hid.mk rfl
   have hz1:Hid (W1.heap.size=wr.heap.size+1):=Hid.mk (by rw [←hW1.out];simp)
   by_cases hex:∃i∈is,i.key=x.c.key
   ·obtain ⟨i,hi,hik⟩:=hex
    have hfq:∀n,Calls Tryz.prog 56 #[P,Sv x.c.key] (W1.drewN n) fun e w'=>e=.returned (Pp i.ad)∧∃m,w'=(W1.drewN n).drewN m:=fun n=>(HF.out _ (kw1.drewN n) x.c.key).mono (by
     rintro e w' ⟨h1|h1,h2⟩
     ·obtain ⟨i',hi',hk',rfl⟩:=h1
      exact ⟨by rw [up_uniq hui.out hi' hi (hk'.trans hik.symm)],h2⟩
     ·exact absurd hik (h1.1 i hi))
    have HIi:Hid (∀W,Kept [] w W→IsI W F ρ i):=Hid.mk (HI.out i hi)
    cases hg:x.c.gone with
    | true =>
     rw [hg] at HCH HAS c2 n2 hW1
     have HMR2:=Hid.mk (HMR.out (by rw [HCH.out];simp;exact ⟨i,hi,hik⟩))
     have HAS2:Hid (chV (x.c.key,none)=asC x.c):=Hid.mk (by rw [HAS.out];rfl)
     have HM3:=Hid.mk fun n=>HMR2.out (W1.drewN n) ((Kept.refl [] W1).drewN n) (x.c.key,none) HAS2.out (fun i e=>by cases e)
     obtain ⟨aV,cV,-,-,d2,-,-⟩:=(HIi.out _ kw1).cells
     rw [hik] at d2
     clear hx HX hm HCH HAS HSK HMR hg HVX H77 HMR2 HAS2
     generalize x.ad=va at *
     generalize x.cap=vc at *
     generalize x.c.val.length=vl at *
     generalize x.c.key=key at *
     generalize i.ad=I at *
     go_wp2_with fail
     rw [hW1.out]
     go_quiet ((go_at_call 56;exact Calls.quiet_of (hfq _)))
     obtain ⟨ad,cp,w2,hrun,hnx⟩:=HM3.out nq
     change (Builtin.append_ #[86,86] 86 #[u5,.slice (some ⟨W1.heap.size,0,none⟩) 1 1]).run Tryz.prog ((W1.drewN nq).alloc (.cells #[Sv key,.pointer none] 143))=_ at hrun
     have HNX:=Hid.mk hnx
     clear hnx HM3 hfq
     go_wp2_with (at_builtin;refine wpList_append_run 86 _ _ rfl rfl _ _ rfl rfl _ _ hrun ?_)
     go_roundw
     case rel=>exact ⟨j+1,_,by go_num,by omega,HNX⟩
     case measure=>simp [intOf];omega
    | false =>
     rw [hg] at HCH HAS c2 n2 hW1
     obtain ⟨aV,cV,-,-,-,d3,rV⟩:=(HIi.out _ kw1).cells
     by_cases hvv:i.val=x.c.val
     ·have hS1:=Hid.mk (HSK.out (by rw [HCH.out];simp;exact ⟨i,hi,by unfold kv;rw [hik,hvv]⟩))
      have heq:∀n,Calls Tryz.prog 76 #[.slice aV i.val.length cV,.slice x.ad x.c.val.length x.cap] (W1.drewN n) fun e w'=>e=.returned (.bool true)∧w'=W1.drewN n:=fun n=>(equal_yes _ _ x.c.val _ (by rw [←hvv];exact rV.kept ((Kept.refl [] W1).drewN n) (by simp)) (HVX.out _ (kw1.drewN n))).mono (by rintro e w' ⟨rfl,rfl⟩;exact ⟨rfl,rfl⟩)
      clear hx HX hm HCH HAS HSK HMR hg HVX H77 rV hvv
      generalize x.ad=va at *
      generalize x.cap=vc at *
      generalize x.c.val.length=vl at *
      generalize i.val.length=il at *
      generalize x.c.key=key at *
      generalize i.ad=I at *
      go_wp2_with fail
      rw [hW1.out]
      go_quiet ((go_at_call 56;exact Calls.quiet_of (hfq _)))
      have heq2:∀n,Calls Tryz.prog 76 #[.slice aV il cV,.slice va vl vc] ((W1.drewN nq).drewN n) fun e w'=>e=.returned (.bool true)∧w'=(W1.drewN nq).drewN n:=fun n=>by have:=heq (nq+n);rwa [←World.drewN_drewN] at this
      have e1:(W1.drewN nq).cell? ⟨wr.heap.size,1,none⟩=some (.slice va vl vc):=n1
      have e2:(W1.drewN nq).cell? ⟨wr.heap.size,2,none⟩=some (.bool false):=n2
      have e3:(W1.drewN nq).cell? ⟨I,3,none⟩=some (.slice aV il cV):=d3
      have HK2:Hid (Kept [] W1 (W1.drewN nq)):=Hid.mk ((Kept.refl [] W1).drewN nq)
      clear hfq heq n0 n1 n2 d3 t1 c0 c1 c2
      generalize W1.drewN nq=W2 at *
      go_wp2_with fail
      go_quiet ((go_at_call 76;exact Calls.quiet_of_same (heq2 _)))
      go_wp2
      go_roundw
      case rel=>exact ⟨j+1,cs,by go_num,by omega,Hid.mk (hS1.out _ (HK2.out.drewN _))⟩
      case measure=>simp [intOf];omega
     ·have HMR2:=Hid.mk (HMR.out (by rw [HCH.out];simp;exact fun i' hi' hk=>hvv (by have e1:=congrArg Prod.fst hk;have e2:=congrArg Prod.snd hk;simp [kv] at e1 e2;rw [up_uniq hui.out hi hi' (hik.trans e1.symm)];exact e2)))
      have HAS2:Hid (∀A,chV (x.c.key,some ⟨A,x.c.key,x.c.val⟩)=asC x.c):=Hid.mk (fun A=>by rw [HAS.out];rfl)
      have heq:∀n,Calls Tryz.prog 76 #[.slice aV i.val.length cV,.slice x.ad x.c.val.length x.cap] (W1.drewN n) fun e w'=>e=.returned (.bool false)∧w'=W1.drewN n:=fun n=>(equal_no _ _ i.val x.c.val _ (rV.kept ((Kept.refl [] W1).drewN n) (by simp)) (HVX.out _ (kw1.drewN n)) hvv).mono (by rintro e w' ⟨rfl,rfl⟩;exact ⟨rfl,rfl⟩)
      have H77x:=fun W=>H77.out x.c.key W hkl.1
      have HV9:Hid (∀W,Kept [] W1 W→Calls Tryz.prog 57 #[.slice x.ad x.c.val.length x.cap] W fun e w'=>∃aN cN,e=.returned (.slice aN x.c.val.length cN)∧Owns 5 w' (.slice aN x.c.val.length cN) x.c.val∧Kept [] W w'∧Fresh W (.slice aN x.c.val.length cN)):=Hid.mk fun W kW=>(clone_any _ _ _ (HVX.out W (kw1.trans kW (by simp))) (by omega)).mono (by rintro e w' ⟨v',rfl,h1,h2⟩;obtain ⟨aN,cN,rfl⟩:=h1.form;exact ⟨aN,cN,rfl,h1,h2⟩)
      have HNEXT:Hid (∀wF v',Kept [] W1 wF→Owns 5 wF v' x.c.val→Fresh W1 v'→∃ad cp w2,(Builtin.append_ #[86,86] 86 #[u5,.slice (some ⟨wF.heap.size+1,0,none⟩) 1 1]).run Tryz.prog ((wF.alloc (.cells #[.int .i64 0,.int .u64 0,Sv x.c.key,v'] 104)).alloc (.cells #[Sv x.c.key,Pp wF.heap.size] 143))=.ok (.slice ad (cs.length+1) cp) w2∧∃cs',ChAt ρ w is rs (j+1) w2 (.slice ad (cs.length+1) cp) cs'):=Hid.mk fun wF v' kF oF fF=>by
       have kF1:=kF.alloc (.cells #[.int .i64 0,.int .u64 0,Sv x.c.key,v'] 104)
       have hbl:=hB.out wF.heap.size (Nat.le_trans kw1.size kF.size)
       have hzz:=kF.size
       have hzw:=hz1.out
       have hitem:IsI (wF.alloc (.cells #[.int .i64 0,.int .u64 0,Sv x.c.key,v'] 104)) (fun b=>wr.heap.size≤b) ρ ⟨wF.heap.size,x.c.key,x.c.val⟩:=by
        refine ⟨v',?_,(oF.kept ((Kept.refl [] wF).alloc _) (by simp)).reads,(by show wr.heap.size≤wF.heap.size;omega),fun _ g hg=>(by have:=fF g hg;show wr.heap.size≤g;omega)⟩
        show (wF.alloc _).heap[wF.heap.size]?=_
        rw [hbl]
        exact heap_alloc_new wF _
       obtain ⟨ad,cp,w2,h1,h2⟩:=HMR2.out _ kF1 (x.c.key,some ⟨wF.heap.size,x.c.key,x.c.val⟩) (HAS2.out _) (fun i e=>by injection e with e;subst e;exact ⟨hitem,rfl,by show wr.heap.size≤wF.heap.size;omega⟩)
       have e1:(wF.alloc (.cells #[.int .i64 0,.int .u64 0,Sv x.c.key,v'] 104)).heap.size=wF.heap.size+1:=by simp
       rw [e1] at h1
       exact ⟨ad,cp,w2,h1,_,h2⟩
      clear hx HX hm HCH HAS HSK HMR hg HVX H77 HMR2 HAS2 rV hvv
      generalize i.val.length=il at *
      generalize i.ad=I at *
      generalize x.ad=va at *
      generalize x.cap=vc at *
      generalize x.c.val=val at *
      generalize val.length=vl at *
      generalize x.c.key=key at *
      go_wp2_with fail
      rw [hW1.out]
      go_quiet ((go_at_call 56;exact Calls.quiet_of (hfq _)))
      have heq2:∀n,Calls Tryz.prog 76 #[.slice aV il cV,.slice va vl vc] ((W1.drewN nq).drewN n) fun e w'=>e=.returned (.bool false)∧w'=(W1.drewN nq).drewN n:=fun n=>by have:=heq (nq+n);rwa [←World.drewN_drewN] at this
      have e3:(W1.drewN nq).cell? ⟨I,3,none⟩=some (.slice aV il cV):=d3
      have e0:(W1.drewN nq).cell? ⟨wr.heap.size,0,none⟩=some (Sv key):=n0
      have e1:(W1.drewN nq).cell? ⟨wr.heap.size,1,none⟩=some (.slice va vl vc):=n1
      have e2:(W1.drewN nq).cell? ⟨wr.heap.size,2,none⟩=some (.bool false):=n2
      have HK2:Hid (Kept [] W1 (W1.drewN nq)):=Hid.mk ((Kept.refl [] W1).drewN nq)
      clear hfq heq d3 n0 n1 n2 t1 c0 c1 c2
      generalize W1.drewN nq=W2 at *
      go_wp2_with fail
      go_quiet ((go_at_call 76;exact Calls.quiet_of_same (heq2 _)))
      have f0:(W2.drewN nq).cell? ⟨wr.heap.size,0,none⟩=some (Sv key):=e0
      have f1:(W2.drewN nq).cell? ⟨wr.heap.size,1,none⟩=some (.slice va vl vc):=e1
      have HK3:Hid (Kept [] W1 (W2.drewN nq)):=Hid.mk (HK2.out.drewN nq)
      clear e0 e1 e2 e3 heq2 HK2
      generalize W2.drewN nq=W3 at *
      have kd3:Kept [] W1 W3.drew:=HK3.out.drew
      have S0:W3.drew.cell? ⟨wr.heap.size,0,none⟩=some (Sv key)∧W3.drew.cell? ⟨wr.heap.size,1,none⟩=some (.slice va vl vc):=⟨f0,f1⟩
      have HS:Hid (∀W W',Kept [] W W'→(W.cell? ⟨wr.heap.size,0,none⟩=some (Sv key)∧W.cell? ⟨wr.heap.size,1,none⟩=some (.slice va vl vc))→(W'.cell? ⟨wr.heap.size,0,none⟩=some (Sv key)∧W'.cell? ⟨wr.heap.size,1,none⟩=some (.slice va vl vc))):=Hid.mk fun W W' kW hc=>⟨by rw [kW.cell (World.block_lt_of_cell? _ _ hc.1) (by simp)];exact hc.1,by rw [kW.cell (p:=⟨wr.heap.size,1,none⟩) (World.block_lt_of_cell? _ _ hc.2) (by simp)];exact hc.2⟩
      clear f0 f1
      go_wp2_with fail
      go_region_held3 (fun w'=>w'.cell? ⟨wr.heap.size,0,none⟩=some (Sv key)∧w'.cell? ⟨wr.heap.size,1,none⟩=some (.slice va vl vc)) (first|exact S0|exact SA|exact SB|exact HS.out _ _ ((Kept.refl [] _).alloc _) SA|exact HS.out _ _ ((Kept.refl [] _).alloc _) SB) (first|(go_at_call 57;first|(refine (HV9.out _ kd3).mono ?_;rintro e wA ⟨aN,cN,rfl,oA,kA,fA⟩;have SA:=HS.out _ _ kA S0)|(refine (HV9.out _ (kd3.trans kB (by simp))).mono ?_;rintro e wA ⟨aN,cN,rfl,oA,kA,fA⟩;have SA:=HS.out _ _ kA SB))|(go_at_call 77;first|(refine (H77x _).mono ?_;rintro e wB ⟨rfl,kB⟩;first|have SB:=HS.out _ _ kB S0|have SB:=HS.out _ _ kB SA)))
      all_goals
       first
       | have HF5:Hid (Kept [] W1 wB∧Owns 5 wB (.slice aN vl cN) val∧Fresh W1 (.slice aN vl cN)):=Hid.mk ⟨(kd3.trans kA (by simp)).trans kB (by simp),oA.kept kB (by simp),fun g hg=>by have:=fA g hg;have:=kd3.size;omega⟩
       | have HF5:Hid (Kept [] W1 wA∧Owns 5 wA (.slice aN vl cN) val∧Fresh W1 (.slice aN vl cN)):=Hid.mk ⟨(kd3.trans kB (by simp)).trans kA (by simp),oA,fun g hg=>by have:=fA g hg;have:=kB.size;have:=kd3.size;omega⟩
       obtain ⟨ad,cp,w2,hrun,hnx⟩:=HNEXT.out _ _ HF5.out.1 HF5.out.2.1 HF5.out.2.2
       have HNX:=Hid.mk hnx
       have hc4:∀(W:World) (v:Value),(W.alloc (.cells #[.int .i64 0,.int .u64 0,Sv key,v] 104)).cell? ⟨W.heap.size,2,none⟩=some (Sv key):=fun W v=>by unfold World.cell?;rw [heap_alloc_new];rfl
       clear hnx HNEXT HF5 oA kA kB fA SA SB S0 HS kd3 HV9 H77x
       go_wp2_with (at_builtin;refine wpList_append_run 86 _ _ rfl rfl _ _ rfl rfl _ _ hrun ?_)
       go_roundw
       case rel=>obtain ⟨cs',hnx⟩:=HNX.out;exact ⟨j+1,cs',by go_num,by omega,Hid.mk hnx⟩
       case measure=>simp [intOf];omega
   ·have hfq:∀n,Calls Tryz.prog 56 #[P,Sv x.c.key] (W1.drewN n) fun e w'=>e=.returned (.pointer none)∧∃m,w'=(W1.drewN n).drewN m:=fun n=>(HF.out _ (kw1.drewN n) x.c.key).mono (by
     rintro e w' ⟨h1|h1,h2⟩
     ·obtain ⟨i',hi',hk',rfl⟩:=h1
      exact absurd ⟨i',hi',hk'⟩ hex
     ·exact ⟨h1.2,h2⟩)
    cases hg:x.c.gone with
    | true =>
     rw [hg] at HCH HAS c2 n2 hW1
     have hS1:=Hid.mk (HSK.out (by rw [HCH.out];simp;exact fun i hi hk=>hex ⟨i,hi,hk⟩))
     clear hx HX hm HCH HAS HSK HMR hg HVX H77 hex
     generalize x.ad=va at *
     generalize x.cap=vc at *
     generalize x.c.val.length=vl at *
     generalize x.c.key=key at *
     go_wp2_with fail
     rw [hW1.out]
     go_quiet ((go_at_call 56;exact Calls.quiet_of (hfq _)))
     clear hfq
     go_wp2_with fail
     go_quiet (fail)
     go_wp2
     go_roundw
     case rel=>exact ⟨j+1,cs,by go_num,by omega,Hid.mk (hS1.out _ ((Kept.refl [] W1).drewN _))⟩
     case measure=>simp [intOf];omega
    | false =>
     rw [hg] at HCH HAS c2 n2 hW1
     have HMR2:=Hid.mk (HMR.out (by rw [HCH.out];simp;exact fun i hi hk=>hex ⟨i,hi,congrArg Prod.fst hk⟩))
     have HAS2:Hid (∀A,chV (x.c.key,some ⟨A,x.c.key,x.c.val⟩)=asC x.c):=Hid.mk (fun A=>by rw [HAS.out];rfl)
     have H77x:=fun W=>H77.out x.c.key W hkl.1
     have HV9:Hid (∀W,Kept [] W1 W→Calls Tryz.prog 57 #[.slice x.ad x.c.val.length x.cap] W fun e w'=>∃aN cN,e=.returned (.slice aN x.c.val.length cN)∧Owns 5 w' (.slice aN x.c.val.length cN) x.c.val∧Kept [] W w'∧Fresh W (.slice aN x.c.val.length cN)):=Hid.mk fun W kW=>(clone_any _ _ _ (HVX.out W (kw1.trans kW (by simp))) (by omega)).mono (by rintro e w' ⟨v',rfl,h1,h2⟩;obtain ⟨aN,cN,rfl⟩:=h1.form;exact ⟨aN,cN,rfl,h1,h2⟩)
     have HNEXT:Hid (∀wF v',Kept [] W1 wF→Owns 5 wF v' x.c.val→Fresh W1 v'→∃ad cp w2,(Builtin.append_ #[86,86] 86 #[u5,.slice (some ⟨wF.heap.size+1,0,none⟩) 1 1]).run Tryz.prog ((wF.alloc (.cells #[.int .i64 0,.int .u64 0,Sv x.c.key,v'] 104)).alloc (.cells #[Sv x.c.key,Pp wF.heap.size] 143))=.ok (.slice ad (cs.length+1) cp) w2∧∃cs',ChAt ρ w is rs (j+1) w2 (.slice ad (cs.length+1) cp) cs'):=Hid.mk fun wF v' kF oF fF=>by
      have kF1:=kF.alloc (.cells #[.int .i64 0,.int .u64 0,Sv x.c.key,v'] 104)
      have hbl:=hB.out wF.heap.size (Nat.le_trans kw1.size kF.size)
      have hzz:=kF.size
      have hzw:=hz1.out
      have hitem:IsI (wF.alloc (.cells #[.int .i64 0,.int .u64 0,Sv x.c.key,v'] 104)) (fun b=>wr.heap.size≤b) ρ ⟨wF.heap.size,x.c.key,x.c.val⟩:=by
       refine ⟨v',?_,(oF.kept ((Kept.refl [] wF).alloc _) (by simp)).reads,(by show wr.heap.size≤wF.heap.size;omega),fun _ g hg=>(by have:=fF g hg;show wr.heap.size≤g;omega)⟩
       show (wF.alloc _).heap[wF.heap.size]?=_
       rw [hbl]
       exact heap_alloc_new wF _
      obtain ⟨ad,cp,w2,h1,h2⟩:=HMR2.out _ kF1 (x.c.key,some ⟨wF.heap.size,x.c.key,x.c.val⟩) (HAS2.out _) (fun i e=>by injection e with e;subst e;exact ⟨hitem,rfl,by show wr.heap.size≤wF.heap.size;omega⟩)
      have e1:(wF.alloc (.cells #[.int .i64 0,.int .u64 0,Sv x.c.key,v'] 104)).heap.size=wF.heap.size+1:=by simp
      rw [e1] at h1
      exact ⟨ad,cp,w2,h1,_,h2⟩
     clear hx HX hm HCH HAS HSK HMR hg HVX H77 HMR2 HAS2 hex
     generalize x.ad=va at *
     generalize x.cap=vc at *
     generalize x.c.val=val at *
     generalize val.length=vl at *
     generalize x.c.key=key at *
     go_wp2_with fail
     rw [hW1.out]
     go_quiet ((go_at_call 56;exact Calls.quiet_of (hfq _)))
     have e0:(W1.drewN nq).cell? ⟨wr.heap.size,0,none⟩=some (Sv key):=n0
     have e1:(W1.drewN nq).cell? ⟨wr.heap.size,1,none⟩=some (.slice va vl vc):=n1
     have e2:(W1.drewN nq).cell? ⟨wr.heap.size,2,none⟩=some (.bool false):=n2
     have HK2:Hid (Kept [] W1 (W1.drewN nq)):=Hid.mk ((Kept.refl [] W1).drewN nq)
     clear hfq n0 n1 n2 t1 c0 c1 c2
     generalize W1.drewN nq=W2 at *
     go_wp2_with fail
     go_quiet (fail)
     have f0:(W2.drewN nq).cell? ⟨wr.heap.size,0,none⟩=some (Sv key):=e0
     have f1:(W2.drewN nq).cell? ⟨wr.heap.size,1,none⟩=some (.slice va vl vc):=e1
     have HK3:Hid (Kept [] W1 (W2.drewN nq)):=Hid.mk (HK2.out.drewN nq)
     clear e0 e1 e2 HK2
     generalize W2.drewN nq=W3 at *
     have kd3:Kept [] W1 W3.drew:=HK3.out.drew
     have S0:W3.drew.cell? ⟨wr.heap.size,0,none⟩=some (Sv key)∧W3.drew.cell? ⟨wr.heap.size,1,none⟩=some (.slice va vl vc):=⟨f0,f1⟩
     have HS:Hid (∀W W',Kept [] W W'→(W.cell? ⟨wr.heap.size,0,none⟩=some (Sv key)∧W.cell? ⟨wr.heap.size,1,none⟩=some (.slice va vl vc))→(W'.cell? ⟨wr.heap.size,0,none⟩=some (Sv key)∧W'.cell? ⟨wr.heap.size,1,none⟩=some (.slice va vl vc))):=Hid.mk fun W W' kW hc=>⟨by rw [kW.cell (World.block_lt_of_cell? _ _ hc.1) (by simp)];exact hc.1,by rw [kW.cell (p:=⟨wr.heap.size,1,none⟩) (World.block_lt_of_cell? _ _ hc.2) (by simp)];exact hc.2⟩
     clear f0 f1
     go_wp2_with fail
     go_region_held3 (fun w'=>w'.cell? ⟨wr.heap.size,0,none⟩=some (Sv key)∧w'.cell? ⟨wr.heap.size,1,none⟩=some (.slice va vl vc)) (first|exact S0|exact SA|exact SB|exact HS.out _ _ ((Kept.refl [] _).alloc _) SA|exact HS.out _ _ ((Kept.refl [] _).alloc _) SB) (first|(go_at_call 57;first|(refine (HV9.out _ kd3).mono ?_;rintro e wA ⟨aN,cN,rfl,oA,kA,fA⟩;have SA:=HS.out _ _ kA S0)|(refine (HV9.out _ (kd3.trans kB (by simp))).mono ?_;rintro e wA ⟨aN,cN,rfl,oA,kA,fA⟩;have SA:=HS.out _ _ kA SB))|(go_at_call 77;first|(refine (H77x _).mono ?_;rintro e wB ⟨rfl,kB⟩;first|have SB:=HS.out _ _ kB S0|have SB:=HS.out _ _ kB SA)))
     all_goals
      first
      | have HF5:Hid (Kept [] W1 wB∧Owns 5 wB (.slice aN vl cN) val∧Fresh W1 (.slice aN vl cN)):=Hid.mk ⟨(kd3.trans kA (by simp)).trans kB (by simp),oA.kept kB (by simp),fun g hg=>by have:=fA g hg;have:=kd3.size;omega⟩
      | have HF5:Hid (Kept [] W1 wA∧Owns 5 wA (.slice aN vl cN) val∧Fresh W1 (.slice aN vl cN)):=Hid.mk ⟨(kd3.trans kB (by simp)).trans kA (by simp),oA,fun g hg=>by have:=fA g hg;have:=kB.size;have:=kd3.size;omega⟩
      obtain ⟨ad,cp,w2,hrun,hnx⟩:=HNEXT.out _ _ HF5.out.1 HF5.out.2.1 HF5.out.2.2
      have HNX:=Hid.mk hnx
      have hc4:∀(W:World) (v:Value),(W.alloc (.cells #[.int .i64 0,.int .u64 0,Sv key,v] 104)).cell? ⟨W.heap.size,2,none⟩=some (Sv key):=fun W v=>by unfold World.cell?;rw [heap_alloc_new];rfl
      clear hnx HNEXT HF5 oA kA kB fA SA SB S0 HS kd3 HV9 H77x
      go_wp2_with (at_builtin;refine wpList_append_run 86 _ _ rfl rfl _ _ rfl rfl _ _ hrun ?_)
      go_roundw
      case rel=>obtain ⟨cs',hnx⟩:=HNX.out;exact ⟨j+1,cs',by go_num,by omega,Hid.mk hnx⟩
      case measure=>simp [intOf];omega
  ·obtain rfl:j=N:=by omega
   go_wp2
   go_ret
   exact ⟨_,cs,rfl,hA.out⟩
end
end Go.Proofs.YtgpbhlfdlkemjaaGreat
namespace Go.Proofs.YtgpbhlfdlkemjaaGreat
open Go.Shelf
def sortQ_ren:Go.Shelf.Ren:=⟨fun|6=>43|15=>74|14=>73|28=>114|29=>115|20=>106|21=>107|22=>108|23=>109|24=>110|25=>111|26=>112|27=>113|46=>143|47=>144|48=>145|49=>146|50=>147|57=>166|n=>n,fun|22=>40|24=>61|25=>85|3=>3|39=>44|0=>0|53=>180|55=>23|4=>4|46=>174|45=>173|50=>157|5=>5|9=>9|66=>207|70=>211|76=>229|77=>230|n=>n,fun|n=>n⟩
theorem sortQ:Go.Proofs.SlLaysF0.n6 Tryz.prog sortQ_ren:={
 mixed:=by kernel_rfl
 f6:=⟨Tryz.f43.name,by decide,Tryz.func43.trans (congrArg some (by kernel_rfl))⟩
 f14:=⟨Tryz.f73.name,by decide,Tryz.func73.trans (congrArg some (by kernel_rfl))⟩
 f15:=Tryz.func74.trans (congrArg some (by kernel_rfl))
 f20:=⟨Tryz.f106.name,by decide,Tryz.func106.trans (congrArg some (by kernel_rfl))⟩
 f21:=⟨Tryz.f107.name,by decide,Tryz.func107.trans (congrArg some (by kernel_rfl))⟩
 f22:=⟨Tryz.f108.name,by decide,Tryz.func108.trans (congrArg some (by kernel_rfl))⟩
 f23:=⟨Tryz.f109.name,by decide,Tryz.func109.trans (congrArg some (by kernel_rfl))⟩
 f24:=⟨Tryz.f110.name,by decide,Tryz.func110.trans (congrArg some (by kernel_rfl))⟩
 f25:=⟨Tryz.f111.name,by decide,Tryz.func111.trans (congrArg some (by kernel_rfl))⟩
 f26:=⟨Tryz.f112.name,by decide,Tryz.func112.trans (congrArg some (by kernel_rfl))⟩
 f27:=⟨Tryz.f113.name,by decide,Tryz.func113.trans (congrArg some (by kernel_rfl))⟩
 f28:=Tryz.func114.trans (congrArg some (by kernel_rfl))
 f29:=Tryz.func115.trans (congrArg some (by kernel_rfl))
 f46:=⟨Tryz.f143.name,by decide,Tryz.func143.trans (congrArg some (by kernel_rfl))⟩
 f47:=Tryz.func144.trans (congrArg some (by kernel_rfl))
 f48:=Tryz.func145.trans (congrArg some (by kernel_rfl))
 f49:=⟨Tryz.f146.name,by decide,Tryz.func146.trans (congrArg some (by kernel_rfl))⟩
 f50:=⟨Tryz.f147.name,by decide,Tryz.func147.trans (congrArg some (by kernel_rfl))⟩
 f57:=⟨Tryz.f166.name,by decide,Tryz.func166.trans (congrArg some (by kernel_rfl))⟩
 t0:=Tryz.underlying0
 a0:=Tryz.isAgg0
 z0:=Tryz.sizeOf0
 v0:=Tryz.zeroValue0
 t3:=Tryz.underlying3
 a3:=Tryz.isAgg3
 z3:=Tryz.sizeOf3
 v3:=Tryz.zeroValue3
 t4:=Tryz.underlying4
 a4:=Tryz.isAgg4
 z4:=Tryz.sizeOf4
 v4:=Tryz.zeroValue4
 t5:=Tryz.underlying5
 a5:=Tryz.isAgg5
 z5:=Tryz.sizeOf5
 v5:=Tryz.zeroValue5
 t9:=Tryz.underlying9
 a9:=Tryz.isAgg9
 z9:=Tryz.sizeOf9
 v9:=Tryz.zeroValue9
 t22:=Tryz.underlying40
 a22:=Tryz.isAgg40
 z22:=Tryz.sizeOf40
 v22:=Tryz.zeroValue40
 t25:=Tryz.underlying85
 a25:=Tryz.isAgg85
 z25:=Tryz.sizeOf85
 v25:=Tryz.zeroValue85
 t39:=Tryz.underlying44
 a39:=Tryz.isAgg44
 z39:=Tryz.sizeOf44
 v39:=Tryz.zeroValue44
 t45:=Tryz.underlying173
 a45:=Tryz.isAgg173
 z45:=Tryz.sizeOf173
 v45:=Tryz.zeroValue173
 t46:=Tryz.underlying174
 a46:=Tryz.isAgg174
 z46:=Tryz.sizeOf174
 v46:=Tryz.zeroValue174
 t50:=Tryz.underlying157
 a50:=Tryz.isAgg157
 z50:=Tryz.sizeOf157
 v50:=Tryz.zeroValue157
 t53:=Tryz.underlying180
 a53:=Tryz.isAgg180
 z53:=Tryz.sizeOf180
 v53:=Tryz.zeroValue180
 t55:=Tryz.underlying23
 a55:=Tryz.isAgg23
 z55:=Tryz.sizeOf23
 v55:=Tryz.zeroValue23
 t66:=Tryz.underlying207
 a66:=Tryz.isAgg207
 z66:=Tryz.sizeOf207
 v66:=Tryz.zeroValue207
 t70:=Tryz.underlying211
 a70:=Tryz.isAgg211
 z70:=Tryz.sizeOf211
 v70:=Tryz.zeroValue211
 t76:=Tryz.underlying229
 a76:=Tryz.isAgg229
 z76:=Tryz.sizeOf229
 v76:=Tryz.zeroValue229
 t77:=Tryz.underlying230
 a77:=Tryz.isAgg230
 z77:=Tryz.sizeOf230
 v77:=Tryz.zeroValue230 }
def cloneS_ren:Go.Shelf.Ren:=⟨fun|25=>117|n=>n,fun|9=>9|3=>3|4=>4|37=>48|0=>0|47=>213|5=>5|n=>n,fun|n=>n⟩
theorem cloneS:Go.Proofs.LaysPu.n25 Tryz.prog cloneS_ren:={
 mixed:=by kernel_rfl
 f25:=Tryz.func117.trans (congrArg some (by kernel_rfl))
 t0:=Tryz.underlying0
 a0:=Tryz.isAgg0
 z0:=Tryz.sizeOf0
 v0:=Tryz.zeroValue0
 i0:=by kernel_rfl
 t3:=Tryz.underlying3
 a3:=Tryz.isAgg3
 z3:=Tryz.sizeOf3
 v3:=Tryz.zeroValue3
 i3:=by kernel_rfl
 t4:=Tryz.underlying4
 a4:=Tryz.isAgg4
 z4:=Tryz.sizeOf4
 v4:=Tryz.zeroValue4
 i4:=by kernel_rfl
 t5:=Tryz.underlying5
 a5:=Tryz.isAgg5
 z5:=Tryz.sizeOf5
 v5:=Tryz.zeroValue5
 i5:=by kernel_rfl
 t9:=Tryz.underlying9
 a9:=Tryz.isAgg9
 z9:=Tryz.sizeOf9
 v9:=Tryz.zeroValue9
 i9:=by kernel_rfl
 t37:=Tryz.underlying48
 a37:=Tryz.isAgg48
 z37:=Tryz.sizeOf48
 v37:=Tryz.zeroValue48
 i37:=by kernel_rfl
 t47:=Tryz.underlying213
 a47:=Tryz.isAgg213
 z47:=Tryz.sizeOf213
 v47:=Tryz.zeroValue213
 i47:=by kernel_rfl }
end Go.Proofs.YtgpbhlfdlkemjaaGreat
