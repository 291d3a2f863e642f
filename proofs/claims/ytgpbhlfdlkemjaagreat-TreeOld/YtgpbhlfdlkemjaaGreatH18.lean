import Derived.Deep.RegionLaw
import Derived.Deep.DrawnRows
import Derived.Test.YtgpbhlfdlkemjaaGreatH17
/-
 runs, of nodes.
-/
namespace Go.Proofs.YtgpbhlfdlkemjaaGreat
open Go.RowKit
set_option linter.unusedVariables false
section
variable {w:World}{k:Nat}
set_option maxRecDepth 100000 in
set_option maxHeartbeats 4000000 in
theorem runsN_any (a:Option Addr) (n c:Nat) (l:List (Tr k)) (hn:Hid (n=l.length)) (hr:ReadsP w (.slice a n c) (l.map adr)) (hlt0:Hid (∀g,(Value.slice a n c).ownBlock=some g→g<w.heap.size)) (hl:n≤100000) (sz:(Tr k)→Nat) (hsz:Hid (∀i∈l,sz i≤236))
  (hs:Hid (∀W,Kept [] w W→∀i∈l,Calls Tryz.prog 200 #[Pp (adr i)] W fun e w'=>e=.returned (.int .i64 (sz i:Int))∧∃q,w'=W.drewN q)) :
  Calls Tryz.prog 122 #[.slice a n c] w fun e w'=>Ran 112 w (.slice a n c) adr sz l e w':=by
 have hme : ∀ (p : Nat) (W : World), Sem.run Tryz.prog (method 361 77 (Value.pointer (some ⟨p, 0, none⟩)) "reeve/tree.size") W = .ok (200, Value.pointer (some ⟨p, 0, none⟩)) W := by intro p W; kernel_rfl
 have eg:∀args w,(callFunc 200 args).run Tryz.prog w=.ok (.enter 200 args) w:=enters_of Tryz.func200 (by kernel_rfl) rfl
 have hcap:n≤c:=by
  obtain ⟨a',c',h1,h2,_⟩:=hr.form
  rw [List.length_map] at h1 h2
  injection h1 with _ _ h3
  have:=hn.out
  omega
 have hcl:c≤9223372036854775807:=by
  obtain ⟨a',c',h1,_,h3⟩:=hr.form
  injection h1 with _ _ h4
  omega
 obtain ⟨S,hS⟩:∃S:Nat→Nat,Hid (∀j,S j=((l.take j).map sz).sum):=⟨fun j=>((l.take j).map sz).sum,Hid.mk fun _=>rfl⟩
 have hS0:S 0=0:=by rw [hS.out];rfl
 have hSb:∀j,j≤n→S j≤23600000:=fun j hj=>by rw [hS.out];exact sum_take_le hsz.out hj hl (by omega)
 have hSs:∀j x,l[j]?=some x→S (j+1)=S j+sz x:=fun j x hx=>by rw [hS.out,hS.out];exact sum_take_succ hx
 have HS0:=Hid.mk hS0
 have HSb:=Hid.mk hSb
 have HSs:=Hid.mk hSs
 clear hS0 hSb hSs
 go_enter Tryz.func122,Tryz.ntmps122
 go_wp2_with fail
 go_loopw [3,15] (fun v i wr=>∃j:Nat,i=.int .i64 (j:Int)∧j≤n∧v=.int .i64 (S j:Int)∧Kept [] w wr) (fun _ i _=>n-(intOf i).toNat)
 case atStart=>exact ⟨0,rfl,by omega,by rw [HS0.out];rfl,Kept.refl [] w⟩
 case round =>
  obtain ⟨j,rfl,hj,rfl,k⟩:=hrel
  have hrr:=hr.kept k (by simp)
  have hb:=HSb.out j hj
  by_cases hlt:j<n
  ·obtain ⟨x,hx⟩:∃x,l[j]?=some x:=⟨_,List.getElem?_eq_getElem (by have:=hn.out;omega)⟩
   obtain ⟨b,o,c',e,hcell⟩:=hrr.at j (adr x) (by rw [List.getElem?_map,hx];rfl)
   rw [List.length_map,←hn.out] at e
   injection e with e _ e2
   subst e e2
   have hss:=hs.out wr k x (List.mem_of_getElem? hx)
   have hsx:=hsz.out x (List.mem_of_getElem? hx)
   have HN:=Hid.mk (HSs.out j x hx)
   generalize sz x=sx at hss hsx HN
   generalize adr x=xa at hss hcell
   clear hx hr hrr
   go_wp2_with (go_at_fn 200;refine hss.mono ?_;rintro e w' ⟨rfl,q,rfl⟩)
   go_roundw
   case rel=>exact ⟨j+1,by go_num,by omega,by rw [HN.out];go_num,k.drewN q⟩
   case measure=>simp [intOf];omega
  ·obtain rfl:j=n:=by omega
   obtain ⟨tot,htot⟩:∃tot,Hid (S j=tot):=⟨_,rfl⟩
   rw [htot.out] at hb ⊢
   have hSn:Hid (tot=(l.map sz).sum):=Hid.mk (by rw [←htot.out,hS.out,List.take_of_length_le (by have:=hn.out;omega)])
   clear HS0 HSb HSs hlt
   have hdv:(((tot:Int)+236-1) / 236)=(((tot+235) / 236:Nat):Int):=by omega
   obtain ⟨mn,hmn⟩:∃mn,Hid ((tot+235) / 236=mn):=⟨_,rfl⟩
   have hmb:mn≤100001:=by have:=hmn.out;omega
   rw [hmn.out] at hdv
   have HD:=Hid.mk hdv
   clear hdv
   have kw:=k
   go_wp2_with fail
   rw [HD.out]
   clear HD k
   go_loopw [7,8,9,31] (fun v s f i wr2=>∃(st fl j2:Nat) (C:List (List (Tr k))) (vs:List Value),s=.int .i64 (st:Int)∧f=.int .i64 (fl:Int)∧i=.int .i64 (j2:Int)∧j2≤j∧Hid (RunInv sz l C st fl j2)∧OwnsR 112 1 wr2 v (vs.map fun x=>[x])∧Slcs wr2 (.slice a j c) adr C vs∧Kept [] w wr2∧Fresh w v) (fun _ _ _ i _=>j-(intOf i).toNat)
   case atStart=>exact ⟨0,0,0,[],[],rfl,rfl,rfl,by omega,Hid.mk RunInv.start,OwnsR.nil _ _ _,Slcs.nil _ _ _,kw,fun g hg=>by simp [Value.ownBlock] at hg⟩
   case round =>
    clear kw hrr
    obtain ⟨st,fl,j2,C,vs,rfl,rfl,rfl,hj2,HI,ho,hsl,k2,hfr⟩:=hrel
    have hst:=HI.out.le
    have hfl:=HI.out.room
    have hvl:Hid (vs.length≤100000):=Hid.mk (by
     rw [hsl.1]
     have h1:=HI.out.flat
     have h2:C.length≤C.flatten.length:=by
      have:∀(D:List (List (Tr k))),(∀r∈D,r≠[])→D.length≤D.flatten.length:=fun D hD=>by
       induction D with
       | nil=>simp
       | cons r D ih =>
        have:=ih fun x hx=>hD x (by simp [hx])
        have:=List.length_pos_iff.2 (hD r (by simp))
        rw [List.flatten_cons,List.length_append,List.length_cons]
        omega
      exact this C fun r hr=>(HI.out.runs r hr).1
     rw [h1,List.length_take] at h2
     omega)
    by_cases hlt2:j2<j
    ·obtain ⟨x,hx⟩:∃x,l[j2]?=some x:=⟨_,List.getElem?_eq_getElem (by have:=hn.out;omega)⟩
     have hrr:=hr.kept k2 (by simp)
     obtain ⟨b,o,c',e,hcell⟩:=hrr.at j2 (adr x) (by rw [List.getElem?_map,hx];rfl)
     rw [List.length_map,←hn.out] at e
     injection e with e _ e2
     subst e e2
     have HSS:Hid (∀W,Kept [] w W→Calls Tryz.prog 200 #[Pp (adr x)] W fun e w'=>e=.returned (.int .i64 (sz x:Int))∧∃q,w'=W.drewN q):=Hid.mk fun W kW=>hs.out W kW x (List.mem_of_getElem? hx)
     have hsx:=hsz.out x (List.mem_of_getElem? hx)
     obtain ⟨P,hP⟩:∃P:Nat,Hid (fl*mn=P):=⟨_,rfl⟩
     have hPb:P≤23600236:=by
      rw [←hP.out]
      have:=Nat.mul_le_mul hfl hmb
      omega
     have hPe:(fl:Int)*(mn:Int)=(P:Int):=by rw [←hP.out];simp
     have hstay:=fun h=>HI.out.stay hx h hsx
     have hcut:=fun h1 h2=>HI.out.cut h1 hx h2 hsx
     rw [←hSn.out,hmn.out,hP.out] at hcut
     have HST:=Hid.mk hstay
     have HCU:=Hid.mk hcut
     clear hstay hcut
     have hsl3:∀W,st≤j2→(Instr.slice 112 (.slice (some ⟨b,o,none⟩) j c) (some (.int .i64 (st:Int))) (some (.int .i64 (j2:Int))) (some (.int .i64 (j2:Int)))).run Tryz.prog W=.ok (.slice (cutA (some ⟨b,o,none⟩) j2 st 1) (j2-st) (j2-st)) W:=fun W h=>run_cut3 rt112 W _ j c st j2 h (by omega)
     have hnew:=fun (h:st≤j2)=>ReadsP.cut (by rw [List.length_map];exact hn.out) hrr h hj2 (Nat.le_refl _) (by omega)
     have hmp:((l.map adr).take j2).drop st=((l.take j2).drop st).map adr:=by rw [List.map_drop,List.map_take]
     rw [hmp] at hnew
     have hown3:Hid (∀g,(Value.slice (cutA (some ⟨b,o,none⟩) j2 st 1) (j2-st) (j2-st)).ownBlock=some g→(Value.slice (some ⟨b,o,none⟩) j c).ownBlock=some g):=Hid.mk fun g hg=>cutA_own _ _ _ _ _ _ hg _ _
     generalize cutA (some ⟨b,o,none⟩) j2 st 1=a3 at hsl3 hnew hown3
     have hnw:=hnew hst
     have hs3:=fun W=>hsl3 W hst
     clear hsl3 hnew hmp
     generalize j2-st=m3 at hs3 hnw hown3
     generalize sz x=sx at HSS hsx HST HCU
     generalize adr x=xa at HSS hcell
     clear hx hr hrr
     by_cases hA:st<j2
     ·by_cases hsh:tot≤P
      ·have HC:=Hid.mk (HCU.out hA (.inl hsh))
       have hoW:=ho
       have hslW:=hsl
       have hnewW:=hnw
       have kW:=k2
       clear ho hsl hnw k2 HST HCU HI
       obtain ⟨a4,c4,w4,hrun,ho4,k4,hN4⟩:=append_slice rt185 hoW (.slice a3 m3 m3) rfl (by have:=hvl.out;omega) 112 (0,0) 185
       have hg4:∀y∈u7.ownBlock.toList,y∈([]:List Nat)∨w.heap.size≤y:=fun y hy=>.inr (hfr y (by simpa using hy))
       have kw4:Kept [] w w4:=kW.trans k4 hg4
       have hsl4:Slcs w4 (.slice (some ⟨b,o,none⟩) j c) adr (C++[(l.take j2).drop st]) (vs++[.slice a3 m3 m3]):=(hslW.kept k4 (fun g hg hm=>by have h1:=hfr g (by simpa using hm);have h2:=hlt0.out g hg;omega)).snoc (hnewW.kept k4 (fun g hg hm=>by have h1:=hfr g (by simpa using hm);have h2:=hlt0.out g (hown3.out g hg);omega)) hown3.out rfl
       have hfr4:Fresh w (.slice a4 (vs.length+1) c4):=fun g hg=>by
        rcases hN4 g hg with h|h
        ·exact hfr g h
        ·exact Nat.le_trans kW.size h
       have hs4:=HSS.out w4 kw4
       have Hall:=Hid.mk (And.intro ho4 (And.intro hsl4 (And.intro kw4 hfr4)))
       clear ho4 hsl4 hfr4 k4 hN4 hoW hslW hnewW kW hg4
       go_wp2_with (at_builtin;refine wpList_append_run 185 _ _ rfl rfl _ _ rfl rfl _ _ hrun ?_)
       refine hs4.mono ?_
       rintro e w' ⟨rfl,q4,rfl⟩
       go_wp2
       go_roundw
       case rel=>exact ⟨j2,sx,j2+1,_,_,rfl,by go_num,by go_num,by omega,HC,Hall.out.1.kept ((Kept.refl [] w4).drewN q4) (by simp),Hall.out.2.1.kept ((Kept.refl [] w4).drewN q4) (by simp),Hall.out.2.2.1.drewN q4,Hall.out.2.2.2⟩
       case measure=>simp [intOf];omega
      ·have hss:=HSS.out wr k2
       by_cases hfit:236<fl+sx
       ·have HC:=Hid.mk (HCU.out hA (.inr hfit))
        clear HST HCU HI
        go_wp2_with fail
        refine hss.mono ?_
        rintro e w' ⟨rfl,q,rfl⟩
        have kd:=(Kept.refl [] wr).drewN q
        have hoW:=ho.kept kd (by simp)
        have hslW:=hsl.kept kd (by simp)
        have hnewW:=hnw.kept kd (by simp)
        have kW:=k2.drewN q
        clear ho hsl hnw k2 hss
        generalize wr.drewN q=W1 at *
        clear kd
        obtain ⟨a4,c4,w4,hrun,ho4,k4,hN4⟩:=append_slice rt185 hoW (.slice a3 m3 m3) rfl (by have:=hvl.out;omega) 112 (0,0) 185
        have hg4:∀y∈u7.ownBlock.toList,y∈([]:List Nat)∨w.heap.size≤y:=fun y hy=>.inr (hfr y (by simpa using hy))
        have kw4:Kept [] w w4:=kW.trans k4 hg4
        have hsl4:Slcs w4 (.slice (some ⟨b,o,none⟩) j c) adr (C++[(l.take j2).drop st]) (vs++[.slice a3 m3 m3]):=(hslW.kept k4 (fun g hg hm=>by have h1:=hfr g (by simpa using hm);have h2:=hlt0.out g hg;omega)).snoc (hnewW.kept k4 (fun g hg hm=>by have h1:=hfr g (by simpa using hm);have h2:=hlt0.out g (hown3.out g hg);omega)) hown3.out rfl
        have hfr4:Fresh w (.slice a4 (vs.length+1) c4):=fun g hg=>by
         rcases hN4 g hg with h|h
         ·exact hfr g h
         ·exact Nat.le_trans kW.size h
        have hs4:=HSS.out w4 kw4
        have Hall:=Hid.mk (And.intro ho4 (And.intro hsl4 (And.intro kw4 hfr4)))
        clear ho4 hsl4 hfr4 k4 hN4 hoW hslW hnewW kW hg4
        go_wp2_with (at_builtin;refine wpList_append_run 185 _ _ rfl rfl _ _ rfl rfl _ _ hrun ?_)
        refine hs4.mono ?_
        rintro e w' ⟨rfl,q4,rfl⟩
        go_wp2
        go_roundw
        case rel=>exact ⟨j2,sx,j2+1,_,_,rfl,by go_num,by go_num,by omega,HC,Hall.out.1.kept ((Kept.refl [] w4).drewN q4) (by simp),Hall.out.2.1.kept ((Kept.refl [] w4).drewN q4) (by simp),Hall.out.2.2.1.drewN q4,Hall.out.2.2.2⟩
        case measure=>simp [intOf];omega
       ·have HC:=Hid.mk (HST.out (.inr (by omega)))
        clear HST HCU HI
        go_wp2_with fail
        refine hss.mono ?_
        rintro e w' ⟨rfl,q,rfl⟩
        have hs4:=HSS.out (wr.drewN q) (k2.drewN q)
        go_wp2_with fail
        refine hs4.mono ?_
        rintro e w' ⟨rfl,q4,rfl⟩
        go_wp2
        go_roundw
        case rel=>exact ⟨st,fl+sx,j2+1,C,vs,rfl,by go_num,by go_num,by omega,HC,ho.kept ((Kept.refl [] wr).drewN (q+q4)) (by simp),hsl.kept ((Kept.refl [] wr).drewN (q+q4)) (by simp),k2.drewN (q+q4),hfr⟩
        case measure=>simp [intOf];omega
     ·have HC:=Hid.mk (HST.out (.inl (by omega)))
      have hs4:=HSS.out wr k2
      clear HST HCU HI
      go_wp2_with fail
      refine hs4.mono ?_
      rintro e w' ⟨rfl,q4,rfl⟩
      go_wp2
      go_roundw
      case rel=>exact ⟨st,fl+sx,j2+1,C,vs,rfl,by go_num,by go_num,by omega,HC,ho.kept ((Kept.refl [] wr).drewN q4) (by simp),hsl.kept ((Kept.refl [] wr).drewN q4) (by simp),k2.drewN q4,hfr⟩
      case measure=>simp [intOf];omega
    ·obtain rfl:j2=j:=by omega
     have HI2:Hid (RunInv sz l C st fl l.length):=Hid.mk (by rw [←hn.out];exact HI.out)
     by_cases hA:st<j2
     ·have HC:=Hid.mk (HI2.out.last (by rw [←hn.out];exact hA))
      have hrr:=hr.kept k2 (by simp)
      have hs3:∀W,(Instr.slice 112 (.slice a j2 c) (some (.int .i64 (st:Int))) none none).run Tryz.prog W=.ok (.slice (cutA a c st 1) (j2-st) (c-st)) W:=fun W=>run_cutL rt112 W _ j2 c st (by omega)
      have hnw:=ReadsP.cut (by rw [List.length_map];exact hn.out) hrr hst (Nat.le_refl j2) hcap (Nat.le_refl c)
      have hmp:((l.map adr).take j2).drop st=(l.drop st).map adr:=by rw [List.take_of_length_le (by rw [List.length_map];have:=hn.out;omega),List.map_drop]
      rw [hmp] at hnw
      have hown3:Hid (∀g,(Value.slice (cutA a c st 1) (j2-st) (c-st)).ownBlock=some g→(Value.slice a j2 c).ownBlock=some g):=Hid.mk fun g hg=>cutA_own _ _ _ _ _ _ hg _ _
      generalize cutA a c st 1=a3 at hs3 hnw hown3
      generalize j2-st=m3 at hs3 hnw hown3
      generalize c-st=m4 at hs3 hnw hown3
      obtain ⟨a4,c4,w4,hrun,ho4,k4,hN4⟩:=append_slice rt185 ho (.slice a3 m3 m4) rfl (by have:=hvl.out;omega) 112 (0,0) 185
      have hg4:∀y∈u7.ownBlock.toList,y∈([]:List Nat)∨w.heap.size≤y:=fun y hy=>.inr (hfr y (by simpa using hy))
      have kw4:Kept [] w w4:=k2.trans k4 hg4
      have hsl4:Slcs w4 (.slice a j2 c) adr (C++[l.drop st]) (vs++[.slice a3 m3 m4]):=(hsl.kept k4 (fun g hg hm=>by have h1:=hfr g (by simpa using hm);have h2:=hlt0.out g hg;omega)).snoc (hnw.kept k4 (fun g hg hm=>by have h1:=hfr g (by simpa using hm);have h2:=hlt0.out g (hown3.out g hg);omega)) hown3.out rfl
      have hfr4:Fresh w (.slice a4 (vs.length+1) c4):=fun g hg=>by
       rcases hN4 g hg with h|h
       ·exact hfr g h
       ·exact Nat.le_trans k2.size h
      have Hall:=Hid.mk (And.intro ho4 (And.intro hsl4 (And.intro kw4 hfr4)))
      clear ho4 hsl4 hfr4 k4 hN4 ho hsl hnw k2 hg4 hr hrr hmp kw4 HI HI2
      go_wp2_with (at_builtin;refine wpList_append_run 185 _ _ rfl rfl _ _ rfl rfl _ _ hrun ?_)
      go_ret
      exact ⟨_,_,_,rfl,HC.out,Hall.out⟩
     ·have HC:=Hid.mk (HI2.out.done (by have:=hn.out;omega))
      have Hall:=Hid.mk (And.intro ho (And.intro hsl (And.intro k2 hfr)))
      clear ho hsl k2 hfr hr HI HI2
      go_wp2
      go_ret
      exact ⟨_,C,vs,rfl,HC.out,Hall.out⟩
end
theorem nodeSize_any (w:World) (a:Nat):Calls Tryz.prog 200 #[Pp a] w fun e w'=>e=.returned (.int .i64 ((10:Nat):Int))∧∃q,w'=w.drewN q:=by
 go_enter Tryz.func200,Tryz.ntmps200
 go_wp2
 go_ret
 exact ⟨rfl,0,rfl⟩
section
variable {w:World}{F:Nat→Prop}{ρ:Rho}
set_option maxRecDepth 100000 in
set_option maxHeartbeats 1000000 in
theorem branches_any {d:Nat} (hd:d≤100000) (hB:Blank ρ w) (a:Option Addr) (n c:Nat) (is:List (Tr d)) (hn:Hid (n=is.length)) (hr:ReadsP w (.slice a n c) (is.map adr)) (hF:Hid (∀g,(Value.slice a n c).ownBlock=some g→F g∧g<w.heap.size)) (hl:n≤100000) (hW:Hid (∀u∈is,Wf u)) (hA:Hid (Apart fil is)) (hI:Hid (IsNs w F ρ is)) :
  Calls Tryz.prog 79 #[.int .i64 ((d:Int)+1),.slice a n c] w fun e w'=>∃(v:Value) (ns:List (Tr (d+1))),e=.returned v∧OwnsP 77 w' v (ns.map adr)∧IsNs w' (Fx F w) ρ ns∧(∀m∈ns,Wf m)∧(ns.flatMap its=is.flatMap its∧(ns.flatMap fun m=>m.2)=is∧(2≤is.length→ns.length<is.length))∧(∀m∈ns,w.heap.size≤adr m)∧Kept [] w w'∧Fresh w v:=by
 have hrun:=runsN_any a n c is hn hr (Hid.mk fun g hg=>(hF.out g hg).2) hl (fun _=>10) (Hid.mk fun _ _=>by omega) (Hid.mk fun W kW i hi=>nodeSize_any W (adr i))
 go_enter Tryz.func79,Tryz.ntmps79
 go_wp2_with fail
 refine hrun.mono ?_
 rintro e w1 ⟨v1,R,vs,rfl,hok,ho1,hsl1,k1,hfr1⟩
 obtain ⟨a1,c1,rfl,-⟩:=ho1.form
 rw [List.length_map] at ho1 hfr1 ⊢
 have hRl:R.length=vs.length:=hsl1.1.symm
 have HOK:=Hid.mk hok
 have HRL:=Hid.mk hRl
 clear hok hRl hrun hr
 have hvl:vs.length≤100000:=by
  have h1:=HOK.out.len
  have h2:=hn.out
  rw [HRL.out] at h1
  omega
 generalize hm:vs.length=m at *
 have HM:=Hid.mk hm
 clear hm
 go_wp2_with fail
 go_loopw [5,11] (fun u i wr=>∃(j:Nat) (ns:List (Tr (d+1))),i=.int .i64 (j:Int)∧j≤m∧Hid (ns.map Prod.snd=R.take j)∧OwnsP 77 wr u (ns.map adr)∧IsNs wr (Fu F w u) ρ ns∧Hid (∀x∈ns,w.heap.size≤adr x)∧Kept [] w1 wr∧Fresh w1 u) (fun _ i _=>m-(intOf i).toNat)
 case atStart=>exact ⟨0,[],rfl,by omega,Hid.mk rfl,OwnsP.nil _ _,IsNs.nil _ _ _ _,Hid.mk (by simp),Kept.refl [] w1,fun g hg=>by simp [Value.ownBlock] at hg⟩
 case round =>
  obtain ⟨j,ns,rfl,hj,HN,ho,hns,hnew,k,hfr⟩:=hrel
  by_cases hlt:j<m
  ·obtain ⟨x,hx⟩:∃x,vs[j]?=some x:=⟨_,List.getElem?_eq_getElem (by have:=HM.out;omega)⟩
   obtain ⟨r,hrj⟩:∃r,R[j]?=some r:=⟨_,List.getElem?_eq_getElem (by have:=HM.out;have:=HRL.out;omega)⟩
   obtain ⟨hxr,hxo,hx1⟩:=hsl1.2 j r x hrj hx
   have hrow:=(ho1.reads (wide_one hsl1.all)).kept k (by simp)
   obtain ⟨b,o,rfl,hcell⟩:=ReadsR.one HM.out.symm hrow hx
   obtain ⟨ax,cx,rfl,-⟩:=hxr.form
   rw [List.length_map] at hxr hxo hcell
   have kn:=(Kept.refl [] wr).alloc (.cells #[.int .i64 0,.int .u64 0,.int .i64 ((d:Int)+1),.slice none 0 0,.slice ax r.length cx] 114)
   have hnl':ns.length=j:=by
    have:=congrArg List.length HN.out
    rw [List.length_map,List.length_take] at this
    have:=HM.out
    have:=HRL.out
    omega
   obtain ⟨a4,c4,w4,hrun,ho4,k4,hN4⟩:=append_ptr rt112 (ho.kept kn (by simp)) wr.heap.size (by rw [List.length_map];omega) 77 (0,0) 112
   have hsz1:(wr.alloc (.cells #[.int .i64 0,.int .u64 0,.int .i64 ((d:Int)+1),.slice none 0 0,.slice ax r.length cx] 114)).heap.size=wr.heap.size+1:=by simp
   rw [hsz1] at hrun
   have hul:∀g∈u5.ownBlock.toList,w1.heap.size≤g∧g<wr.heap.size:=fun g hg=>⟨hfr g (by simpa using hg),ho.lt (by simpa using hg)⟩
   have kr4:Kept u5.ownBlock.toList wr w4:=(kn.mono (by simp)).trans k4 (fun y hy=>.inl hy)
   have kk4:Kept [] w1 w4:=k.trans kr4 (fun y hy=>.inr (hul y hy).1)
   have hkw:=k1.size
   have hx4:ReadsP w4 (.slice ax r.length cx) (r.map adr):=(hxr.kept k (by simp)).kept kr4 (fun g hg hm=>by
    have h1:=(hF.out g (hxo g hg)).2
    have h2:=(hul g hm).1
    omega)
   have hu4:∀g,(Value.slice a4 ((ns.map adr).length+1) c4).ownBlock=some g→w1.heap.size≤g∧g≠wr.heap.size:=fun g hg=>by
    rcases hN4 g hg with h|h
    ·have:=hul g (by simpa using h);omega
    ·rw [hsz1] at h
     have:=k.size
     omega
   have hNw:New wr u5 (.slice a4 ((ns.map adr).length+1) c4):=fun g hg=>by
    rcases hN4 g hg with h|h
    ·exact .inl h
    ·rw [hsz1] at h
     exact .inr (by omega)
   have hns4:IsNs w4 (Fu F w (.slice a4 ((ns.map adr).length+1) c4)) ρ ns:=hns.grew kr4 hNw
   have hnew4:IsN w4 (Fu F w (.slice a4 ((ns.map adr).length+1) c4)) ρ (k:=d+1) (wr.heap.size,r):=by
    refine ⟨?_,fun i hi=>?_⟩
    ·have:=IsB.new (F:=Fu F w (.slice a4 ((ns.map adr).length+1) c4)) (hB wr.heap.size (Nat.le_trans hkw k.size)) (lv:=d+1) k4 (fun y hy=>(hul y hy).2) (ReadsP.nil w4) hx4 ⟨.inr (Nat.le_trans hkw k.size),fun e=>(hu4 _ e).2 rfl⟩ (fun h=>absurd rfl h) (fun _ g hg=>⟨.inl (hF.out g (hxo g hg)).1,fun e=>by have h1:=(hu4 g e).1;have h2:=(hF.out g (hxo g hg)).2;omega⟩)
     exact this
    ·have him:i∈is:=by
      rw [←HOK.out.flat]
      exact List.mem_flatten.2 ⟨r,List.mem_of_getElem? hrj,hi⟩
     have h1:IsN w (Fu F w (.slice a4 ((ns.map adr).length+1) c4)) ρ i:=(hI.out i him).monoS fun x hx hf=>⟨.inl hf,fun e=>by have:=(hu4 x e).1;omega⟩
     exact h1.kept (k1.trans kk4 (by simp)) (by simp)
   have HN4:Hid ((ns++[(wr.heap.size,r)]).map Prod.snd=R.take (j+1)):=Hid.mk (by rw [List.map_append,HN.out,List.take_add_one,hrj];rfl)
   have hfr4:Fresh w1 (.slice a4 ((ns.map adr).length+1) c4):=fun g hg=>by
    rcases hN4 g hg with h|h
    ·exact hfr g h
    ·rw [hsz1] at h
     have:=k.size
     omega
   rw [List.length_map] at hrun ho4 hfr4 hns4 hnew4
   have ho5:OwnsP 77 w4 (.slice a4 (ns.length+1) c4) ((ns++[((wr.heap.size,r):Tr (d+1))]).map adr):=by rw [List.map_append];exact ho4
   have Hall:=Hid.mk (And.intro ho5 (And.intro (hns4.snoc hnew4) (And.intro (Hid.mk (fun x hx=>by
    rcases List.mem_append.1 hx with h|h
    ·exact hnew.out x h
    ·simp at h
     subst h
     exact Nat.le_trans hkw k.size):Hid (∀x∈ns++[((wr.heap.size,r):Tr (d+1))],w.heap.size≤adr x)) (And.intro kk4 hfr4))))
   clear hnl'
   clear ho4 ho5 hns4 hnew4 kk4 hfr4 hN4 k4 kr4 hx4 hul hns hnew ho kn hrow hxr hxo hx1 hu4 hNw
   generalize r.length=rl at *
   go_wp2_with (at_builtin;refine wpList_append_run 112 _ _ rfl rfl _ _ rfl rfl _ _ hrun ?_)
   go_roundw
   case rel=>exact ⟨j+1,_,by go_num,by omega,HN4,Hall.out⟩
   case measure=>simp [intOf];omega
  ·obtain rfl:j=m:=by omega
   have hRt:R.take j=R:=List.take_of_length_le (by have:=HM.out;have:=HRL.out;omega)
   have HE:=HN.out
   rw [hRt] at HE
   have hfl2:(ns.flatMap fun m=>m.2)=is:=by
    rw [←HOK.out.flat,←HE]
    rw [List.flatMap_def]
   have hfl:ns.flatMap its=is.flatMap its∧(ns.flatMap fun m=>m.2)=is∧(2≤is.length→ns.length<is.length):=by
    refine ⟨?_,hfl2,fun h2=>?_⟩
    ·rw [←hfl2,List.flatMap_assoc]
     rfl
    ·have h3:=HOK.out.cnt (fun _ _=>rfl) h2
     have h4:=congrArg List.length HE
     rw [List.length_map] at h4
     omega
   have hwf:∀x∈ns,Wf x:=fun x hx=>by
    have h1:=HOK.out.runs x.2 (by rw [←HE];exact List.mem_map.2 ⟨x,hx,rfl⟩)
    obtain ⟨A,B,e⟩:=List.append_of_mem hx
    have e2:is=(A.flatMap fun m=>m.2)++x.2++(B.flatMap fun m=>m.2):=by rw [←hfl2,e];simp
    have h3:=h1.2
    rw [sum_const (sz:=fun _=>10) (fun _ _=>rfl)] at h3
    refine ⟨h1.1,by omega,fun u hu=>hW.out u (by rw [e2];simp [hu]),?_⟩
    have h4:=hA.out
    rw [e2] at h4
    exact h4.inner
   have Hall:=Hid.mk (And.intro ho (And.intro (hns.mono fun x hx=>hx.1:IsNs wr (Fx F w) ρ ns) (And.intro hwf (And.intro hfl (And.intro hnew.out (And.intro (k1.trans k (by simp)) (fun g hg=>Nat.le_trans k1.size (hfr g hg):Fresh w u5)))))))
   clear ho hns hwf hfl hfl2 hnew k hfr HE hRt
   go_wp2
   go_ret
   exact ⟨_,ns,rfl,Hall.out⟩
end
def Fw (F:Nat→Prop) (w:World) (vs:List Value):Nat→Prop:=fun b=>(F b∨w.heap.size≤b)∧∀v∈vs,v.ownBlock≠some b
theorem rows_apart {w:World}{e e':TypeId}{k k' n n':Nat}{v u:Value}{xs ys:List Value} (h:w.ownsRow 0 e k v n xs) (h2:w.ownsRow 0 e' k' u n' ys) (he:e≠e') {g:Nat} (hg:u.ownBlock=some g):v.ownBlock≠some g:=fun e1=>by
 rcases h.2 with ⟨rfl,_⟩|⟨g1,cap,cur,rfl,_,hb,_⟩
 ·simp [Value.ownBlock] at e1
 ·rcases h2.2 with ⟨rfl,_⟩|⟨g2,cap2,cur2,rfl,_,hb2,_⟩
  ·simp [Value.ownBlock] at hg
  ·simp [Value.ownBlock] at e1 hg
   subst e1 hg
   rw [hb] at hb2
   simp at hb2
   exact he hb2.2
structure IsU (w:World) (ub:Nat) (vl:Value) (left:List Nat):Prop where
 box:w.heap[ub]?=some (.cells #[vl] 89 (0,0))
 own:OwnsI w vl left
 apart:vl.ownBlock≠some ub
theorem IsU.kept {w w':World}{ub:Nat}{vl:Value}{left:List Nat}{S:List Nat} (h:IsU w ub vl left) (k:Kept S w w') (hu:ub∉S) (hv:∀g,vl.ownBlock=some g→g∉S):IsU w' ub vl left:=⟨k.keeps h.box hu,h.own.kept k hv,h.apart⟩
theorem IsU.lt {w:World}{ub:Nat}{vl:Value}{left:List Nat} (h:IsU w ub vl left):ub<w.heap.size:=lt_of_block h.box
def uf (ub:Nat) (vl:Value):List Nat:=ub::vl.ownBlock.toList
theorem mem_uf {ub x:Nat}{vl:Value}:x∈uf ub vl↔x=ub∨vl.ownBlock=some x:=by simp [uf,Option.mem_toList]
def pn (ρ:Rho) (a:Nat):List Nat:=if (ρ a).1=0 then [] else [(ρ a).1]
def nms (ρ:Rho):{k:Nat}→Tr k→List Nat
 | 0,n=>(n.2.flatMap fun i=>pn ρ i.ad)++pn ρ n.1
 | k+1,n=>n.2.flatMap (nms ρ (k:=k))++pn ρ n.1
theorem pn_blank {ρ:Rho}{a:Nat} (h:ρ a=(0,0)):pn ρ a=[]:=by simp [pn,h]
section
variable {w:World}{F:Nat→Prop}{ρ:Rho}
set_option maxRecDepth 100000 in
theorem isPut_any (nm sm:Nat) (w:World):Calls Tryz.prog 82 #[.agg #[.int .i64 (nm:Int),.int .u64 (sm:Int)]] w fun e w'=>e=.returned (.bool (decide (nm≠0)))∧Kept [] w w':=by
 go_enter Tryz.func82,Tryz.ntmps82
 go_wp2
 go_ret
 refine ⟨congrArg (fun b=>Ending.returned (.bool b)) ?_,(Kept.refl [] w).alloc _⟩
 rw [Bool.eq_iff_iff]
 simp
set_option maxRecDepth 100000 in
set_option maxHeartbeats 1000000 in
theorem leave_any {ub:Nat}{vl:Value}{left:List Nat} (h:IsU w ub vl left) (hl:left.length≤900000) (nm sm:Nat):Calls Tryz.prog 118 #[Pp ub,.agg #[.int .i64 (nm:Int),.int .u64 (sm:Int)]] w fun e w'=>e=.returned (.tuple #[])∧∃vl',IsU w' ub vl' (left++(if nm=0 then [] else [nm]))∧Kept (uf ub vl) w w'∧New w vl vl':=by
 have hput:=fun W=>isPut_any nm sm W
 by_cases h0:nm=0
 ·rw [if_pos h0]
  have hd:decide (nm≠0)=false:=by simpa using h0
  rw [hd] at hput
  rw [List.append_nil]
  clear h0 hd
  go_enter Tryz.func118,Tryz.ntmps118
  go_wp2_with fail
  refine (hput _).mono ?_
  rintro e w' ⟨rfl,k⟩
  have kk:=(kept_alloc w (.cells #[.int .i64 (nm:Int),.int .u64 (sm:Int)] 102)).trans k (by simp)
  have Hf:=Hid.mk (And.intro (h.kept kk (by simp) (by simp)) (And.intro (kk.mono (by simp):Kept (uf ub vl) w w') (New.refl w vl)))
  clear k kk
  go_wp2
  go_end0
  exact ⟨rfl,vl,Hf.out⟩
 ·rw [if_neg h0]
  have hd:decide (nm≠0)=true:=by simpa using h0
  rw [hd] at hput
  clear h0 hd
  go_enter Tryz.func118,Tryz.ntmps118
  go_wp2_with fail
  refine (hput _).mono ?_
  rintro e w' ⟨rfl,k⟩
  have kk:=(kept_alloc w (.cells #[.int .i64 (nm:Int),.int .u64 (sm:Int)] 102)).trans k (by simp)
  have hc0:w'.cell? ⟨w.heap.size,0,none⟩=some (.int .i64 (nm:Int)):=by
   have h1:(w.alloc (.cells #[.int .i64 (nm:Int),.int .u64 (sm:Int)] 102)).heap[w.heap.size]?=some (.cells #[.int .i64 (nm:Int),.int .u64 (sm:Int)] 102 (0,0)):=heap_alloc_new w _
   have h2:=k.keeps h1 (by simp)
   simp [World.cell?,h2]
  have hU:=h.kept kk (by simp) (by simp)
  have hcu:=cell_of_one hU.box
  obtain ⟨ad,c,w3,hrun,ho3,k3,hN3⟩:=append_int (w:=w'.drew) (hU.own.kept ((Kept.refl [] w').drew) (by simp)) nm (by omega)
  have hb3:w3.heap[ub]?=some (.cells #[vl] 89 (0,0)):=k3.keeps (((Kept.refl [] w').drew).keeps hU.box (by simp)) (fun hm=>hU.apart (by simpa using hm))
  have hc3:=cell_of_one hb3
  have hf3:=free_of_one hb3
  have hul:=hU.lt
  have hne:(Value.slice ad (left.length+1) c).ownBlock≠some ub:=fun e=>by
   rcases hN3 ub e with h1|h1
   ·exact hU.apart h1
   ·exact absurd hul (Nat.not_lt.2 h1)
  have hfin:Hid (∃vl',IsU (w3.setCell ⟨ub,0,none⟩ (.slice ad (left.length+1) c)) ub vl' (left++[nm])∧Kept (uf ub vl) w (w3.setCell ⟨ub,0,none⟩ (.slice ad (left.length+1) c))∧New w vl vl'):=Hid.mk (by
   have k4:Kept [ub] w3 (w3.setCell ⟨ub,0,none⟩ (.slice ad (left.length+1) c)):=(Kept.refl [ub] w3).setCell (.inl (by simp)) _
   refine ⟨_,⟨one_setCell hb3,ho3.kept k4 (fun g hg hm=>?_),hne⟩,?_,fun g hg=>?_⟩
   ·simp at hm
    subst hm
    exact hne hg
   ·have k5:Kept (uf ub vl) w w3:=(kk.mono (by simp):Kept (uf ub vl) w w').trans (((Kept.refl [] w').drew.mono (T:=vl.ownBlock.toList) (by simp)).trans k3 (fun x hx=>.inl hx)) (fun x hx=>.inl (mem_uf.2 (.inr (by simpa using hx))))
    exact k5.trans k4 (fun x hx=>.inl (mem_uf.2 (.inl (by simpa using hx))))
   ·rcases hN3 g hg with h1|h1
    ·exact .inl h1
    ·exact .inr (Nat.le_trans kk.size h1))
  clear hU hN3 k3 ho3 hb3 h k kk hne
  go_wp2_with fail
  go_region_law ((refine step_append_run 41 (.tmp 10) (.tmp 13) (by rfl) (by rfl) _ _ (by rfl) (by rfl) hrun ?_))
  all_goals
   go_wp2
   go_end0
   exact ⟨rfl,hfin.out⟩
end
end Go.Proofs.YtgpbhlfdlkemjaaGreat
