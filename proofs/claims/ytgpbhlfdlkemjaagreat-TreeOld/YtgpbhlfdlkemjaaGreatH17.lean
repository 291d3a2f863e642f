import Derived.Test.YtgpbhlfdlkemjaaGreatH16
/-
 runs, in memory.
-/
namespace Go.Proofs.YtgpbhlfdlkemjaaGreat
open Go.RowKit
set_option linter.unusedVariables false
theorem rt215:RowT 215 111 1 24 (.slice none 0 0):=⟨Tryz.underlying215,by kernel_rfl,rfl,by omega,by omega⟩
theorem rt185:RowT 185 112 1 24 (.slice none 0 0):=⟨Tryz.underlying185,by kernel_rfl,rfl,by omega,by omega⟩
section
variable {T e:TypeId}{k b:Nat}{z:Value}
theorem run_cut3 (R:RowT T e k b z) (W:World) (a:Option Addr) (n c i j:Nat) (hij:i≤j) (hj:j≤c):(Instr.slice T (.slice a n c) (some (.int .i64 (i:Int))) (some (.int .i64 (j:Int))) (some (.int .i64 (j:Int)))).run Tryz.prog W=.ok (.slice (cutA a j i k) (j-i) (j-i)) W:=by
 rw [run_slice_lhm W T a n c (by rw [R.elem];exact R.under) .i64 .i64 .i64 i j j (by omega) (by omega) (by omega) (by omega),R.elem,R.size]
 simp [Result.andThen,sliced,cutA]
theorem run_cutL (R:RowT T e k b z) (W:World) (a:Option Addr) (n c i:Nat) (hi:i≤n):(Instr.slice T (.slice a n c) (some (.int .i64 (i:Int))) none none).run Tryz.prog W=.ok (.slice (cutA a c i k) (n-i) (c-i)) W:=by
 rw [run_slice_l W T a n c (by rw [R.elem];exact R.under) .i64 i (by omega) (by omega),R.elem,R.size]
 simp [Result.andThen,sliced,cutA]
theorem run_cutH (R:RowT T e k b z) (W:World) (a:Option Addr) (n c j:Nat) (hj:j≤c):(Instr.slice T (.slice a n c) none (some (.int .i64 (j:Int))) none).run Tryz.prog W=.ok (.slice (cutA a c 0 k) j c) W:=by
 rw [run_slice_h W T a n c (by rw [R.elem];exact R.under) .i64 j (by omega) (by omega),R.elem,R.size]
 simp [Result.andThen,sliced,cutA]
theorem run_cutM (R:RowT T e k b z) (W:World) (a:Option Addr) (n c i j:Nat) (hij:i≤j) (hj:j≤c):(Instr.slice T (.slice a n c) (some (.int .i64 (i:Int))) (some (.int .i64 (j:Int))) none).run Tryz.prog W=.ok (.slice (cutA a c i k) (j-i) (c-i)) W:=by
 rw [run_slice_lh W T a n c (by rw [R.elem];exact R.under) .i64 .i64 i j (by omega) (by omega) (by omega),R.elem,R.size]
 simp [Result.andThen,sliced,cutA]
end
def Slcs {α:Type} (w:World) (v0:Value) (ad:α→Nat) (R:List (List α)) (vs:List Value):Prop :=
 vs.length=R.length∧∀(j:Nat) (r:List α) (x:Value),R[j]?=some r→vs[j]?=some x→ReadsP w x (r.map ad)∧(∀g,x.ownBlock=some g→v0.ownBlock=some g)∧x.oneCell'=true
theorem Slcs.kept {α:Type}{w w':World}{v0:Value}{ad:α→Nat}{R:List (List α)}{vs:List Value}{S:List Nat} (h:Slcs w v0 ad R vs) (k:Kept S w w') (hS:∀g,v0.ownBlock=some g→g∉S):Slcs w' v0 ad R vs :=
 ⟨h.1,fun j r x hr hx=>by obtain ⟨h1,h2,h3⟩:=h.2 j r x hr hx;exact ⟨h1.kept k (fun g hg=>hS g (h2 g hg)),h2,h3⟩⟩
theorem Slcs.nil {α:Type} (w:World) (v0:Value) (ad:α→Nat):Slcs w v0 ad [] []:=⟨rfl,fun j r x hr=>by simp at hr⟩
theorem Slcs.snoc {α:Type}{w:World}{v0:Value}{ad:α→Nat}{R:List (List α)}{vs:List Value} (h:Slcs w v0 ad R vs) {r:List α}{x:Value} (hx:ReadsP w x (r.map ad)) (hg:∀g,x.ownBlock=some g→v0.ownBlock=some g) (h1:x.oneCell'=true):Slcs w v0 ad (R++[r]) (vs++[x]):=by
 refine ⟨by simp [h.1],fun j r' x' hr hx'=>?_⟩
 by_cases hj:j<R.length
 ·rw [List.getElem?_append_left hj] at hr
  rw [List.getElem?_append_left (by rw [h.1];exact hj)] at hx'
  exact h.2 j r' x' hr hx'
 ·rw [List.getElem?_append_right (by omega)] at hr
  rw [List.getElem?_append_right (by rw [h.1];omega),h.1] at hx'
  cases hd:j-R.length with
  | zero =>
   rw [hd] at hr hx'
   simp at hr hx'
   subst hr hx'
   exact ⟨hx,hg,h1⟩
  | succ p=>rw [hd] at hr;simp at hr
def Ran {α:Type} (L:TypeId) (w:World) (v0:Value) (ad:α→Nat) (sz:α→Nat) (l:List α) (e:Ending) (w':World):Prop :=
 ∃v R vs,e=.returned v∧RunsOk sz l R∧OwnsR L 1 w' v (vs.map fun x=>[x])∧Slcs w' v0 ad R vs∧Kept [] w w'∧Fresh w v
theorem sum_take_succ {α:Type}{sz:α→Nat}{l:List α}{j:Nat}{x:α} (hx:l[j]?=some x):((l.take (j+1)).map sz).sum=((l.take j).map sz).sum+sz x:=by
 rw [List.take_add_one,hx]
 simp
theorem sum_le_mul {α:Type}{sz:α→Nat}{b:Nat}:∀{l:List α},(∀x∈l,sz x≤b)→(l.map sz).sum≤b*l.length
 | [],_=>by simp
 | a::r,h=>by
  have h1:=sum_le_mul (l:=r) (sz:=sz) (b:=b) fun x hx=>h x (by simp [hx])
  have h2:=h a (by simp)
  simp only [List.map_cons,List.sum_cons,List.length_cons,Nat.mul_add]
  omega
theorem sum_take_le {α:Type}{sz:α→Nat}{b n j:Nat}{l:List α} (h:∀x∈l,sz x≤b) (hj:j≤n) (hn:n≤100000) (hb:b≤236):((l.take j).map sz).sum≤23600000:=by
 have h1:=sum_le_mul (l:=l.take j) (sz:=sz) (b:=b) fun x hx=>h x (List.mem_of_mem_take hx)
 have h2:(l.take j).length≤j:=by rw [List.length_take];omega
 have h3:b*(l.take j).length≤236*100000:=Nat.mul_le_mul hb (by omega)
 omega
theorem append_slice {L T:TypeId}{b:Nat}{z:Value} (R:RowT T L 1 b z) {w:World}{v:Value}{vs:List Value} (ho:OwnsR L 1 w v (vs.map fun x=>[x])) (x:Value) (h1:x.oneCell'=true) (hn:vs.length≤900000) (t:TypeId) (fr:Nat × Nat) (ty:TypeId) :
  ∃ad c w',(Builtin.append_ #[T,T] ty #[v,.slice (some ⟨w.heap.size,0,none⟩) 1 1]).run Tryz.prog (w.alloc (.cells #[x] t fr))=.ok (.slice ad (vs.length+1) c) w'∧OwnsR L 1 w' (.slice ad (vs.length+1) c) ((vs++[x]).map fun x=>[x])∧Kept v.ownBlock.toList w w'∧New w v (.slice ad (vs.length+1) c):=by
 have h:=append_rowR R ho [x] rfl (fun u hu=>by simp at hu;subst hu;exact h1) (by simpa using hn) t fr ty
 rw [List.length_map] at h
 obtain ⟨ad,c,w',e1,e2,e3,e4⟩:=h
 exact ⟨ad,c,w',e1,by rw [List.map_append];exact e2,e3,e4⟩
section
variable {w:World}
set_option maxRecDepth 100000 in
set_option maxHeartbeats 4000000 in
theorem runsI_any (a:Option Addr) (n c:Nat) (l:List Itm) (hn:Hid (n=l.length)) (hr:ReadsP w (.slice a n c) (l.map Itm.ad)) (hlt0:Hid (∀g,(Value.slice a n c).ownBlock=some g→g<w.heap.size)) (hl:n≤100000) (sz:Itm→Nat) (hsz:Hid (∀i∈l,sz i≤236))
  (hs:Hid (∀W,Kept [] w W→∀i∈l,Calls Tryz.prog 142 #[Pp (Itm.ad i)] W fun e w'=>e=.returned (.int .i64 (sz i:Int))∧∃q,w'=W.drewN q)) :
  Calls Tryz.prog 149 #[.slice a n c] w fun e w'=>Ran 111 w (.slice a n c) Itm.ad sz l e w':=by
 have hme : ∀ (p : Nat) (W : World), Sem.run Tryz.prog (method 361 100 (Value.pointer (some ⟨p, 0, none⟩)) "reeve/tree.size") W = .ok (142, Value.pointer (some ⟨p, 0, none⟩)) W := by intro p W; kernel_rfl
 have eg:∀args w,(callFunc 142 args).run Tryz.prog w=.ok (.enter 142 args) w:=enters_of Tryz.func142 (by kernel_rfl) rfl
 have hcap:n≤c:=by
  obtain ⟨a',c',h1,h2,_⟩:=hr.form
  rw [List.length_map] at h1 h2
  injection h1 with _ _ h3
  have:=hn.out
  omega
 have hcl:c≤9223372036854775807:=by
  obtain ⟨a',c',h1,_,h3⟩:=hr.form
  injection h1 with _ _ h4
  omega
 obtain ⟨S,hS⟩:∃S:Nat→Nat,Hid (∀j,S j=((l.take j).map sz).sum):=⟨fun j=>((l.take j).map sz).sum,Hid.mk fun _=>rfl⟩
 have hS0:S 0=0:=by rw [hS.out];rfl
 have hSb:∀j,j≤n→S j≤23600000:=fun j hj=>by rw [hS.out];exact sum_take_le hsz.out hj hl (by omega)
 have hSs:∀j x,l[j]?=some x→S (j+1)=S j+sz x:=fun j x hx=>by rw [hS.out,hS.out];exact sum_take_succ hx
 have HS0:=Hid.mk hS0
 have HSb:=Hid.mk hSb
 have HSs:=Hid.mk hSs
 clear hS0 hSb hSs
 go_enter Tryz.func149,Tryz.ntmps149
 go_wp2_with fail
 go_loopw [3,15] (fun v i wr=>∃j:Nat,i=.int .i64 (j:Int)∧j≤n∧v=.int .i64 (S j:Int)∧Kept [] w wr) (fun _ i _=>n-(intOf i).toNat)
 case atStart=>exact ⟨0,rfl,by omega,by rw [HS0.out];rfl,Kept.refl [] w⟩
 case round =>
  obtain ⟨j,rfl,hj,rfl,k⟩:=hrel
  have hrr:=hr.kept k (by simp)
  have hb:=HSb.out j hj
  by_cases hlt:j<n
  ·obtain ⟨x,hx⟩:∃x,l[j]?=some x:=⟨_,List.getElem?_eq_getElem (by have:=hn.out;omega)⟩
   obtain ⟨b,o,c',e,hcell⟩:=hrr.at j (Itm.ad x) (by rw [List.getElem?_map,hx];rfl)
   rw [List.length_map,←hn.out] at e
   injection e with e _ e2
   subst e e2
   have hss:=hs.out wr k x (List.mem_of_getElem? hx)
   have hsx:=hsz.out x (List.mem_of_getElem? hx)
   have HN:=Hid.mk (HSs.out j x hx)
   generalize sz x=sx at hss hsx HN
   generalize Itm.ad x=xa at hss hcell
   clear hx hr hrr
   go_wp2_with (go_at_fn 142;refine hss.mono ?_;rintro e w' ⟨rfl,q,rfl⟩)
   go_roundw
   case rel=>exact ⟨j+1,by go_num,by omega,by rw [HN.out];go_num,k.drewN q⟩
   case measure=>simp [intOf];omega
  ·obtain rfl:j=n:=by omega
   obtain ⟨tot,htot⟩:∃tot,Hid (S j=tot):=⟨_,rfl⟩
   rw [htot.out] at hb ⊢
   have hSn:Hid (tot=(l.map sz).sum):=Hid.mk (by rw [←htot.out,hS.out,List.take_of_length_le (by have:=hn.out;omega)])
   clear HS0 HSb HSs hlt
   have hdv:(((tot:Int)+236-1) / 236)=(((tot+235) / 236:Nat):Int):=by omega
   obtain ⟨mn,hmn⟩:∃mn,Hid ((tot+235) / 236=mn):=⟨_,rfl⟩
   have hmb:mn≤100001:=by have:=hmn.out;omega
   rw [hmn.out] at hdv
   have HD:=Hid.mk hdv
   clear hdv
   have kw:=k
   go_wp2_with fail
   rw [HD.out]
   clear HD k
   go_loopw [7,8,9,31] (fun v s f i wr2=>∃(st fl j2:Nat) (C:List (List Itm)) (vs:List Value),s=.int .i64 (st:Int)∧f=.int .i64 (fl:Int)∧i=.int .i64 (j2:Int)∧j2≤j∧Hid (RunInv sz l C st fl j2)∧OwnsR 111 1 wr2 v (vs.map fun x=>[x])∧Slcs wr2 (.slice a j c) Itm.ad C vs∧Kept [] w wr2∧Fresh w v) (fun _ _ _ i _=>j-(intOf i).toNat)
   case atStart=>exact ⟨0,0,0,[],[],rfl,rfl,rfl,by omega,Hid.mk RunInv.start,OwnsR.nil _ _ _,Slcs.nil _ _ _,kw,fun g hg=>by simp [Value.ownBlock] at hg⟩
   case round =>
    clear kw hrr
    obtain ⟨st,fl,j2,C,vs,rfl,rfl,rfl,hj2,HI,ho,hsl,k2,hfr⟩:=hrel
    have hst:=HI.out.le
    have hfl:=HI.out.room
    have hvl:Hid (vs.length≤100000):=Hid.mk (by
     rw [hsl.1]
     have h1:=HI.out.flat
     have h2:C.length≤C.flatten.length:=by
      have:∀(D:List (List Itm)),(∀r∈D,r≠[])→D.length≤D.flatten.length:=fun D hD=>by
       induction D with
       | nil=>simp
       | cons r D ih =>
        have:=ih fun x hx=>hD x (by simp [hx])
        have:=List.length_pos_iff.2 (hD r (by simp))
        rw [List.flatten_cons,List.length_append,List.length_cons]
        omega
      exact this C fun r hr=>(HI.out.runs r hr).1
     rw [h1,List.length_take] at h2
     omega)
    by_cases hlt2:j2<j
    ·obtain ⟨x,hx⟩:∃x,l[j2]?=some x:=⟨_,List.getElem?_eq_getElem (by have:=hn.out;omega)⟩
     have hrr:=hr.kept k2 (by simp)
     obtain ⟨b,o,c',e,hcell⟩:=hrr.at j2 (Itm.ad x) (by rw [List.getElem?_map,hx];rfl)
     rw [List.length_map,←hn.out] at e
     injection e with e _ e2
     subst e e2
     have HSS:Hid (∀W,Kept [] w W→Calls Tryz.prog 142 #[Pp (Itm.ad x)] W fun e w'=>e=.returned (.int .i64 (sz x:Int))∧∃q,w'=W.drewN q):=Hid.mk fun W kW=>hs.out W kW x (List.mem_of_getElem? hx)
     have hsx:=hsz.out x (List.mem_of_getElem? hx)
     obtain ⟨P,hP⟩:∃P:Nat,Hid (fl*mn=P):=⟨_,rfl⟩
     have hPb:P≤23600236:=by
      rw [←hP.out]
      have:=Nat.mul_le_mul hfl hmb
      omega
     have hPe:(fl:Int)*(mn:Int)=(P:Int):=by rw [←hP.out];simp
     have hstay:=fun h=>HI.out.stay hx h hsx
     have hcut:=fun h1 h2=>HI.out.cut h1 hx h2 hsx
     rw [←hSn.out,hmn.out,hP.out] at hcut
     have HST:=Hid.mk hstay
     have HCU:=Hid.mk hcut
     clear hstay hcut
     have hsl3:∀W,st≤j2→(Instr.slice 111 (.slice (some ⟨b,o,none⟩) j c) (some (.int .i64 (st:Int))) (some (.int .i64 (j2:Int))) (some (.int .i64 (j2:Int)))).run Tryz.prog W=.ok (.slice (cutA (some ⟨b,o,none⟩) j2 st 1) (j2-st) (j2-st)) W:=fun W h=>run_cut3 rt111 W _ j c st j2 h (by omega)
     have hnew:=fun (h:st≤j2)=>ReadsP.cut (by rw [List.length_map];exact hn.out) hrr h hj2 (Nat.le_refl _) (by omega)
     have hmp:((l.map Itm.ad).take j2).drop st=((l.take j2).drop st).map Itm.ad:=by rw [List.map_drop,List.map_take]
     rw [hmp] at hnew
     have hown3:Hid (∀g,(Value.slice (cutA (some ⟨b,o,none⟩) j2 st 1) (j2-st) (j2-st)).ownBlock=some g→(Value.slice (some ⟨b,o,none⟩) j c).ownBlock=some g):=Hid.mk fun g hg=>cutA_own _ _ _ _ _ _ hg _ _
     generalize cutA (some ⟨b,o,none⟩) j2 st 1=a3 at hsl3 hnew hown3
     have hnw:=hnew hst
     have hs3:=fun W=>hsl3 W hst
     clear hsl3 hnew hmp
     generalize j2-st=m3 at hs3 hnw hown3
     generalize sz x=sx at HSS hsx HST HCU
     generalize Itm.ad x=xa at HSS hcell
     clear hx hr hrr
     by_cases hA:st<j2
     ·by_cases hsh:tot≤P
      ·have HC:=Hid.mk (HCU.out hA (.inl hsh))
       have hoW:=ho
       have hslW:=hsl
       have hnewW:=hnw
       have kW:=k2
       clear ho hsl hnw k2 HST HCU HI
       obtain ⟨a4,c4,w4,hrun,ho4,k4,hN4⟩:=append_slice rt215 hoW (.slice a3 m3 m3) rfl (by have:=hvl.out;omega) 111 (0,0) 215
       have hg4:∀y∈u7.ownBlock.toList,y∈([]:List Nat)∨w.heap.size≤y:=fun y hy=>.inr (hfr y (by simpa using hy))
       have kw4:Kept [] w w4:=kW.trans k4 hg4
       have hsl4:Slcs w4 (.slice (some ⟨b,o,none⟩) j c) Itm.ad (C++[(l.take j2).drop st]) (vs++[.slice a3 m3 m3]):=(hslW.kept k4 (fun g hg hm=>by have h1:=hfr g (by simpa using hm);have h2:=hlt0.out g hg;omega)).snoc (hnewW.kept k4 (fun g hg hm=>by have h1:=hfr g (by simpa using hm);have h2:=hlt0.out g (hown3.out g hg);omega)) hown3.out rfl
       have hfr4:Fresh w (.slice a4 (vs.length+1) c4):=fun g hg=>by
        rcases hN4 g hg with h|h
        ·exact hfr g h
        ·exact Nat.le_trans kW.size h
       have hs4:=HSS.out w4 kw4
       have Hall:=Hid.mk (And.intro ho4 (And.intro hsl4 (And.intro kw4 hfr4)))
       clear ho4 hsl4 hfr4 k4 hN4 hoW hslW hnewW kW hg4
       go_wp2_with (at_builtin;refine wpList_append_run 215 _ _ rfl rfl _ _ rfl rfl _ _ hrun ?_)
       refine hs4.mono ?_
       rintro e w' ⟨rfl,q4,rfl⟩
       go_wp2
       go_roundw
       case rel=>exact ⟨j2,sx,j2+1,_,_,rfl,by go_num,by go_num,by omega,HC,Hall.out.1.kept ((Kept.refl [] w4).drewN q4) (by simp),Hall.out.2.1.kept ((Kept.refl [] w4).drewN q4) (by simp),Hall.out.2.2.1.drewN q4,Hall.out.2.2.2⟩
       case measure=>simp [intOf];omega
      ·have hss:=HSS.out wr k2
       by_cases hfit:236<fl+sx
       ·have HC:=Hid.mk (HCU.out hA (.inr hfit))
        clear HST HCU HI
        go_wp2_with fail
        refine hss.mono ?_
        rintro e w' ⟨rfl,q,rfl⟩
        have kd:=(Kept.refl [] wr).drewN q
        have hoW:=ho.kept kd (by simp)
        have hslW:=hsl.kept kd (by simp)
        have hnewW:=hnw.kept kd (by simp)
        have kW:=k2.drewN q
        clear ho hsl hnw k2 hss
        generalize wr.drewN q=W1 at *
        clear kd
        obtain ⟨a4,c4,w4,hrun,ho4,k4,hN4⟩:=append_slice rt215 hoW (.slice a3 m3 m3) rfl (by have:=hvl.out;omega) 111 (0,0) 215
        have hg4:∀y∈u7.ownBlock.toList,y∈([]:List Nat)∨w.heap.size≤y:=fun y hy=>.inr (hfr y (by simpa using hy))
        have kw4:Kept [] w w4:=kW.trans k4 hg4
        have hsl4:Slcs w4 (.slice (some ⟨b,o,none⟩) j c) Itm.ad (C++[(l.take j2).drop st]) (vs++[.slice a3 m3 m3]):=(hslW.kept k4 (fun g hg hm=>by have h1:=hfr g (by simpa using hm);have h2:=hlt0.out g hg;omega)).snoc (hnewW.kept k4 (fun g hg hm=>by have h1:=hfr g (by simpa using hm);have h2:=hlt0.out g (hown3.out g hg);omega)) hown3.out rfl
        have hfr4:Fresh w (.slice a4 (vs.length+1) c4):=fun g hg=>by
         rcases hN4 g hg with h|h
         ·exact hfr g h
         ·exact Nat.le_trans kW.size h
        have hs4:=HSS.out w4 kw4
        have Hall:=Hid.mk (And.intro ho4 (And.intro hsl4 (And.intro kw4 hfr4)))
        clear ho4 hsl4 hfr4 k4 hN4 hoW hslW hnewW kW hg4
        go_wp2_with (at_builtin;refine wpList_append_run 215 _ _ rfl rfl _ _ rfl rfl _ _ hrun ?_)
        refine hs4.mono ?_
        rintro e w' ⟨rfl,q4,rfl⟩
        go_wp2
        go_roundw
        case rel=>exact ⟨j2,sx,j2+1,_,_,rfl,by go_num,by go_num,by omega,HC,Hall.out.1.kept ((Kept.refl [] w4).drewN q4) (by simp),Hall.out.2.1.kept ((Kept.refl [] w4).drewN q4) (by simp),Hall.out.2.2.1.drewN q4,Hall.out.2.2.2⟩
        case measure=>simp [intOf];omega
       ·have HC:=Hid.mk (HST.out (.inr (by omega)))
        clear HST HCU HI
        go_wp2_with fail
        refine hss.mono ?_
        rintro e w' ⟨rfl,q,rfl⟩
        have hs4:=HSS.out (wr.drewN q) (k2.drewN q)
        go_wp2_with fail
        refine hs4.mono ?_
        rintro e w' ⟨rfl,q4,rfl⟩
        go_wp2
        go_roundw
        case rel=>exact ⟨st,fl+sx,j2+1,C,vs,rfl,by go_num,by go_num,by omega,HC,ho.kept ((Kept.refl [] wr).drewN (q+q4)) (by simp),hsl.kept ((Kept.refl [] wr).drewN (q+q4)) (by simp),k2.drewN (q+q4),hfr⟩
        case measure=>simp [intOf];omega
     ·have HC:=Hid.mk (HST.out (.inl (by omega)))
      have hs4:=HSS.out wr k2
      clear HST HCU HI
      go_wp2_with fail
      refine hs4.mono ?_
      rintro e w' ⟨rfl,q4,rfl⟩
      go_wp2
      go_roundw
      case rel=>exact ⟨st,fl+sx,j2+1,C,vs,rfl,by go_num,by go_num,by omega,HC,ho.kept ((Kept.refl [] wr).drewN q4) (by simp),hsl.kept ((Kept.refl [] wr).drewN q4) (by simp),k2.drewN q4,hfr⟩
      case measure=>simp [intOf];omega
    ·obtain rfl:j2=j:=by omega
     have HI2:Hid (RunInv sz l C st fl l.length):=Hid.mk (by rw [←hn.out];exact HI.out)
     by_cases hA:st<j2
     ·have HC:=Hid.mk (HI2.out.last (by rw [←hn.out];exact hA))
      have hrr:=hr.kept k2 (by simp)
      have hs3:∀W,(Instr.slice 111 (.slice a j2 c) (some (.int .i64 (st:Int))) none none).run Tryz.prog W=.ok (.slice (cutA a c st 1) (j2-st) (c-st)) W:=fun W=>run_cutL rt111 W _ j2 c st (by omega)
      have hnw:=ReadsP.cut (by rw [List.length_map];exact hn.out) hrr hst (Nat.le_refl j2) hcap (Nat.le_refl c)
      have hmp:((l.map Itm.ad).take j2).drop st=(l.drop st).map Itm.ad:=by rw [List.take_of_length_le (by rw [List.length_map];have:=hn.out;omega),List.map_drop]
      rw [hmp] at hnw
      have hown3:Hid (∀g,(Value.slice (cutA a c st 1) (j2-st) (c-st)).ownBlock=some g→(Value.slice a j2 c).ownBlock=some g):=Hid.mk fun g hg=>cutA_own _ _ _ _ _ _ hg _ _
      generalize cutA a c st 1=a3 at hs3 hnw hown3
      generalize j2-st=m3 at hs3 hnw hown3
      generalize c-st=m4 at hs3 hnw hown3
      obtain ⟨a4,c4,w4,hrun,ho4,k4,hN4⟩:=append_slice rt215 ho (.slice a3 m3 m4) rfl (by have:=hvl.out;omega) 111 (0,0) 215
      have hg4:∀y∈u7.ownBlock.toList,y∈([]:List Nat)∨w.heap.size≤y:=fun y hy=>.inr (hfr y (by simpa using hy))
      have kw4:Kept [] w w4:=k2.trans k4 hg4
      have hsl4:Slcs w4 (.slice a j2 c) Itm.ad (C++[l.drop st]) (vs++[.slice a3 m3 m4]):=(hsl.kept k4 (fun g hg hm=>by have h1:=hfr g (by simpa using hm);have h2:=hlt0.out g hg;omega)).snoc (hnw.kept k4 (fun g hg hm=>by have h1:=hfr g (by simpa using hm);have h2:=hlt0.out g (hown3.out g hg);omega)) hown3.out rfl
      have hfr4:Fresh w (.slice a4 (vs.length+1) c4):=fun g hg=>by
       rcases hN4 g hg with h|h
       ·exact hfr g h
       ·exact Nat.le_trans k2.size h
      have Hall:=Hid.mk (And.intro ho4 (And.intro hsl4 (And.intro kw4 hfr4)))
      clear ho4 hsl4 hfr4 k4 hN4 ho hsl hnw k2 hg4 hr hrr hmp kw4 HI HI2
      go_wp2_with (at_builtin;refine wpList_append_run 215 _ _ rfl rfl _ _ rfl rfl _ _ hrun ?_)
      go_ret
      exact ⟨_,_,_,rfl,HC.out,Hall.out⟩
     ·have HC:=Hid.mk (HI2.out.done (by have:=hn.out;omega))
      have Hall:=Hid.mk (And.intro ho (And.intro hsl (And.intro k2 hfr)))
      clear ho hsl k2 hfr hr HI HI2
      go_wp2
      go_ret
      exact ⟨_,C,vs,rfl,HC.out,Hall.out⟩
end
def Fx (F:Nat→Prop) (w:World):Nat→Prop:=fun b=>F b∨w.heap.size≤b
def Fu (F:Nat→Prop) (w:World) (u:Value):Nat→Prop:=fun b=>Fx F w b∧u.ownBlock≠some b
def Blank (ρ:Rho) (w:World):Prop:=∀b,w.heap.size≤b→ρ b=(0,0)
theorem Blank.kept {ρ:Rho}{w w':World}{S:List Nat} (h:Blank ρ w) (k:Kept S w w'):Blank ρ w':=fun b hb=>h b (Nat.le_trans k.size hb)
def IsNs (w:World) (F:Nat→Prop) (ρ:Rho) {k:Nat} (ns:List (Tr k)):Prop:=∀m∈ns,IsN w F ρ m
theorem IsNs.kept {w w':World}{F:Nat→Prop}{ρ:Rho}{k:Nat}{ns:List (Tr k)}{S:List Nat} (h:IsNs w F ρ ns) (kk:Kept S w w') (hS:∀x∈S,¬F x):IsNs w' F ρ ns:=fun m hm=>(h m hm).kept kk hS
theorem IsNs.mono {w:World}{F F':Nat→Prop}{ρ:Rho}{k:Nat}{ns:List (Tr k)} (h:IsNs w F ρ ns) (hF:∀x,F x→F' x):IsNs w F' ρ ns:=fun m hm=>(h m hm).mono hF
theorem IsNs.grew {w0 w w':World}{F:Nat→Prop}{ρ:Rho}{k:Nat}{ns:List (Tr k)}{u u':Value} (h:IsNs w (Fu F w0 u) ρ ns) (kk:Kept u.ownBlock.toList w w') (hN:New w u u'):IsNs w' (Fu F w0 u') ρ ns:=fun m hm=>by
 have h1:IsN w (fun b=>Fu F w0 u b∧b<w.heap.size) ρ m:=(h m hm).monoS fun x hx hf=>⟨hf,hx⟩
 refine (h1.kept kk (fun x hx hf=>hf.1.2 (by simpa using hx))).mono fun x hx=>⟨hx.1.1,fun e=>?_⟩
 rcases hN x e with h2|h2
 ·exact hx.1.2 h2
 ·have:=hx.2;omega
theorem IsNs.nil (w:World) (F:Nat→Prop) (ρ:Rho) (k:Nat):IsNs w F ρ ([]:List (Tr k)):=fun m hm=>by simp at hm
theorem IsNs.snoc {w:World}{F:Nat→Prop}{ρ:Rho}{k:Nat}{ns:List (Tr k)}{m:Tr k} (h:IsNs w F ρ ns) (hm:IsN w F ρ m):IsNs w F ρ (ns++[m]):=fun x hx=>by
 rcases List.mem_append.1 hx with hx|hx
 ·exact h x hx
 ·simp at hx;subst hx;exact hm
theorem ReadsR.one {w:World}{a:Option Addr}{m c:Nat}{vs:List Value} (hm:m=vs.length) (h:ReadsR 1 w (.slice a m c) (vs.map fun x=>[x])) {j:Nat}{x:Value} (hx:vs[j]?=some x):∃b o,a=some ⟨b,o,none⟩∧w.cell? ⟨b,o+j,none⟩=some x:=by
 obtain ⟨b,o,c',e,hc⟩:=h.at j [x] (by rw [List.getElem?_map,hx];rfl)
 injection e with e _ _
 have:=hc 0 x rfl
 rw [Nat.mul_one,Nat.add_zero] at this
 exact ⟨b,o,e,this⟩
theorem wide_one {vs:List Value} (h:∀x∈vs,x.oneCell'=true):Wide 1 (vs.map fun x=>[x]):=fun r hr=>by
 obtain ⟨x,hx,rfl⟩:=List.mem_map.1 hr
 exact ⟨rfl,fun u hu=>by simp at hu;rw [hu];exact h x hx⟩
theorem Slcs.all {α:Type}{w:World}{v0:Value}{ad:α→Nat}{R:List (List α)}{vs:List Value} (h:Slcs w v0 ad R vs):∀x∈vs,x.oneCell'=true:=fun x hx=>by
 obtain ⟨j,hj⟩:=List.getElem?_of_mem hx
 have hlt:=(List.getElem?_eq_some_iff.1 hj).1
 obtain ⟨r,hr⟩:∃r,R[j]?=some r:=⟨_,List.getElem?_eq_getElem (by rw [←h.1];exact hlt)⟩
 exact (h.2 j r x hr hj).2.2
theorem RunsOk.len {α:Type}{sz:α→Nat}{l:List α}{R:List (List α)} (h:RunsOk sz l R):R.length≤l.length:=by
 have:∀(D:List (List α)),(∀r∈D,r≠[])→D.length≤D.flatten.length:=fun D hD=>by
  induction D with
  | nil=>simp
  | cons r D ih =>
   have:=ih fun x hx=>hD x (by simp [hx])
   have:=List.length_pos_iff.2 (hD r (by simp))
   rw [List.flatten_cons,List.length_append,List.length_cons]
   omega
 have h2:=this R fun r hr=>(h.runs r hr).1
 rw [h.flat] at h2
 exact h2
theorem IsB.new {w w':World}{F:Nat→Prop}{ρ:Rho} (hB:ρ w.heap.size=(0,0)) {lv:Nat}{vi vu:Value}{is us:List Nat}{S:List Nat} (k:Kept S (w.alloc (.cells #[.int .i64 0,.int .u64 0,.int .i64 (lv:Int),vi,vu] 114)) w') (hS:∀x∈S,x<w.heap.size)
  (hi:ReadsP w' vi is) (hu:ReadsP w' vu us) (hF:F w.heap.size) (hFi:is≠[]→∀g,vi.ownBlock=some g→F g) (hFu:us≠[]→∀g,vu.ownBlock=some g→F g):IsB w' F w.heap.size (ρ w.heap.size) lv is us:=by
 refine ⟨vi,vu,?_,hi,hu,hF,hFi,hFu⟩
 have h1:(w.alloc (.cells #[.int .i64 0,.int .u64 0,.int .i64 (lv:Int),vi,vu] 114)).heap[w.heap.size]?=some (.cells #[.int .i64 0,.int .u64 0,.int .i64 (lv:Int),vi,vu] 114 (0,0)):=heap_alloc_new w _
 rw [hB]
 exact k.keeps h1 (fun hm=>by have:=hS _ hm;omega)
section
variable {w:World}{F:Nat→Prop}{ρ:Rho}
set_option maxRecDepth 100000 in
set_option maxHeartbeats 1000000 in
theorem leaves_any (hB:Blank ρ w) (a:Option Addr) (n c:Nat) (is:List Itm) (hn:Hid (n=is.length)) (hr:ReadsP w (.slice a n c) (is.map Itm.ad)) (hF:Hid (∀g,(Value.slice a n c).ownBlock=some g→F g∧g<w.heap.size)) (hl:n≤100000) (hsz:Hid (∀i∈is,isz i≤236)) (hks:Hid (∀i∈is,i.key.length≤1000∧i.val.length≤100000)) (hI:Hid (∀i∈is,IsI w F ρ i)) :
  Calls Tryz.prog 120 #[.slice a n c] w fun e w'=>∃(v:Value) (ns:List (Tr 0)),e=.returned v∧OwnsP 77 w' v (ns.map adr)∧IsNs w' (Fx F w) ρ ns∧(∀m∈ns,Wf m)∧ns.flatMap its=is∧(∀m∈ns,w.heap.size≤adr m)∧Kept [] w w'∧Fresh w v:=by
 have hrun:=runsI_any a n c is hn hr (Hid.mk fun g hg=>(hF.out g hg).2) hl isz hsz (Hid.mk fun W kW i hi=>item_size ((hI.out i hi).kept kW (by simp)) (hks.out i hi).1 (hks.out i hi).2)
 go_enter Tryz.func120,Tryz.ntmps120
 go_wp2_with fail
 refine hrun.mono ?_
 rintro e w1 ⟨v1,R,vs,rfl,hok,ho1,hsl1,k1,hfr1⟩
 obtain ⟨a1,c1,rfl,-⟩:=ho1.form
 rw [List.length_map] at ho1 hfr1 ⊢
 have hRl:R.length=vs.length:=hsl1.1.symm
 have HOK:=Hid.mk hok
 have HRL:=Hid.mk hRl
 clear hok hRl hrun hr
 have hvl:vs.length≤100000:=by
  have h1:=HOK.out.len
  have h2:=hn.out
  rw [HRL.out] at h1
  omega
 generalize hm:vs.length=m at *
 have HM:=Hid.mk hm
 clear hm
 go_wp2_with fail
 go_loopw [3,9] (fun u i wr=>∃(j:Nat) (ns:List (Tr 0)),i=.int .i64 (j:Int)∧j≤m∧Hid (ns.map Prod.snd=R.take j)∧OwnsP 77 wr u (ns.map adr)∧IsNs wr (Fu F w u) ρ ns∧Hid (∀x∈ns,w.heap.size≤adr x)∧Kept [] w1 wr∧Fresh w1 u) (fun _ i _=>m-(intOf i).toNat)
 case atStart=>exact ⟨0,[],rfl,by omega,Hid.mk rfl,OwnsP.nil _ _,IsNs.nil _ _ _ _,Hid.mk (by simp),Kept.refl [] w1,fun g hg=>by simp [Value.ownBlock] at hg⟩
 case round =>
  obtain ⟨j,ns,rfl,hj,HN,ho,hns,hnew,k,hfr⟩:=hrel
  by_cases hlt:j<m
  ·obtain ⟨x,hx⟩:∃x,vs[j]?=some x:=⟨_,List.getElem?_eq_getElem (by have:=HM.out;omega)⟩
   obtain ⟨r,hrj⟩:∃r,R[j]?=some r:=⟨_,List.getElem?_eq_getElem (by have:=HM.out;have:=HRL.out;omega)⟩
   obtain ⟨hxr,hxo,hx1⟩:=hsl1.2 j r x hrj hx
   have hrow:=(ho1.reads (wide_one hsl1.all)).kept k (by simp)
   obtain ⟨b,o,rfl,hcell⟩:=ReadsR.one HM.out.symm hrow hx
   obtain ⟨ax,cx,rfl,-⟩:=hxr.form
   rw [List.length_map] at hxr hxo hcell
   have kn:=(Kept.refl [] wr).alloc (.cells #[.int .i64 0,.int .u64 0,.int .i64 0,.slice ax r.length cx,.slice none 0 0] 114)
   have hnl':ns.length=j:=by
    have:=congrArg List.length HN.out
    rw [List.length_map,List.length_take] at this
    have:=HM.out
    have:=HRL.out
    omega
   obtain ⟨a4,c4,w4,hrun,ho4,k4,hN4⟩:=append_ptr rt112 (ho.kept kn (by simp)) wr.heap.size (by rw [List.length_map];omega) 77 (0,0) 112
   have hsz1:(wr.alloc (.cells #[.int .i64 0,.int .u64 0,.int .i64 0,.slice ax r.length cx,.slice none 0 0] 114)).heap.size=wr.heap.size+1:=by simp
   rw [hsz1] at hrun
   have hul:∀g∈u3.ownBlock.toList,w1.heap.size≤g∧g<wr.heap.size:=fun g hg=>⟨hfr g (by simpa using hg),ho.lt (by simpa using hg)⟩
   have kr4:Kept u3.ownBlock.toList wr w4:=(kn.mono (by simp)).trans k4 (fun y hy=>.inl hy)
   have kk4:Kept [] w1 w4:=k.trans kr4 (fun y hy=>.inr (hul y hy).1)
   have hkw:=k1.size
   have hx4:ReadsP w4 (.slice ax r.length cx) (r.map Itm.ad):=(hxr.kept k (by simp)).kept kr4 (fun g hg hm=>by
    have h1:=(hF.out g (hxo g hg)).2
    have h2:=(hul g hm).1
    omega)
   have hu4:∀g,(Value.slice a4 ((ns.map adr).length+1) c4).ownBlock=some g→w1.heap.size≤g∧g≠wr.heap.size:=fun g hg=>by
    rcases hN4 g hg with h|h
    ·have:=hul g (by simpa using h);omega
    ·rw [hsz1] at h
     have:=k.size
     omega
   have hNw:New wr u3 (.slice a4 ((ns.map adr).length+1) c4):=fun g hg=>by
    rcases hN4 g hg with h|h
    ·exact .inl h
    ·rw [hsz1] at h
     exact .inr (by omega)
   have hns4:IsNs w4 (Fu F w (.slice a4 ((ns.map adr).length+1) c4)) ρ ns:=hns.grew kr4 hNw
   have hnew4:IsN w4 (Fu F w (.slice a4 ((ns.map adr).length+1) c4)) ρ (k:=0) (wr.heap.size,r):=by
    refine ⟨?_,fun i hi=>?_⟩
    ·have:=IsB.new (F:=Fu F w (.slice a4 ((ns.map adr).length+1) c4)) (hB wr.heap.size (Nat.le_trans hkw k.size)) (lv:=0) k4 (fun y hy=>(hul y hy).2) hx4 (ReadsP.nil w4) ⟨.inr (Nat.le_trans hkw k.size),fun e=>(hu4 _ e).2 rfl⟩ (fun _ g hg=>⟨.inl (hF.out g (hxo g hg)).1,fun e=>by have h1:=(hu4 g e).1;have h2:=(hF.out g (hxo g hg)).2;omega⟩) (fun h=>absurd rfl h)
     exact this
    ·have him:i∈is:=by
      rw [←HOK.out.flat]
      exact List.mem_flatten.2 ⟨r,List.mem_of_getElem? hrj,hi⟩
     have h1:IsI w (Fu F w (.slice a4 ((ns.map adr).length+1) c4)) ρ i:=(hI.out i him).monoS fun x hx hf=>⟨.inl hf,fun e=>by have:=(hu4 x e).1;omega⟩
     exact h1.kept (k1.trans kk4 (by simp)) (by simp)
   have HN4:Hid ((ns++[(wr.heap.size,r)]).map Prod.snd=R.take (j+1)):=Hid.mk (by rw [List.map_append,HN.out,List.take_add_one,hrj];rfl)
   have hfr4:Fresh w1 (.slice a4 ((ns.map adr).length+1) c4):=fun g hg=>by
    rcases hN4 g hg with h|h
    ·exact hfr g h
    ·rw [hsz1] at h
     have:=k.size
     omega
   rw [List.length_map] at hrun ho4 hfr4 hns4 hnew4
   have ho5:OwnsP 77 w4 (.slice a4 (ns.length+1) c4) ((ns++[((wr.heap.size,r):Tr 0)]).map adr):=by rw [List.map_append];exact ho4
   have Hall:=Hid.mk (And.intro ho5 (And.intro (hns4.snoc hnew4) (And.intro (Hid.mk (fun x hx=>by
    rcases List.mem_append.1 hx with h|h
    ·exact hnew.out x h
    ·simp at h
     subst h
     exact Nat.le_trans hkw k.size):Hid (∀x∈ns++[((wr.heap.size,r):Tr 0)],w.heap.size≤adr x)) (And.intro kk4 hfr4))))
   clear hnl'
   clear ho4 ho5 hns4 hnew4 kk4 hfr4 hN4 k4 kr4 hx4 hul hns hnew ho kn hrow hxr hxo hx1 hu4 hNw
   generalize r.length=rl at *
   go_wp2_with (at_builtin;refine wpList_append_run 112 _ _ rfl rfl _ _ rfl rfl _ _ hrun ?_)
   go_roundw
   case rel=>exact ⟨j+1,_,by go_num,by omega,HN4,Hall.out⟩
   case measure=>simp [intOf];omega
  ·obtain rfl:j=m:=by omega
   have hRt:R.take j=R:=List.take_of_length_le (by have:=HM.out;have:=HRL.out;omega)
   have HE:=HN.out
   rw [hRt] at HE
   have hfl:ns.flatMap its=is:=by
    rw [←HOK.out.flat,←HE]
    rw [List.flatMap_def]
    rfl
   have hwf:∀x∈ns,Wf x:=fun x hx=>by
    have:=HOK.out.runs x.2 (by rw [←HE];exact List.mem_map.2 ⟨x,hx,rfl⟩)
    exact this
   have Hall:=Hid.mk (And.intro ho (And.intro (hns.mono fun x hx=>hx.1:IsNs wr (Fx F w) ρ ns) (And.intro hwf (And.intro hfl (And.intro hnew.out (And.intro (k1.trans k (by simp)) (fun g hg=>Nat.le_trans k1.size (hfr g hg):Fresh w u3)))))))
   clear ho hns hwf hfl hnew k hfr HE hRt
   go_wp2
   go_ret
   exact ⟨_,ns,rfl,Hall.out⟩
end
end Go.Proofs.YtgpbhlfdlkemjaaGreat
