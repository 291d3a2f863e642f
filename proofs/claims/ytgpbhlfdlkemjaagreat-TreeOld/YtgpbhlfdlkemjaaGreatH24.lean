import Derived.Test.YtgpbhlfdlkemjaaGreatH22
import Derived.Test.YtgpbhlfdlkemjaaGreatH23
/-
 under: what stands while the nodes under a branch are replaced.
-/
namespace Go.Proofs.YtgpbhlfdlkemjaaGreat
open Go.RowKit
set_option linter.unusedVariables false
def WfE:{k:Nat}→Tr k→Prop
 | 0,n=>fil (k:=0) n≤236
 | k+1,n=>Wf (k:=k+1) n
theorem Wf.e:{k:Nat}→{n:Tr k}→Wf n→WfE n
 | 0,_,h=>h.2
 | _+1,_,h=>h
structure ChsOk (w:World) (F:Nat→Prop) (ρ:Rho) (cs:List Chg):Prop where
 up:ChUp cs
 ok:ChOk cs
 item:∀c∈cs,∀i,c.2=some i→IsI w F ρ i∧pn ρ i.ad=[]∧1≤i.key.length∧i.key.length≤64∧i.val.length≤20000
theorem ChsOk.sub {w:World}{F:Nat→Prop}{ρ:Rho}{cs ds:List Chg} (h:ChsOk w F ρ cs) (hs:ds.Sublist cs):ChsOk w F ρ ds:=⟨List.Pairwise.sublist hs h.up,fun c hc=>h.ok c (hs.subset hc),fun c hc=>h.item c (hs.subset hc)⟩
theorem ChsOk.kept {w w':World}{F:Nat→Prop}{ρ:Rho}{cs:List Chg}{S:List Nat} (h:ChsOk w F ρ cs) (k:Kept S w w') (hS:∀x∈S,¬F x):ChsOk w' F ρ cs:=⟨h.up,h.ok,fun c hc i e=>by obtain ⟨h1,h2⟩:=h.item c hc i e;exact ⟨h1.kept k hS,h2⟩⟩
theorem ChsOk.monoS {w:World}{F F':Nat→Prop}{ρ:Rho}{cs:List Chg} (h:ChsOk w F ρ cs) (hF:∀x,x<w.heap.size→F x→F' x):ChsOk w F' ρ cs:=⟨h.up,h.ok,fun c hc i e=>by obtain ⟨h1,h2⟩:=h.item c hc i e;exact ⟨h1.monoS hF,h2⟩⟩
theorem sized_mrg {w:World}{F:Nat→Prop}{ρ:Rho}{cs:List Chg}{is:List Itm} (h:ChsOk w F ρ cs) (hs:Sized is):Sized (mrg is cs):=fun i hi=>by
 rcases (mem_mrg cs is h.up i).1 hi with ⟨c,hc,e⟩|⟨h1,_⟩
 ·exact (h.item c hc i e).2.2
 ·exact hs i h1
theorem len_mrg (is:List Itm) (cs:List Chg):(mrg is cs).length≤is.length+cs.length:=by
 have:=sum_mrg (fun _=>1) cs is
 rw [sum_ones,sum_ones] at this
 have h2:(cs.map fun c=>(c.2.toList.map fun _=>1).sum).sum≤cs.length:=by
  have:=sum_ge (fun c:Chg=>(c.2.toList.map fun _=>1).sum) (fun _=>1) cs fun c _=>by cases c.2<;>simp
  rw [sum_ones] at this
  exact this
 omega
theorem wf_len {k:Nat}{l:List (Tr k)} (h:∀m∈l,Wf m):l.length≤(l.flatMap its).length:=by
 rw [List.length_flatMap]
 have:=sum_ge (fun _=>1) (fun u:Tr k=>(its u).length) l fun u hu=>List.length_pos_iff.2 (h u hu).some
 rw [sum_ones] at this
 exact this
def RepPost {k:Nat} (F:Nat→Prop) (ρ:Rho) (w:World) (ub:Nat) (vl:Value) (left:List Nat) (is:List Itm) (nin:List Nat) (cs:List Chg) (e:Ending) (w':World):Prop :=
 ∃(v vl':Value) (dl:List Nat) (ns:List (Tr k)),e=.returned v∧OwnsP 77 w' v (ns.map adr)∧Fresh w v∧IsU w' ub vl' (left++dl)∧Kept (uf ub vl) w w'∧New w vl vl'∧IsNs w' (Fw F w [vl']) ρ ns∧(∀m∈ns,Wf m)∧ns.flatMap its=mrg is cs∧nin.Perm (ns.flatMap (nms ρ)++dl)
def RepAt (k:Nat):Prop:=∀(w:World) (F:Nat→Prop) (ρ:Rho) (ub:Nat) (vl:Value) (left:List Nat) (n:Tr k) (cs:List Chg) (a:Option Addr) (m c:Nat),Blank ρ w→IsU w ub vl left→(∀x∈uf ub vl,¬F x)→IsN w F ρ n→WfE n→(cs=[]→Wf n)→Up (its n)→Sized (its n)→m=cs.length→HoldsC w (.slice a m c) cs→(∀g,(Value.slice a m c).ownBlock=some g→g∉uf ub vl)→ChsOk w F ρ cs→(its n).length+m≤50000→left.length+(nms ρ n).length≤90000 →
 Calls Tryz.prog 78 #[Pp ub,Pp (adr n),.slice a m c] w fun e w'=>RepPost (k:=k) F ρ w ub vl left (its n) (nms ρ n) cs e w'
structure UInv (ρ:Rho) {k:Nat} (us M:List (Tr k)) (cs:List Chg) (i p:Nat) (dl:List Nat):Prop where
 eq:M.flatMap its++mrg ((us.drop i).flatMap its) (cs.drop p)=mrg (us.flatMap its) cs
 wf:∀m∈M,Wf m
 ple:p≤cs.length
 fin:i=us.length→p=cs.length
 names:((us.take i).flatMap (nms ρ)).Perm (M.flatMap (nms ρ)++dl)
theorem UInv.start {ρ:Rho}{k:Nat}{us:List (Tr k)}{cs:List Chg} (hu:us≠[]):UInv ρ us [] cs 0 0 []:=⟨by simp,by simp,by omega,fun h=>absurd (List.eq_nil_of_length_eq_zero h.symm) hu,by simp⟩
def share {k:Nat} (us:List (Tr k)) (cs:List Chg) (i p:Nat):Nat:=match us[i+1]? with
 | none=>cs.length-p
 | some v=>kpl ((cs.drop p).map (·.1)) (((its v).head?.map Itm.key).getD [])
theorem UInv.step {ρ:Rho}{k:Nat}{us M ns:List (Tr k)}{cs:List Chg}{i p:Nat}{dl d:List Nat}{u:Tr k} (h:UInv ρ us M cs i p dl) (hw:∀x∈us,Wf x) (hup:Up (us.flatMap its)) (hc:ChUp cs) (hu:us[i]?=some u) (hns:∀m∈ns,Wf m) (he:ns.flatMap its=mrg (its u) ((cs.drop p).take (share us cs i p))) (hn:(nms ρ u).Perm (ns.flatMap (nms ρ)++d)) :
  share us cs i p≤cs.length-p∧UInv ρ us (M++ns) cs (i+1) (p+share us cs i p) (dl++d):=by
 have hil:=(List.getElem?_eq_some_iff.1 hu).1
 have hcd:ChUp (cs.drop p):=List.Pairwise.sublist (List.drop_sublist _ _) hc
 have hdr:us.drop i=u::us.drop (i+1):=by rw [List.drop_eq_getElem?_toList_append,hu];rfl
 have hnames:((us.take (i+1)).flatMap (nms ρ)).Perm ((M++ns).flatMap (nms ρ)++(dl++d)):=by
  rw [tsnoc hu,List.flatMap_append,List.flatMap_append]
  simp only [List.flatMap_cons,List.flatMap_nil,List.append_nil]
  refine (h.names.append hn).trans ?_
  generalize M.flatMap (nms ρ)=A
  generalize ns.flatMap (nms ρ)=B
  have:(dl++(B++d)).Perm (B++(dl++d)):=by
   rw [←List.append_assoc,←List.append_assoc]
   exact List.perm_append_comm.append_right d
  simpa [List.append_assoc] using this.append_left A
 have hwf:∀m∈M++ns,Wf m:=fun m hm=>by
  rcases List.mem_append.1 hm with h1|h1
  ·exact h.wf m h1
  ·exact hns m h1
 have hple:=h.ple
 cases hv:us[i+1]? with
 | none =>
  have es:share us cs i p=cs.length-p:=by unfold share;rw [hv]
  have hlast:us.drop (i+1)=[]:=List.drop_eq_nil_of_le (by rcases Nat.lt_or_ge (i+1) us.length with h1|h1;rw [List.getElem?_eq_getElem h1] at hv;cases hv;exact h1)
  rw [es] at he ⊢
  have et:(cs.drop p).take (cs.length-p)=cs.drop p:=List.take_of_length_le (by rw [List.length_drop];omega)
  rw [et] at he
  refine ⟨Nat.le_refl _,⟨?_,hwf,by omega,fun _=>by omega,hnames⟩⟩
  rw [←h.eq,hdr,hlast,List.flatMap_append,he,List.drop_of_length_le (by omega:cs.length≤p+(cs.length-p))]
  simp [mrg]
 | some v =>
  have es:share us cs i p=kpl ((cs.drop p).map (·.1)) (((its v).head?.map Itm.key).getD []):=by unfold share;rw [hv]
  obtain ⟨iv,hiv⟩:∃iv,(its v).head?=some iv:=by
   cases e:its v with
   | nil=>exact absurd e (hw v (List.mem_of_getElem? hv)).some
   | cons a r=>exact ⟨a,rfl⟩
  rw [hiv] at es
  simp only [Option.map_some,Option.getD_some] at es
  have hp:=place_kpl iv.key (List.pairwise_map.2 hcd:((cs.drop p).map (·.1)).Pairwise (·<·))
  rw [←es] at hp
  generalize share us cs i p=q at *
  have hq:q≤cs.length-p:=by have:=hp.1;rw [List.length_map,List.length_drop] at this;exact this
  refine ⟨hq,⟨?_,hwf,by omega,fun e=>?_,hnames⟩⟩
  ·have hsp:cs.drop p=(cs.drop p).take q++cs.drop (p+q):=by rw [←List.drop_drop,List.take_append_drop]
   rw [←h.eq,hdr,List.flatMap_append,he,List.flatMap_cons]
   have hdr2:us.drop (i+1)=v::us.drop (i+1+1):=by rw [List.drop_eq_getElem?_toList_append,hv];rfl
   have hup2:Up (its u++(us.drop (i+1)).flatMap its):=by
    have e1:us=us.take i++(u::us.drop (i+1)):=by rw [←hdr,List.take_append_drop]
    rw [e1,List.flatMap_append,List.flatMap_cons] at hup
    exact (Up.append.1 hup).2.1
   have hivm:iv∈its v:=List.mem_of_mem_head? (by rw [hiv];rfl)
   have hivr:iv∈(us.drop (i+1)).flatMap its:=by rw [hdr2,List.flatMap_cons];exact List.mem_append_left _ hivm
   have hlow:∀c∈(cs.drop p).take q,c.1<iv.key:=fun c hc=>by
    obtain ⟨r,hr⟩:=List.getElem?_of_mem hc
    rw [List.getElem?_take] at hr
    split at hr
    ·exact (hp.2 r c.1 (by rw [List.getElem?_map,hr];rfl)).2 (by assumption)
    ·cases hr
   have hhigh:∀c∈cs.drop (p+q),¬c.1<iv.key:=fun c hc hlt=>by
    obtain ⟨r,hr⟩:=List.getElem?_of_mem hc
    rw [←List.drop_drop,List.getElem?_drop] at hr
    have:=(hp.2 (q+r) c.1 (by rw [List.getElem?_map,hr];rfl)).1 hlt
    omega
   have hge:∀b∈(us.drop (i+1)).flatMap its,¬b.key<iv.key:=fun b hb=>by
    have hu3:Up (iv::((us.drop (i+1)).flatMap its).tail):=by
     have e2:(us.drop (i+1)).flatMap its=iv::((us.drop (i+1)).flatMap its).tail:=by
      rw [hdr2,List.flatMap_cons]
      cases e:its v with
      | nil=>rw [e] at hiv;cases hiv
      | cons a r=>rw [e] at hiv;simp at hiv;subst hiv;rfl
     have:=(Up.append.1 hup2).2.1
     rw [e2] at this
     exact this
    have e2:(us.drop (i+1)).flatMap its=iv::((us.drop (i+1)).flatMap its).tail:=by
     rw [hdr2,List.flatMap_cons]
     cases e:its v with
     | nil=>rw [e] at hiv;cases hiv
     | cons a r=>rw [e] at hiv;simp at hiv;subst hiv;rfl
    rw [e2] at hb
    rcases List.mem_cons.1 hb with rfl|hb
    ·exact klt_irrefl _
    ·exact klt_asymm ((List.pairwise_cons.1 hu3).1 b hb)
   conv=>rhs;rw [hsp]
   rw [mrg_append ((cs.drop p).take q) (cs.drop (p+q)) (its u) ((us.drop (i+1)).flatMap its) (fun c hc b hb=>?_) (fun c hc b hb=>?_) (fun c hc d hd=>?_)]
   ·simp
   ·have h1:=hlow c hc
    by_cases e:iv.key=b.key
    ·rw [←e];exact h1
    ·exact klt_trans h1 (klt_total (hge b hb) (fun e2=>e e2.symm))
   ·have h1:=(Up.append.1 hup2).2.2 b hb iv hivr
    by_cases e:iv.key=c.1
    ·rw [←e];exact h1
    ·exact klt_trans h1 (klt_total (hhigh c hc) (fun e2=>e e2.symm))
   ·rw [hsp] at hcd
    exact (List.pairwise_append.1 hcd).2.2 c hc d hd
  ·have:=(List.getElem?_eq_some_iff.1 hv).1
   omega
theorem UInv.done {ρ:Rho}{k:Nat}{us M:List (Tr k)}{cs:List Chg}{p:Nat}{dl:List Nat} (h:UInv ρ us M cs us.length p dl):M.flatMap its=mrg (us.flatMap its) cs∧(us.flatMap (nms ρ)).Perm (M.flatMap (nms ρ)++dl):=by
 have e:=h.eq
 rw [h.fin rfl,List.drop_length,List.drop_length] at e
 have n:=h.names
 rw [List.take_length] at n
 refine ⟨?_,n⟩
 simpa [mrg] using e
theorem HoldsC.keptW {w wr W:World}{a a2:Option Addr}{m c mm c2 ub:Nat}{vl:Value}{cs ds:List Chg} (h2:HoldsC wr (.slice a2 mm c2) ds) (h:HoldsC w (.slice a m c) cs) (kk:Kept (uf ub vl) w wr) (kW:Kept (uf ub vl) w W) (hown:∀g,(Value.slice a2 mm c2).ownBlock=some g→(Value.slice a m c).ownBlock=some g) (hF:∀g,(Value.slice a m c).ownBlock=some g→g∉uf ub vl) (hlt:∀g,(Value.slice a m c).ownBlock=some g→g<w.heap.size):HoldsC W (.slice a2 mm c2) ds :=
 ReadsR.turn h2 fun g o x hg hx _=>by
  have hg1:=hown g hg
  have hl:=hlt g hg1
  rw [kW.cell (p:=⟨g,o,none⟩) hl (hF g hg1)]
  rw [kk.cell (p:=⟨g,o,none⟩) hl (hF g hg1)] at hx
  exact hx
section
variable {w:World}{F:Nat→Prop}{ρ:Rho}
set_option maxRecDepth 100000 in
set_option maxHeartbeats 8000000 in
theorem under_walk {k:Nat} (HR:Hid (RepAt k)) (hB:Hid (Blank ρ w)) {ub:Nat}{vl:Value}{left:List Nat} (hU:IsU w ub vl left) (hFu:Hid (∀x∈uf ub vl,¬F x)) (n:Tr (k+1)) (hN:IsN w F ρ n) (hW:Hid (Wf n)) (hUp:Hid (Up (its n))) (hSz:Hid (Sized (its n))) (cs:List Chg) (a:Option Addr) (m c:Nat) (hm:Hid (m=cs.length)) (hC:HoldsC w (.slice a m c) cs) (hFc:Hid (∀g,(Value.slice a m c).ownBlock=some g→g∉uf ub vl)) (hOwnLt:Hid (∀g,(Value.slice a m c).ownBlock=some g→g<w.heap.size)) (hcs:Hid (ChsOk w F ρ cs)) (hlen:Hid ((its n).length+m≤50000)) (hll:Hid (left.length+(n.2.flatMap (nms ρ)).length≤90000)) :
  Calls Tryz.prog 119 #[Pp ub,Pp n.1,.slice a m c] w fun e w'=>RepPost (k:=k) F ρ w ub vl left (its n) (n.2.flatMap (nms ρ)) cs e w':=by
 obtain ⟨aI,cI,aU,cU,-,-,c4,-,r4⟩:=hN.br
 have hub:=hU.lt
 have hubF:Hid (ub<w.heap.size∧¬F ub):=Hid.mk ⟨hU.lt,hFu.out ub (mem_uf.2 (.inl rfl))⟩
 have hvlw:Hid (∀g,vl.ownBlock=some g→g<w.heap.size∧¬F g):=Hid.mk fun g hg=>⟨hU.own.lt hg,hFu.out g (mem_uf.2 (.inr hg))⟩
 have hFn:Hid (F n.1∧(∀g,(Value.slice aU n.2.length cU).ownBlock=some g→F g)):=Hid.mk (by
  obtain ⟨vi,vu,h1,_,_,h4,_,h6⟩:=hN.1
  have:w.cell? ⟨n.1,4,none⟩=some vu:=by simp [World.cell?,h1]
  rw [c4] at this
  injection this with this
  subst this
  exact ⟨h4,h6 (by simp;exact hW.out.1)⟩)
 have hNlt:n.2.length≤23:=hW.out.2.1
 have hml:m≤50000:=by have:=hlen.out;omega
 have HX:Hid (∀x∈n.2,∀W,Kept (uf ub vl) w W→IsN W (fun b=>F b∧b<w.heap.size) ρ x):=Hid.mk fun x hx W kW=>((hN.2 x hx).monoS (F':=fun b=>F b∧b<w.heap.size) fun b hb hf=>⟨hf,hb⟩).kept kW fun b hb hf=>hFu.out b hb hf.1
 have HCS:Hid (∀W,Kept (uf ub vl) w W→ChsOk W (fun b=>F b∧b<w.heap.size) ρ cs):=Hid.mk fun W kW=>(hcs.out.monoS (F':=fun b=>F b∧b<w.heap.size) fun b hb hf=>⟨hf,hb⟩).kept kW fun b hb hf=>hFu.out b hb hf.1
 obtain ⟨N,HNN⟩:∃N,Hid (n.2.length=N):=⟨_,rfl⟩
 obtain ⟨A,HA⟩:∃A,Hid (n.1=A):=⟨_,rfl⟩
 rw [HNN.out] at hNlt c4 r4 hFn
 rw [HA.out] at c4 hFn ⊢
 have Hitn:Hid (its n=n.2.flatMap its):=Hid.mk rfl
 clear hN
 go_enter Tryz.func119,Tryz.ntmps119
 go_wp2_with fail
 go_loopw [2,7,16] (fun v2 u i wr=>∃(j p mm:Nat) (M:List (Tr k)) (vr:Value) (dl:List Nat) (a2:Option Addr) (c2:Nat),i=.int .i64 (j:Int)∧j≤N∧v2=.slice a2 mm c2∧Hid (mm=m-p)∧mm≤m∧Hid (UInv ρ n.2 M cs j p dl)∧HoldsC wr (.slice a2 mm c2) (cs.drop p)∧Hid (∀g,(Value.slice a2 mm c2).ownBlock=some g→(Value.slice a m c).ownBlock=some g)∧OwnsP 77 wr u (M.map adr)∧Fresh w u∧IsU wr ub vr (left++dl)∧Kept (uf ub vl) w wr∧New w vl vr∧Hid (IsNs wr (Fw F w [vr,u]) ρ M)) (fun _ _ i _=>N-(intOf i).toNat)
 case atStart=>exact ⟨0,0,m,[],vl,[],a,c,rfl,by omega,rfl,Hid.mk rfl,Nat.le_refl _,Hid.mk (UInv.start hW.out.1),hC,Hid.mk fun g hg=>hg,OwnsP.nil _ _,fun g hg=>by simp [Value.ownBlock] at hg,by rw [List.append_nil];exact hU,Kept.refl _ w,New.refl w vl,Hid.mk (IsNs.nil _ _ _ _)⟩
 case round =>
  obtain ⟨j,p,mm,M,vr,dl,a2,c2,rfl,hj,rfl,Hmm,hmm,HI,hC2,Hown,ho,hf,hUr,kk,hNr,hM⟩:=hrel
  obtain ⟨hmc,hcc⟩:mm≤c2∧c2≤9223372036854775807:=by
   obtain ⟨a',c',e,h2,h3⟩:=hC2.form
   injection e with _ e1 e2
   omega
  have hcd:Hid (mm=(cs.drop p).length):=Hid.mk (by rw [List.length_drop,←hm.out,Hmm.out])
  have c4w:wr.cell? ⟨A,4,none⟩=some (.slice aU N cU):=by
   rw [kk.cell (World.block_lt_of_cell? w _ c4) (fun h=>hFu.out _ h hFn.out.1)]
   exact c4
  have r4w:=r4.keptE kk (fun _ g hg h=>hFu.out g h (hFn.out.2 g hg))
  by_cases hlt:j<N
  ·obtain ⟨u,hu⟩:∃u,n.2[j]?=some u:=⟨_,List.getElem?_eq_getElem (by have:=HNN.out;omega)⟩
   obtain ⟨b,o,c',e,hcell⟩:=r4w.at j (adr u) (by rw [List.getElem?_map,hu];rfl)
   rw [List.length_map,HNN.out] at e
   injection e with e _ e2
   subst e e2
   have hum:=List.mem_of_getElem? hu
   -- the call, wherever it is made
   have HREP:Hid (∀(W:World) (a3:Option Addr) (q c3:Nat),q=share n.2 cs j p→q≤cs.length-p→Kept [] wr W→HoldsC W (.slice a3 q c3) ((cs.drop p).take q)→(∀g,(Value.slice a3 q c3).ownBlock=some g→(Value.slice a m c).ownBlock=some g)→Calls Tryz.prog 78 #[Pp ub,Pp (adr u),.slice a3 q c3] W fun e w'=>∃(v:Value) (w8:World) (a8:Option Addr) (c8 tl:Nat) (M':List (Tr k)) (vr':Value) (dl':List Nat),e=.returned v∧(Builtin.append_ #[112,112] 112 #[u7,v]).run Tryz.prog w'=.ok (.slice a8 tl c8) w8∧UInv ρ n.2 M' cs (j+1) (p+q) dl'∧OwnsP 77 w8 (.slice a8 tl c8) (M'.map adr)∧Fresh w (.slice a8 tl c8)∧IsU w8 ub vr' (left++dl')∧Kept (uf ub vl) w w8∧New w vl vr'∧Hid (IsNs w8 (Fw F w [vr',.slice a8 tl c8]) ρ M')):=Hid.mk fun W a3 q c3 hq hql kW hC3 hown3=>by
    have kkW:=kk.trans kW (by simp)
    have hUW:=hUr.kept kW (by simp) (by simp)
    have hF1:∀x∈uf ub vr,¬(F x∧x<w.heap.size):=fun x hx hF=>by
     rcases mem_uf.1 hx with h|h
     ·subst h;exact hubF.out.2 hF.1
     ·rcases hNr x h with h1|h1
      ·exact (hvlw.out x h1).2 hF.1
      ·have:=hF.2;omega
    have htl:((cs.drop p).take q).length=q:=by rw [List.length_take,List.length_drop];omega
    have hsub:(cs.drop p).take q |>.Sublist cs:=(List.take_sublist _ _).trans (List.drop_sublist _ _)
    have hpart:(its u).length≤(its n).length:=by
     rw [Hitn.out,List.length_flatMap]
     obtain ⟨X,Y,e⟩:=List.append_of_mem hum
     rw [e,List.map_append,List.sum_append,List.map_cons,List.sum_cons]
     omega
    have hnl:left.length+dl.length+(nms ρ u).length≤90000:=by
     have h1:=HI.out.names.length_eq
     have e1:n.2=n.2.take (j+1)++n.2.drop (j+1):=(List.take_append_drop _ _).symm
     have e2:(n.2.flatMap (nms ρ)).length=((n.2.take (j+1)).flatMap (nms ρ)).length+((n.2.drop (j+1)).flatMap (nms ρ)).length:=by rw [←List.length_append,←List.flatMap_append,←e1]
     rw [tsnoc hu,List.flatMap_append,List.length_append] at e2
     simp only [List.flatMap_cons,List.flatMap_nil,List.append_nil] at e2
     rw [List.length_append] at h1
     have:=hll.out
     omega
    refine (HR.out W (fun b=>F b∧b<w.heap.size) ρ ub vr (left++dl) u ((cs.drop p).take q) a3 q c3 (hB.out.kept kkW) hUW hF1 (HX.out u hum W kkW) (hW.out.2.2.1 u hum).e (fun _=>hW.out.2.2.1 u hum) (up_sub (by rw [←Hitn.out];exact hUp.out) hum) (fun i hi=>hSz.out i (by rw [Hitn.out];exact List.mem_flatMap.2 ⟨u,hum,hi⟩)) htl.symm hC3 (fun g hg hmem=>?_) ((HCS.out W kkW).sub hsub) (by have:=hlen.out;have:=hm.out;omega) (by rw [List.length_append];exact hnl)).mono ?_
    ·have h1:=hown3 g hg
     rcases mem_uf.1 hmem with h|h
     ·exact hFc.out g h1 (mem_uf.2 (.inl h))
     ·rcases hNr g h with h2|h2
      ·exact hFc.out g h1 (mem_uf.2 (.inr h2))
      ·have hlt3:(Value.slice a m c).ownBlock=some g:=h1
       have:g<w.heap.size∨(cs.drop p).take q=[]:=by
        by_cases he:(cs.drop p).take q=[]
        ·exact .inr he
        ·left
         have hne:cs≠[]:=by intro e;rw [e] at he;simp at he
         obtain ⟨g',hg',hlt'⟩:=ReadsR.lt hC (CC_wide cs) (by omega) (by intro e;have:=congrArg List.length e;rw [CC_length] at this;exact hne (List.eq_nil_of_length_eq_zero this))
         have e2:g'=g:=Option.some.inj (hg'.symm.trans hlt3)
         omega
       rcases this with h3|h3
       ·omega
       ·have hvrl:=hUr.own.lt h
        have hbad:g<w.heap.size:=hOwnLt.out g hlt3
        omega
    ·rintro e w' ⟨v,vr',d,ns,rfl,hov,hfv,hU',k',hN',hns,hwf,heq,hperm⟩
     rw [hq] at heq
     obtain ⟨hs1,HI'⟩:=HI.out.step hW.out.2.2.1 (by rw [←Hitn.out];exact hUp.out) hcs.out.up hu hwf heq hperm
     rw [←hq] at HI'
     have hlenM:(M++ns).length≤50000:=by
      have h1:=wf_len HI'.wf
      have h2:=congrArg List.length HI'.eq
      rw [List.length_append] at h2
      have h3:=len_mrg (n.2.flatMap its) cs
      rw [←Hitn.out] at h3
      rw [←Hitn.out] at h2
      have h4:=hlen.out
      have h5:=hm.out
      omega
     rw [List.length_append] at hlenM
     have hu7:∀g,u7.ownBlock=some g→w.heap.size≤g∧g<wr.heap.size:=fun g hg=>⟨hf g hg,ho.lt hg⟩
     have ho':=(ho.kept kW (by simp)).kept k' (fun g hg hmem=>by
      rcases mem_uf.1 hmem with h|h
      ·have:=(hu7 g hg).1;omega
      ·exact rows_apart ho hUr.own (by decide) h hg)
     obtain ⟨a8,c8,w8,hrun8,ho8,k8,hN8⟩:=run_appendP rt112 w' 112 u7 (M.map adr) ho' v (ns.map adr) hov.reads (by rw [List.length_map,List.length_map];omega)
     have kkw':Kept (uf ub vl) w w':=kkW.trans k' (fun b hb=>by
      rcases mem_uf.1 hb with h|h
      ·exact .inl (mem_uf.2 (.inl h))
      ·rcases hNr b h with h1|h1
       ·exact .inl (mem_uf.2 (.inr h1))
       ·exact .inr h1)
     have hN'w:New w vl vr':=hNr.trans hN' kkW.size
     have hf8:Fresh w (.slice a8 ((M.map adr).length+(ns.map adr).length) c8):=fun g hg=>by
      rcases hN8 g hg with h|h
      ·exact hf g h
      ·exact Nat.le_trans kkw'.size h
     refine ⟨v,w8,a8,c8,_,M++ns,vr',dl++d,rfl,hrun8,HI',by rw [List.map_append];exact ho8,hf8,?_,kkw'.trans k8 (fun b hb=>.inr (hf b (by simpa using hb))),hN'w,Hid.mk fun x hx=>?_⟩
     ·have h1:=hU'.kept k8 (fun h=>by have:=(hu7 _ (by simpa using h)).1;omega) (fun g hg h=>rows_apart ho' hU'.own (by decide) hg (by simpa using h))
      rw [List.append_assoc] at h1
      exact h1
     ·rcases List.mem_append.1 hx with h|h
      ·exact (((hM.out x h).kept kW (by simp)).stepU k' hN' hubF.out).stepR k8 hN8
      ·have h1:IsN w' (Fw F w [vr',u7]) ρ x:=(hns x h).mono fun b hb=>⟨by
        rcases hb.1 with h2|h2
        ·exact .inl h2.1
        ·exact .inr (Nat.le_trans kkW.size h2),fun t ht e=>by
        simp at ht
        rcases ht with rfl|rfl
        ·exact hb.2 _ (by simp) e
        ·have h3:=hu7 b e
         rcases hb.1 with h2|h2
         ·have:=h2.2;omega
         ·have:=kW.size;omega⟩
       exact h1.stepR k8 hN8
   by_cases hj1:j+1<N
   ·-- not the last of them
    obtain ⟨v,hv⟩:∃v,n.2[j+1]?=some v:=⟨_,List.getElem?_eq_getElem (by have:=HNN.out;omega)⟩
    obtain ⟨b',o',c',e,hcellv⟩:=r4w.at (j+1) (adr v) (by rw [List.getElem?_map,hv];rfl)
    rw [List.length_map,HNN.out] at e
    injection e with e _ e2
    injection e with e
    injection e with e3 e4 _
    subst e2 e3 e4
    have hvm:=List.mem_of_getElem? hv
    obtain ⟨iv,hiv⟩:∃iv,(its v).head?=some iv:=by
     cases e:its v with
     | nil=>exact absurd e (hW.out.2.2.1 v hvm).some
     | cons a r=>exact ⟨a,rfl⟩
    have hfst:=first_any (HX.out v hvm wr kk) (hW.out.2.2.1 v hvm) iv hiv
    have hchd:ChUp (cs.drop p):=List.Pairwise.sublist (List.drop_sublist _ _) hcs.out.up
    have hbef:=before_any a2 mm c2 (cs.drop p) hcd hC2 (by omega) iv.key hchd
    have hsh:Hid (kpl ((cs.drop p).map (·.1)) iv.key=share n.2 cs j p):=Hid.mk (by unfold share;rw [hv];simp [hiv])
    have hqle:=(place_kpl iv.key (List.pairwise_map.2 hchd:((cs.drop p).map (·.1)).Pairwise (·<·))).1
    rw [List.length_map,←hcd.out] at hqle
    generalize kpl ((cs.drop p).map (·.1)) iv.key=q at hbef hsh hqle
    have hs1:=fun W=>run_cutH rt86 W a2 mm c2 q (by omega)
    have hs2:=fun W=>run_cutL rt86 W a2 mm c2 q hqle
    have Hc1:Hid (∀W,HoldsC W (.slice a2 mm c2) (cs.drop p)→HoldsC W (.slice (cutA a2 c2 0 2) q c2) ((cs.drop p).take q)):=Hid.mk fun W h=>by
     have:=HoldsC.cut hcd.out h (Nat.zero_le q) hqle (by omega:q≤c2) (Nat.le_refl c2)
     simpa using this
    have Hc2:Hid (∀W,HoldsC W (.slice a2 mm c2) (cs.drop p)→HoldsC W (.slice (cutA a2 c2 q 2) (mm-q) (c2-q)) (cs.drop (p+q))):=Hid.mk fun W h=>by
     have:=HoldsC.cut hcd.out h hqle (Nat.le_refl mm) hmc (Nat.le_refl c2)
     rw [List.take_of_length_le (by rw [←hcd.out];exact Nat.le_refl _),List.drop_drop] at this
     exact this
    have Ho1:Hid (∀g,(Value.slice (cutA a2 c2 0 2) q c2).ownBlock=some g→(Value.slice a m c).ownBlock=some g):=Hid.mk fun g hg=>Hown.out g (cutA_own _ _ _ _ _ _ hg _ _)
    have Ho2:Hid (∀g,(Value.slice (cutA a2 c2 q 2) (mm-q) (c2-q)).ownBlock=some g→(Value.slice a m c).ownBlock=some g):=Hid.mk fun g hg=>Hown.out g (cutA_own _ _ _ _ _ _ hg _ _)
    generalize cutA a2 c2 0 2=a3 at *
    generalize cutA a2 c2 q 2=a4 at *
    obtain ⟨m4,hm4⟩:∃m4,Hid (mm-q=m4):=⟨_,rfl⟩
    have hm4le:m4≤m:=by rw [←hm4.out];omega
    rw [hm4.out] at hs2 Hc2 Ho2
    generalize c2-q=c4' at *
    have hpq:q≤cs.length-p:=by have h1:=hcd.out;rw [List.length_drop] at h1;omega
    have Hm4:Hid (m4=m-(p+q)):=Hid.mk (by rw [←hm4.out,Hmm.out];omega)
    have hkC:Hid (∀W,Kept (uf ub vl) w W→HoldsC W (.slice a2 mm c2) (cs.drop p)):=Hid.mk fun W kW=>HoldsC.keptW hC2 hC kk kW Hown.out hFc.out hOwnLt.out
    clear hiv hvm hu hv hum r4w hC2 ho hUr hM HI
    go_wp2_with fail
    refine hfst.mono ?_
    rintro e w0 ⟨rfl,rfl⟩
    go_wp2_with fail
    refine hbef.mono ?_
    rintro e W1 ⟨rfl,k1⟩
    have hc4c:W1.cell? ⟨A,4,none⟩=some (.slice (some ⟨b,o,none⟩) N cU):=by rw [k1.cell (World.block_lt_of_cell? wr _ c4w) (by simp)];exact c4w
    have kk1:=kk.trans k1 (by simp)
    have Hrep:=HREP.out W1 a3 q c2 hsh.out hpq k1 (Hc1.out W1 (hkC.out W1 kk1)) Ho1.out
    clear HREP hfst hbef
    go_wp2_with fail
    refine Hrep.mono ?_
    rintro e w9 ⟨v9,w8,a8,c8,tl,M',vr',dl',rfl,hrun8,HI',ho8,hf8,hU8,kk8,hN8,hM8⟩
    have Hall:=Hid.mk (And.intro ho8 (And.intro hf8 (And.intro hU8 (And.intro kk8 (And.intro hN8 hM8)))))
    have HI2:=Hid.mk HI'
    have HC8:Hid (HoldsC w8 (.slice a4 m4 c4') (cs.drop (p+q))):=Hid.mk (Hc2.out w8 (hkC.out w8 kk8))
    clear ho8 hf8 hU8 kk8 hN8 hM8 HI' Hrep
    go_wp2_with (at_builtin;refine wpList_append_run 112 _ _ rfl rfl _ _ rfl rfl _ _ hrun8 ?_)
    go_roundw
    case rel=>exact ⟨j+1,p+q,m4,M',vr',dl',a4,c4',by go_num,by omega,rfl,Hm4,hm4le,HI2,HC8.out,Ho2,Hall.out⟩
    case measure=>simp [intOf];omega
   ·-- the last of them
    have hnone:n.2[j+1]?=none:=List.getElem?_eq_none (by have:=HNN.out;omega)
    have hsh:Hid (mm=share n.2 cs j p):=Hid.mk (by unfold share;rw [hnone];have h1:=hcd.out;rw [List.length_drop] at h1;exact h1)
    have hs2:=fun W=>run_cutL rt86 W a2 mm c2 mm (Nat.le_refl mm)
    have Hc2:Hid (∀W,HoldsC W (.slice a2 mm c2) (cs.drop p)→HoldsC W (.slice (cutA a2 c2 mm 2) (mm-mm) (c2-mm)) (cs.drop (p+mm))):=Hid.mk fun W h=>by
     have:=HoldsC.cut hcd.out h (Nat.le_refl mm) (Nat.le_refl mm) hmc (Nat.le_refl c2)
     rw [List.take_of_length_le (by rw [←hcd.out];exact Nat.le_refl _),List.drop_drop] at this
     exact this
    have Ho2:Hid (∀g,(Value.slice (cutA a2 c2 mm 2) (mm-mm) (c2-mm)).ownBlock=some g→(Value.slice a m c).ownBlock=some g):=Hid.mk fun g hg=>Hown.out g (cutA_own _ _ _ _ _ _ hg _ _)
    generalize cutA a2 c2 mm 2=a4 at *
    have hz:mm-mm=0:=Nat.sub_self mm
    rw [hz] at hs2 Hc2 Ho2
    generalize c2-mm=c4' at *
    have hpq:mm≤cs.length-p:=by have h1:=hcd.out;rw [List.length_drop] at h1;omega
    have Hm4:Hid (0=m-(p+mm)):=Hid.mk (by rw [Hmm.out];have h2:=hm.out;have h3:=HI.out.ple;omega)
    have hkC:Hid (∀W,Kept (uf ub vl) w W→HoldsC W (.slice a2 mm c2) (cs.drop p)):=Hid.mk fun W kW=>HoldsC.keptW hC2 hC kk kW Hown.out hFc.out hOwnLt.out
    have htk:(cs.drop p).take mm=cs.drop p:=List.take_of_length_le (by rw [←hcd.out];exact Nat.le_refl _)
    have Hrep:=HREP.out wr a2 mm c2 hsh.out hpq (Kept.refl [] wr) (by rw [htk];exact hC2) Hown.out
    clear hnone hz htk hum r4w hC2 ho hUr hM HI hu HREP
    go_wp2_with fail
    refine Hrep.mono ?_
    rintro e w9 ⟨v9,w8,a8,c8,tl,M',vr',dl',rfl,hrun8,HI',ho8,hf8,hU8,kk8,hN8,hM8⟩
    have Hall:=Hid.mk (And.intro ho8 (And.intro hf8 (And.intro hU8 (And.intro kk8 (And.intro hN8 hM8)))))
    have HI2:=Hid.mk HI'
    have HC8:Hid (HoldsC w8 (.slice a4 0 c4') (cs.drop (p+mm))):=Hid.mk (Hc2.out w8 (hkC.out w8 kk8))
    clear ho8 hf8 hU8 kk8 hN8 hM8 HI' Hrep
    go_wp2_with (at_builtin;refine wpList_append_run 112 _ _ rfl rfl _ _ rfl rfl _ _ hrun8 ?_)
    go_roundw
    case rel=>exact ⟨j+1,p+mm,0,M',vr',dl',a4,c4',by go_num,by omega,rfl,Hm4,by omega,HI2,HC8.out,Ho2,Hall.out⟩
    case measure=>simp [intOf];omega
  ·obtain rfl:j=N:=by omega
   have hdone:=HI.out
   rw [←HNN.out] at hdone
   have hd2:=hdone.done
   rw [←Hitn.out] at hd2
   have Hall:=Hid.mk (And.intro ho (And.intro hf (And.intro hUr (And.intro kk (And.intro hNr (And.intro (fun x hx=>(hM.out x hx).mono fun b hb=>⟨hb.1,fun t ht e=>hb.2 t (by simp at ht;simp [ht]) e⟩:IsNs wr (Fw F w [vr]) ρ M) (And.intro hdone.wf hd2)))))))
   clear ho hf hUr kk hNr hM HI hC2 r4w r4 hdone hd2 hC
   go_wp2
   go_ret
   exact ⟨_,vr,dl,M,rfl,Hall.out⟩
end
end Go.Proofs.YtgpbhlfdlkemjaaGreat
