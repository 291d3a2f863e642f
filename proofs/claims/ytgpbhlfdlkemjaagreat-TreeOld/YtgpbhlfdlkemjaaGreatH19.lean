import Derived.Lib.AppendZeros
import Derived.Test.YtgpbhlfdlkemjaaGreatH18
/-
 filled.
-/
namespace Go.Proofs.YtgpbhlfdlkemjaaGreat
open Go.RowKit
set_option linter.unusedVariables false
def Sized (l:List Itm):Prop:=∀i∈l,1≤i.key.length∧i.key.length≤64∧i.val.length≤20000
theorem isz_le {i:Itm} (h:i.key.length≤64∧i.val.length≤20000):isz i≤236:=by unfold isz;split<;>omega
section
variable {w:World}{F:Nat→Prop}{ρ:Rho}
set_option maxRecDepth 100000 in
set_option maxHeartbeats 1000000 in
theorem filled_br {k:Nat}{n:Tr (k+1)} (h:IsN w F ρ n) (hl:n.2.length≤1000000):Calls Tryz.prog 123 #[Pp n.1] w fun e w'=>e=.returned (.int .i64 ((n.2.length*10:Nat):Int))∧∃q,w'=w.drewN q:=by
 obtain ⟨aI,cI,aU,cU,c2,c3,c4,r3,r4⟩:=h.br
 generalize n.2.length=N at *
 generalize n.1=A at *
 clear h r3 r4
 go_enter Tryz.func123,Tryz.ntmps123
 go_wp2_with fail
 go_loopw [3,17] (fun v i wr=>v=.int .i64 ((N*10:Nat):Int)∧i=.int .i64 0∧w=wr) (fun _ _ _=>0)
 case atStart=>exact ⟨by go_num,rfl,rfl⟩
 case round =>
  obtain ⟨rfl,rfl,rfl⟩:=hrel
  go_wp2
  go_ret
  exact ⟨rfl,0,rfl⟩
set_option maxRecDepth 100000 in
set_option maxHeartbeats 1000000 in
theorem filled_lf {n:Tr 0} (h:IsN w F ρ n) (hl:n.2.length≤100000) (hs:Sized n.2):Calls Tryz.prog 123 #[Pp n.1] w fun e w'=>e=.returned (.int .i64 ((fil n:Nat):Int))∧∃q,w'=w.drewN q:=by
 obtain ⟨aI,cI,aU,cU,c2,c3,c4,r3,r4⟩:=h.lf
 have hI:=Hid.mk h.2
 obtain ⟨S,hS⟩:∃S:Nat→Nat,Hid (∀j,S j=((n.2.take j).map isz).sum):=⟨fun j=>((n.2.take j).map isz).sum,Hid.mk fun _=>rfl⟩
 have HS0:Hid (S 0=0):=Hid.mk (by rw [hS.out];rfl)
 have HSb:Hid (∀j,j≤n.2.length→S j≤23600000):=Hid.mk fun j hj=>by rw [hS.out];exact sum_take_le (b:=236) (fun x hx=>isz_le (hs x hx).2) hj hl (by omega)
 have HSs:Hid (∀j x,n.2[j]?=some x→S (j+1)=S j+isz x):=Hid.mk fun j x hx=>by rw [hS.out,hS.out];exact sum_take_succ hx
 have HSe:Hid (S n.2.length=fil n):=Hid.mk (by rw [hS.out,List.take_length];rfl)
 have HN:Hid (n.2.length=n.2.length):=Hid.mk rfl
 have hsz:=Hid.mk hs
 clear h hs r4
 generalize hN:n.2.length=N at *
 have HNN:=Hid.mk hN
 clear hN HN
 generalize n.1=A at *
 go_enter Tryz.func123,Tryz.ntmps123
 go_wp2_with fail
 go_loopw [3,17] (fun v i wr=>∃j:Nat,i=.int .i64 (j:Int)∧j≤N∧v=.int .i64 (S j:Int)∧Hid (∃q,wr=w.drewN q)∧Kept [] w wr) (fun _ i _=>N-(intOf i).toNat)
 case atStart=>exact ⟨0,rfl,by omega,by rw [HS0.out];rfl,Hid.mk ⟨0,rfl⟩,Kept.refl [] w⟩
 case round =>
  obtain ⟨j,rfl,hj,rfl,HQ,k⟩:=hrel
  have hrr:=r3.kept k (by simp)
  have hb:=HSb.out j hj
  by_cases hlt:j<N
  ·obtain ⟨x,hx⟩:∃x,n.2[j]?=some x:=⟨_,List.getElem?_eq_getElem (by have:=HNN.out;omega)⟩
   obtain ⟨b,o,c',e,hcell⟩:=hrr.at j x.ad (by rw [List.getElem?_map,hx];rfl)
   rw [List.length_map,HNN.out] at e
   injection e with e _ e2
   subst e e2
   have hm:=List.mem_of_getElem? hx
   have hss:=item_size ((hI.out x hm).kept k (by simp)) (by have:=(hsz.out x hm).2.1;omega) (by have:=(hsz.out x hm).2.2;omega)
   have hsx:=isz_le (hsz.out x hm).2
   have HN:=Hid.mk (HSs.out j x hx)
   generalize isz x=sx at hss hsx HN
   generalize x.ad=xa at hss hcell
   clear hx hm r3 hrr
   go_wp2_with fail
   refine hss.mono ?_
   rintro e w' ⟨rfl,q,rfl⟩
   go_wp2
   go_roundw
   case rel=>exact ⟨j+1,by go_num,by omega,by rw [HN.out];go_num,Hid.mk (by obtain ⟨q0,e⟩:=HQ.out;exact ⟨q0+q,by rw [e,World.drewN_drewN]⟩),k.drewN q⟩
   case measure=>simp [intOf];omega
  ·obtain rfl:j=N:=by omega
   go_wp2
   go_ret
   refine ⟨?_,HQ.out⟩
   rw [HSe.out]
   rfl
theorem filled_any {k:Nat}{n:Tr k} (h:IsN w F ρ n) (hw:Wf n) (hs:Sized (its n)):Calls Tryz.prog 123 #[Pp (adr n)] w fun e w'=>e=.returned (.int .i64 ((fil n:Nat):Int))∧∃q,w'=w.drewN q:=by
 cases k with
 | zero=>exact filled_lf h (by have h1:=len_le_sum n.2;have h2:(n.2.map isz).sum≤236:=hw.2;omega) hs
 | succ k=>exact filled_br h (by have:=hw.2.1;omega)
end
end Go.Proofs.YtgpbhlfdlkemjaaGreat
namespace Go.Proofs.YtgpbhlfdlkemjaaGreat
set_option linter.unusedVariables false
structure Jn {k:Nat} (ls ns:List (Tr k)):Prop where
 wf:∀m∈ns,Wf m
 apart:Apart fil ns
 flat:ns.flatMap its=ls.flatMap its
 le:ns.length≤ls.length
 ge:ls≠[]→nf fil ls+1≤ns.length
structure JInv (ρ:Rho) {k:Nat} (ls M:List (Tr k)) (j:Nat) (dl:List Nat):Prop where
 wf:∀m∈M,Wf m
 apart:Apart fil M
 flat:M.flatMap its=(ls.take j).flatMap its
 le:M.length≤j
 ge:0<j→nf fil (ls.take j)+1≤M.length
 last:∀A x,ls.take j=A++[x]→∃B y,M=B++[y]∧fil x≤fil y
 names:((ls.take j).flatMap (nms ρ)).Perm (M.flatMap (nms ρ)++dl)
structure Mg (ρ:Rho) {k:Nat} (y n z:Tr k) (d:List Nat):Prop where
 wf:Wf z
 its:its z=its y++its n
 fy:fil y≤fil z
 fn:fil n≤fil z
 names:(nms ρ y++nms ρ n).Perm (nms ρ z++d)
section
variable {ρ:Rho}{k:Nat}{ls M:List (Tr k)}{j:Nat}{dl:List Nat}{n:Tr k}
theorem JInv.start:JInv ρ ls [] 0 []:=⟨by simp,Apart.nil,by simp,by simp,by omega,fun A x h=>by simp at h,by simp⟩
theorem tsnoc {α:Type}{l:List α}{j:Nat}{x:α} (hx:l[j]?=some x):l.take (j+1)=l.take j++[x]:=by rw [List.take_add_one,hx];rfl
theorem split_last {α:Type}{l:List α} (h:l≠[]):∃A x,l=A++[x]:=by
 rcases List.eq_nil_or_concat l with e|⟨A,x,e⟩
 ·exact absurd e h
 ·exact ⟨A,x,by rw [e,List.concat_eq_append]⟩
theorem JInv.push (h:JInv ρ ls M j dl) (hx:ls[j]?=some n) (hw:Wf n) (hM:M=[]∨∃B y,M=B++[y]∧236<fil y+fil n):JInv ρ ls (M++[n]) (j+1) dl:=by
 have hjl:=(List.getElem?_eq_some_iff.1 hx).1
 refine ⟨fun m hm=>?_,?_,?_,?_,fun _=>?_,fun A x he=>?_,?_⟩
 ·rcases List.mem_append.1 hm with hm|hm
  ·exact h.wf m hm
  ·simp at hm;subst hm;exact hw
 ·rcases hM with rfl|⟨B,y,rfl,hf⟩
  ·exact Apart.one
  ·exact h.apart.snoc hf
 ·rw [tsnoc hx,List.flatMap_append,List.flatMap_append,h.flat]
 ·have:=h.le;simp;omega
 ·rw [tsnoc hx,List.length_append]
  by_cases hj:j=0
  ·subst hj;simp [nf]
  ·obtain ⟨A,x,e⟩:=split_last (l:=ls.take j) (by intro e;have:=congrArg List.length e;rw [List.length_take,List.length_nil] at this;omega)
   have hg:=h.ge (by omega)
   rw [e,nf_snoc]
   rw [e] at hg
   simp only [List.length_cons,List.length_nil]
   split<;>omega
 ·rw [tsnoc hx] at he
  have:=List.append_inj' he rfl
  simp at this
  exact ⟨M,n,rfl,by rw [this.2];exact Nat.le_refl _⟩
 ·rw [tsnoc hx,List.flatMap_append,List.flatMap_append]
  refine (h.names.append_right _).trans ?_
  rw [List.append_assoc,List.append_assoc]
  exact List.perm_append_comm.append_left _
theorem JInv.merge {B:List (Tr k)}{y z:Tr k}{d:List Nat} (h:JInv ρ ls (B++[y]) j dl) (hx:ls[j]?=some n) (hf:fil y+fil n≤236) (hm:Mg ρ y n z d):JInv ρ ls (B++[z]) (j+1) (dl++d):=by
 have hj:0<j:=by have:=h.le;simp at this;omega
 have hjl:=(List.getElem?_eq_some_iff.1 hx).1
 obtain ⟨A,x,e⟩:=split_last (l:=ls.take j) (by intro e;have:=congrArg List.length e;rw [List.length_take,List.length_nil] at this;omega)
 obtain ⟨B',y',e2,hxy⟩:=h.last A x e
 have e3:=List.append_inj' e2 rfl
 simp at e3
 obtain ⟨rfl,rfl⟩:=e3
 refine ⟨fun m hm'=>?_,h.apart.grow hm.fy,?_,?_,fun _=>?_,fun A' x' he=>?_,?_⟩
 ·rcases List.mem_append.1 hm' with h1|h1
  ·exact h.wf m (by simp [h1])
  ·simp at h1;subst h1;exact hm.wf
 ·rw [tsnoc hx,List.flatMap_append,List.flatMap_append,←h.flat,List.flatMap_append]
  simp [hm.its]
 ·have:=h.le;simp at this ⊢;omega
 ·have hg:=h.ge hj
  rw [tsnoc hx,e,nf_snoc,if_neg (by omega)]
  rw [e] at hg
  simp at hg ⊢
  omega
 ·rw [tsnoc hx] at he
  have:=List.append_inj' he rfl
  simp at this
  exact ⟨B,z,rfl,by rw [←this.2];exact hm.fn⟩
 ·rw [tsnoc hx,List.flatMap_append,List.flatMap_append]
  refine (h.names.append_right _).trans ?_
  rw [List.flatMap_append]
  simp only [List.flatMap_cons,List.flatMap_nil,List.append_nil]
  generalize B.flatMap (nms ρ)=b
  have h1:(nms ρ y++dl++nms ρ n).Perm (nms ρ z++(dl++d)):=by
   have a1:(nms ρ y++dl++nms ρ n).Perm (nms ρ y++nms ρ n++dl):=by
    rw [List.append_assoc,List.append_assoc]
    exact List.perm_append_comm.append_left _
   have a2:(nms ρ y++nms ρ n++dl).Perm (nms ρ z++d++dl):=hm.names.append_right _
   have a3:(nms ρ z++d++dl).Perm (nms ρ z++(dl++d)):=by
    rw [List.append_assoc]
    exact List.perm_append_comm.append_left _
   exact a1.trans (a2.trans a3)
  have:=h1.append_left b
  simpa [List.append_assoc] using this
theorem JInv.done (h:JInv ρ ls M ls.length dl):Jn ls M∧(ls.flatMap (nms ρ)).Perm (M.flatMap (nms ρ)++dl):=by
 have e:ls.take ls.length=ls:=List.take_length
 refine ⟨⟨h.wf,h.apart,?_,h.le,fun hne=>?_⟩,?_⟩
 ·have:=h.flat;rwa [e] at this
 ·have:=h.ge (List.length_pos_iff.2 hne);rwa [e] at this
 ·have:=h.names;rwa [e] at this
end
theorem mg_leaf {ρ:Rho}{y n:Tr 0} (hy:Wf y) (hf:fil y+fil n≤236) (a:Nat) (ha:ρ a=(0,0)):Mg ρ (k:=0) y n (a,y.2++n.2) (pn ρ y.1++pn ρ n.1):=by
 have e:fil (k:=0) (a,y.2++n.2)=fil y+fil n:=by show ((y.2++n.2).map isz).sum=(y.2.map isz).sum+(n.2.map isz).sum;rw [List.map_append,List.sum_append]
 refine ⟨⟨fun h=>hy.1 (List.append_eq_nil_iff.1 h).1,by rw [e];exact hf⟩,rfl,by rw [e];omega,by rw [e];omega,?_⟩
 show ((y.2.flatMap fun i=>pn ρ i.ad)++pn ρ y.1++((n.2.flatMap fun i=>pn ρ i.ad)++pn ρ n.1)).Perm (((y.2++n.2).flatMap fun i=>pn ρ i.ad)++pn ρ a++(pn ρ y.1++pn ρ n.1))
 rw [pn_blank ha,List.flatMap_append,List.append_nil]
 generalize (y.2.flatMap fun i=>pn ρ i.ad)=A
 generalize (n.2.flatMap fun i=>pn ρ i.ad)=B
 generalize pn ρ y.1=C
 generalize pn ρ n.1=D
 have:(C++(B++D)).Perm (B++(C++D)):=by
  rw [←List.append_assoc,←List.append_assoc]
  exact List.perm_append_comm.append_right D
 simpa [List.append_assoc] using this.append_left A
theorem mg_branch {ρ:Rho}{k:Nat}{y n:Tr (k+1)} (hy:Wf y) (hn:Wf n) (hf:fil y+fil n≤236) (ns:List (Tr k)) (hj:Jn (y.2++n.2) ns) (d:List Nat) (hd:((y.2++n.2).flatMap (nms ρ)).Perm (ns.flatMap (nms ρ)++d)) (a:Nat) (ha:ρ a=(0,0)):Mg ρ (k:=k+1) y n (a,ns) (pn ρ y.1++pn ρ n.1++d):=by
 have hfy:y.2.length*10+n.2.length*10≤236:=hf
 have h1:=List.length_pos_iff.2 hy.1
 have h2:=List.length_pos_iff.2 hn.1
 have hge:=hj.ge (fun e=>hy.1 (List.append_eq_nil_iff.1 e).1)
 have hnf:=nf_join fil y.2 n.2 hy.2.2.2 hn.2.2.2
 have hle:=hj.le
 rw [List.length_append] at hle
 refine ⟨⟨fun e=>?_,?_,hj.wf,hj.apart⟩,?_,?_,?_,?_⟩
 ·have e1:ns=[]:=e
  rw [e1] at hge;simp at hge
 ·show ns.length≤23;omega
 ·show ns.flatMap its=y.2.flatMap its++n.2.flatMap its
  rw [hj.flat,List.flatMap_append]
 ·show y.2.length*10≤ns.length*10;omega
 ·show n.2.length*10≤ns.length*10;omega
 ·show (y.2.flatMap (nms ρ)++pn ρ y.1++(n.2.flatMap (nms ρ)++pn ρ n.1)).Perm (ns.flatMap (nms ρ)++pn ρ a++(pn ρ y.1++pn ρ n.1++d))
  rw [pn_blank ha,List.append_nil]
  rw [List.flatMap_append] at hd
  generalize y.2.flatMap (nms ρ)=A at *
  generalize n.2.flatMap (nms ρ)=B at *
  generalize ns.flatMap (nms ρ)=N at *
  generalize pn ρ y.1=C
  generalize pn ρ n.1=D
  have a1:(A++C++(B++D)).Perm (A++B++(C++D)):=by
   have:(C++(B++D)).Perm (B++(C++D)):=by
    rw [←List.append_assoc,←List.append_assoc]
    exact List.perm_append_comm.append_right D
   simpa [List.append_assoc] using this.append_left A
  have a2:(A++B++(C++D)).Perm (N++d++(C++D)):=hd.append_right _
  have a3:(N++d++(C++D)).Perm (N++(C++D++d)):=by
   rw [List.append_assoc]
   exact List.perm_append_comm.append_left _
  exact a1.trans (a2.trans a3)
end Go.Proofs.YtgpbhlfdlkemjaaGreat
namespace Go.Proofs.YtgpbhlfdlkemjaaGreat
open Go.RowKit
set_option linter.unusedVariables false
def Lsts (w:World) (Ls:List (Value × List Nat)):Prop:=∀x∈Ls,ReadsP w x.1 x.2∧x.1.oneCell'=true
def lens (Ls:List (Value × List Nat)):Nat:=(Ls.map fun x=>x.2.length).sum
def cats (Ls:List (Value × List Nat)):List Nat:=Ls.flatMap fun x=>x.2
theorem lens_cats (Ls:List (Value × List Nat)):(cats Ls).length=lens Ls:=by simp [cats,lens,List.length_flatMap]
theorem lens_take_succ {Ls:List (Value × List Nat)}{j:Nat}{x:Value × List Nat} (hx:Ls[j]?=some x):lens (Ls.take (j+1))=lens (Ls.take j)+x.2.length:=by
 unfold lens
 rw [List.take_add_one,hx]
 simp
theorem cats_take_succ {Ls:List (Value × List Nat)}{j:Nat}{x:Value × List Nat} (hx:Ls[j]?=some x):cats (Ls.take (j+1))=cats (Ls.take j)++x.2:=by
 unfold cats
 rw [List.take_add_one,hx]
 simp
theorem lens_take_le (Ls:List (Value × List Nat)) (j:Nat):lens (Ls.take j)≤lens Ls:=by
 have:lens Ls=lens (Ls.take j)+lens (Ls.drop j):=by
  unfold lens
  rw [←List.sum_append,←List.map_append,List.take_append_drop]
 omega
set_option maxRecDepth 100000 in
set_option maxHeartbeats 1000000 in
theorem growI_any (w:World) (n:Nat) (hn:n≤1000000):Calls Tryz.prog 150 #[.slice none 0 0,.int .i64 (n:Int)] w fun e w'=>∃v,e=.returned v∧OwnsP 100 w' v []∧Fresh w v∧Kept [] w w':=by
 by_cases h0:n=0
 ·subst h0
  go_enter Tryz.func150,Tryz.ntmps150
  go_wp2
  go_ret
  exact ⟨_,rfl,OwnsP.nil _ _,fun g hg=>by simp [Value.ownBlock] at hg,Kept.refl [] w⟩
 ·obtain ⟨i0,hi,hz0,hz1,hz2⟩:=info_parts rt111.info
  have hrun:=Lib.run_append_nil_zeros (P:=Tryz.prog) w 111 3 111 100 i0 (.pointer none) .i64 .i64 rt111.under Tryz.underlying3 hi hz0 n (by omega) (by rw [hz1];omega) (by omega) (by rw [hz2];omega)
  have hge:=grownCap_ge w n 0 100
  have hle:=grownCap_le_maxLen w n 0 100 (by unfold maxLen;omega)
  generalize grownCap w n 0 100=cp at hrun hge hle
  have hpos:0<n:=by omega
  obtain ⟨w1,hw1⟩:∃w1,w1=w.drew.alloc (.cells (Builtin.zeroCells (Value.pointer none).cells n++Builtin.zeroCells (Value.pointer none).cells (cp-n)) 100):=⟨_,rfl⟩
  have ho:OwnsP 100 w1 (.slice (some ⟨w.heap.size,0,none⟩) 0 cp) []:=by
   rw [hw1]
   refine World.ownsRow_made (base:=0) (e:=100) (size:=1) w.drew _ cp (Nat.zero_le _) hle ?_
   simp [Builtin.zeroCells,Value.cells]
   omega
  have kk:Kept [] w w1:=by rw [hw1];exact (Kept.refl [] w).drew.alloc _
  rw [←hw1] at hrun
  have Hf:=Hid.mk (And.intro ho (And.intro (fun g hg=>by simp [Value.ownBlock] at hg;omega:Fresh w (.slice (some ⟨w.heap.size,0,none⟩) 0 cp)) kk))
  unfold maxLen at hle
  clear hw1 ho kk h0
  have hs1:=fun W=>run_cutH rt111 W none 0 0 0 (Nat.le_refl 0)
  have hs2:=fun W=>run_cutH rt111 W (some ⟨w.heap.size,0,none⟩) n cp 0 (Nat.zero_le _)
  have e1:cutA none 0 0 1=none:=rfl
  have e2:cutA (some ⟨w.heap.size,0,none⟩) cp 0 1=some ⟨w.heap.size,0,none⟩:=by unfold cutA;split<;>rfl
  rw [e1] at hs1
  rw [e2] at hs2
  clear e1 e2
  go_enter Tryz.func150,Tryz.ntmps150
  go_wp2_with (at_builtin;refine Lib.wpList_append_run _ rfl _ _ 111 3 rfl _ _ rfl rfl _ _ hrun ?_)
  go_ret
  exact ⟨_,rfl,Hf.out⟩
section
variable {w:World}
set_option maxRecDepth 100000 in
set_option maxHeartbeats 2000000 in
theorem concatI_any (a:Option Addr) (m c:Nat) (Ls:List (Value × List Nat)) (hm:Hid (m=Ls.length)) (hrow:ReadsR 1 w (.slice a m c) (Ls.map fun x=>[x.1])) (hL:Hid (Lsts w Ls)) (hml:m≤100000) (hb:Hid (lens Ls≤900000)) :
  Calls Tryz.prog 124 #[.slice a m c] w fun e w'=>∃v,e=.returned v∧OwnsP 100 w' v (cats Ls)∧Fresh w v∧Kept [] w w':=by
 obtain ⟨S,hS⟩:∃S:Nat→Nat,Hid (∀j,S j=lens (Ls.take j)):=⟨fun j=>lens (Ls.take j),Hid.mk fun _=>rfl⟩
 have HS0:Hid (S 0=0):=Hid.mk (by rw [hS.out];rfl)
 have HSb:Hid (∀j,S j≤900000):=Hid.mk fun j=>by rw [hS.out];exact Nat.le_trans (lens_take_le _ _) hb.out
 have HSs:Hid (∀j x,Ls[j]?=some x→S (j+1)=S j+x.2.length):=Hid.mk fun j x hx=>by rw [hS.out,hS.out];exact lens_take_succ hx
 go_enter Tryz.func124,Tryz.ntmps124
 go_wp2_with fail
 go_loopw [3,11] (fun v i wr=>∃j:Nat,i=.int .i64 (j:Int)∧j≤m∧v=.int .i64 (S j:Int)∧w=wr) (fun _ i _=>m-(intOf i).toNat)
 case atStart=>exact ⟨0,rfl,by omega,by rw [HS0.out];rfl,rfl⟩
 case round =>
  obtain ⟨j,rfl,hj,rfl,rfl⟩:=hrel
  have hbj:=HSb.out j
  by_cases hlt:j<m
  ·obtain ⟨x,hx⟩:∃x,Ls[j]?=some x:=⟨_,List.getElem?_eq_getElem (by have:=hm.out;omega)⟩
   obtain ⟨b,o,c',e,hcc⟩:=hrow.at j [x.1] (by rw [List.getElem?_map,hx];rfl)
   rw [List.length_map,←hm.out] at e
   injection e with e _ e2
   subst e e2
   have hcell:=hcc 0 x.1 rfl
   rw [Nat.mul_one,Nat.add_zero] at hcell
   obtain ⟨ax,cx,hfx,-⟩:=(hL.out x (List.mem_of_getElem? hx)).1.form
   rw [hfx] at hcell
   have HN:=Hid.mk (HSs.out j x hx)
   have hbn:=HSb.out (j+1)
   generalize x.2.length=xl at HN hcell
   have hxb:S j+xl≤900000:=by rw [←HN.out];exact hbn
   clear hx hcc hfx hrow hbn
   go_wp2
   go_roundw
   case rel=>exact ⟨j+1,by go_num,by omega,by rw [HN.out];go_num,trivial⟩
   case measure=>simp [intOf];omega
  ·obtain rfl:j=m:=by omega
   have hg:=growI_any w (S j) (by omega)
   generalize S j=tot at hg hbj
   clear HS0 HSb HSs hlt
   go_wp2_with fail
   refine hg.mono ?_
   rintro e w1 ⟨v1,rfl,ho1,hf1,k1⟩
   clear hg
   go_wp2_with fail
   go_loopw [6,27] (fun u i wr=>∃p:Nat,i=.int .i64 (p:Int)∧p≤j∧OwnsP 100 wr u (cats (Ls.take p))∧Fresh w u∧Kept [] w wr) (fun _ i _=>j-(intOf i).toNat)
   case atStart=>exact ⟨0,rfl,by omega,ho1,hf1,k1⟩
   case round =>
    clear ho1 hf1 k1
    obtain ⟨p,rfl,hp,ho,hf,k⟩:=hrel
    by_cases hlt:p<j
    ·obtain ⟨x,hx⟩:∃x,Ls[p]?=some x:=⟨_,List.getElem?_eq_getElem (by have:=hm.out;omega)⟩
     obtain ⟨b,o,c',e,hcc⟩:=(hrow.kept k (by simp)).at p [x.1] (by rw [List.getElem?_map,hx];rfl)
     rw [List.length_map,←hm.out] at e
     injection e with e _ e2
     subst e e2
     have hcell:=hcc 0 x.1 rfl
     rw [Nat.mul_one,Nat.add_zero] at hcell
     have hxr:=(hL.out x (List.mem_of_getElem? hx)).1
     have hl1:(cats (Ls.take p)).length+x.2.length≤900000:=by
      rw [lens_cats,←lens_take_succ hx]
      exact Nat.le_trans (lens_take_le _ _) hb.out
     obtain ⟨ad,c4,w4,hrun,ho4,k4,hN4⟩:=run_appendP rt111 wr 111 u6 (cats (Ls.take p)) ho x.1 x.2 (hxr.kept k (by simp)) (by omega)
     rw [←cats_take_succ hx] at ho4
     have Hall:=Hid.mk (And.intro ho4 (And.intro (fun g hg=>by
      rcases hN4 g hg with h|h
      ·exact hf g h
      ·exact Nat.le_trans k.size h:Fresh w (.slice ad ((cats (Ls.take p)).length+x.2.length) c4)) (k.trans k4 (fun y hy=>.inr (hf y (by simpa using hy))):Kept [] w w4)))
     generalize (cats (Ls.take p)).length+x.2.length=tl at *
     obtain ⟨ax,cx,hfx,-⟩:=hxr.form
     rw [hfx] at hcell hrun
     clear ho4 k4 hN4 ho hf k hx hcc hxr hrow hfx
     generalize x.2.length=xl at *
     go_wp2_with (at_builtin;refine wpList_append_run 111 _ _ rfl rfl _ _ rfl rfl _ _ hrun ?_)
     go_roundw
     case rel=>exact ⟨p+1,by go_num,by omega,Hall.out⟩
     case measure=>simp [intOf];omega
    ·obtain rfl:p=j:=by omega
     rw [List.take_of_length_le (by have:=hm.out;omega)] at ho
     have Hall:=Hid.mk (And.intro ho (And.intro hf k))
     clear ho hf k
     go_wp2
     go_ret
     exact ⟨_,rfl,Hall.out⟩
end
set_option maxRecDepth 100000 in
set_option maxHeartbeats 1000000 in
theorem growN_any (w:World) (n:Nat) (hn:n≤1000000):Calls Tryz.prog 151 #[.slice none 0 0,.int .i64 (n:Int)] w fun e w'=>∃v,e=.returned v∧OwnsP 77 w' v []∧Fresh w v∧Kept [] w w':=by
 by_cases h0:n=0
 ·subst h0
  go_enter Tryz.func151,Tryz.ntmps151
  go_wp2
  go_ret
  exact ⟨_,rfl,OwnsP.nil _ _,fun g hg=>by simp [Value.ownBlock] at hg,Kept.refl [] w⟩
 ·obtain ⟨i0,hi,hz0,hz1,hz2⟩:=info_parts rt112.info
  have hrun:=Lib.run_append_nil_zeros (P:=Tryz.prog) w 112 3 112 77 i0 (.pointer none) .i64 .i64 rt112.under Tryz.underlying3 hi hz0 n (by omega) (by rw [hz1];omega) (by omega) (by rw [hz2];omega)
  have hge:=grownCap_ge w n 0 77
  have hle:=grownCap_le_maxLen w n 0 77 (by unfold maxLen;omega)
  generalize grownCap w n 0 77=cp at hrun hge hle
  have hpos:0<n:=by omega
  obtain ⟨w1,hw1⟩:∃w1,w1=w.drew.alloc (.cells (Builtin.zeroCells (Value.pointer none).cells n++Builtin.zeroCells (Value.pointer none).cells (cp-n)) 77):=⟨_,rfl⟩
  have ho:OwnsP 77 w1 (.slice (some ⟨w.heap.size,0,none⟩) 0 cp) []:=by
   rw [hw1]
   refine World.ownsRow_made (base:=0) (e:=77) (size:=1) w.drew _ cp (Nat.zero_le _) hle ?_
   simp [Builtin.zeroCells,Value.cells]
   omega
  have kk:Kept [] w w1:=by rw [hw1];exact (Kept.refl [] w).drew.alloc _
  rw [←hw1] at hrun
  have Hf:=Hid.mk (And.intro ho (And.intro (fun g hg=>by simp [Value.ownBlock] at hg;omega:Fresh w (.slice (some ⟨w.heap.size,0,none⟩) 0 cp)) kk))
  unfold maxLen at hle
  clear hw1 ho kk h0
  have hs1:=fun W=>run_cutH rt112 W none 0 0 0 (Nat.le_refl 0)
  have hs2:=fun W=>run_cutH rt112 W (some ⟨w.heap.size,0,none⟩) n cp 0 (Nat.zero_le _)
  have e1:cutA none 0 0 1=none:=rfl
  have e2:cutA (some ⟨w.heap.size,0,none⟩) cp 0 1=some ⟨w.heap.size,0,none⟩:=by unfold cutA;split<;>rfl
  rw [e1] at hs1
  rw [e2] at hs2
  clear e1 e2
  go_enter Tryz.func151,Tryz.ntmps151
  go_wp2_with (at_builtin;refine Lib.wpList_append_run _ rfl _ _ 112 3 rfl _ _ rfl rfl _ _ hrun ?_)
  go_ret
  exact ⟨_,rfl,Hf.out⟩
section
variable {w:World}
set_option maxRecDepth 100000 in
set_option maxHeartbeats 2000000 in
theorem concatN_any (a:Option Addr) (m c:Nat) (Ls:List (Value × List Nat)) (hm:Hid (m=Ls.length)) (hrow:ReadsR 1 w (.slice a m c) (Ls.map fun x=>[x.1])) (hL:Hid (Lsts w Ls)) (hml:m≤100000) (hb:Hid (lens Ls≤900000)) :
  Calls Tryz.prog 125 #[.slice a m c] w fun e w'=>∃v,e=.returned v∧OwnsP 77 w' v (cats Ls)∧Fresh w v∧Kept [] w w':=by
 obtain ⟨S,hS⟩:∃S:Nat→Nat,Hid (∀j,S j=lens (Ls.take j)):=⟨fun j=>lens (Ls.take j),Hid.mk fun _=>rfl⟩
 have HS0:Hid (S 0=0):=Hid.mk (by rw [hS.out];rfl)
 have HSb:Hid (∀j,S j≤900000):=Hid.mk fun j=>by rw [hS.out];exact Nat.le_trans (lens_take_le _ _) hb.out
 have HSs:Hid (∀j x,Ls[j]?=some x→S (j+1)=S j+x.2.length):=Hid.mk fun j x hx=>by rw [hS.out,hS.out];exact lens_take_succ hx
 go_enter Tryz.func125,Tryz.ntmps125
 go_wp2_with fail
 go_loopw [3,11] (fun v i wr=>∃j:Nat,i=.int .i64 (j:Int)∧j≤m∧v=.int .i64 (S j:Int)∧w=wr) (fun _ i _=>m-(intOf i).toNat)
 case atStart=>exact ⟨0,rfl,by omega,by rw [HS0.out];rfl,rfl⟩
 case round =>
  obtain ⟨j,rfl,hj,rfl,rfl⟩:=hrel
  have hbj:=HSb.out j
  by_cases hlt:j<m
  ·obtain ⟨x,hx⟩:∃x,Ls[j]?=some x:=⟨_,List.getElem?_eq_getElem (by have:=hm.out;omega)⟩
   obtain ⟨b,o,c',e,hcc⟩:=hrow.at j [x.1] (by rw [List.getElem?_map,hx];rfl)
   rw [List.length_map,←hm.out] at e
   injection e with e _ e2
   subst e e2
   have hcell:=hcc 0 x.1 rfl
   rw [Nat.mul_one,Nat.add_zero] at hcell
   obtain ⟨ax,cx,hfx,-⟩:=(hL.out x (List.mem_of_getElem? hx)).1.form
   rw [hfx] at hcell
   have HN:=Hid.mk (HSs.out j x hx)
   have hbn:=HSb.out (j+1)
   generalize x.2.length=xl at HN hcell
   have hxb:S j+xl≤900000:=by rw [←HN.out];exact hbn
   clear hx hcc hfx hrow hbn
   go_wp2
   go_roundw
   case rel=>exact ⟨j+1,by go_num,by omega,by rw [HN.out];go_num,trivial⟩
   case measure=>simp [intOf];omega
  ·obtain rfl:j=m:=by omega
   have hg:=growN_any w (S j) (by omega)
   generalize S j=tot at hg hbj
   clear HS0 HSb HSs hlt
   go_wp2_with fail
   refine hg.mono ?_
   rintro e w1 ⟨v1,rfl,ho1,hf1,k1⟩
   clear hg
   go_wp2_with fail
   go_loopw [6,27] (fun u i wr=>∃p:Nat,i=.int .i64 (p:Int)∧p≤j∧OwnsP 77 wr u (cats (Ls.take p))∧Fresh w u∧Kept [] w wr) (fun _ i _=>j-(intOf i).toNat)
   case atStart=>exact ⟨0,rfl,by omega,ho1,hf1,k1⟩
   case round =>
    clear ho1 hf1 k1
    obtain ⟨p,rfl,hp,ho,hf,k⟩:=hrel
    by_cases hlt:p<j
    ·obtain ⟨x,hx⟩:∃x,Ls[p]?=some x:=⟨_,List.getElem?_eq_getElem (by have:=hm.out;omega)⟩
     obtain ⟨b,o,c',e,hcc⟩:=(hrow.kept k (by simp)).at p [x.1] (by rw [List.getElem?_map,hx];rfl)
     rw [List.length_map,←hm.out] at e
     injection e with e _ e2
     subst e e2
     have hcell:=hcc 0 x.1 rfl
     rw [Nat.mul_one,Nat.add_zero] at hcell
     have hxr:=(hL.out x (List.mem_of_getElem? hx)).1
     have hl1:(cats (Ls.take p)).length+x.2.length≤900000:=by
      rw [lens_cats,←lens_take_succ hx]
      exact Nat.le_trans (lens_take_le _ _) hb.out
     obtain ⟨ad,c4,w4,hrun,ho4,k4,hN4⟩:=run_appendP rt112 wr 112 u6 (cats (Ls.take p)) ho x.1 x.2 (hxr.kept k (by simp)) (by omega)
     rw [←cats_take_succ hx] at ho4
     have Hall:=Hid.mk (And.intro ho4 (And.intro (fun g hg=>by
      rcases hN4 g hg with h|h
      ·exact hf g h
      ·exact Nat.le_trans k.size h:Fresh w (.slice ad ((cats (Ls.take p)).length+x.2.length) c4)) (k.trans k4 (fun y hy=>.inr (hf y (by simpa using hy))):Kept [] w w4)))
     generalize (cats (Ls.take p)).length+x.2.length=tl at *
     obtain ⟨ax,cx,hfx,-⟩:=hxr.form
     rw [hfx] at hcell hrun
     clear ho4 k4 hN4 ho hf k hx hcc hxr hrow hfx
     generalize x.2.length=xl at *
     go_wp2_with (at_builtin;refine wpList_append_run 112 _ _ rfl rfl _ _ rfl rfl _ _ hrun ?_)
     go_roundw
     case rel=>exact ⟨p+1,by go_num,by omega,Hall.out⟩
     case measure=>simp [intOf];omega
    ·obtain rfl:p=j:=by omega
     rw [List.take_of_length_le (by have:=hm.out;omega)] at ho
     have Hall:=Hid.mk (And.intro ho (And.intro hf k))
     clear ho hf k
     go_wp2
     go_ret
     exact ⟨_,rfl,Hall.out⟩
end
end Go.Proofs.YtgpbhlfdlkemjaaGreat
