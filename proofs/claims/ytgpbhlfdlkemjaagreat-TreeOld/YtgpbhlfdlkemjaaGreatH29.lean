import Derived.Test.YtgpbhlfdlkemjaaGreatH15
import Derived.Test.YtgpbhlfdlkemjaaGreatH28
/-
 node.text, of a leaf and of any node.
-/
namespace Go.Proofs.YtgpbhlfdlkemjaaGreat
open Go.RowKit
set_option linter.unusedVariables false
theorem encItem_le {ρ:Rho} (i:Itm):(encItem ρ i).length≤isz i:=by
 unfold encItem isz lng
 by_cases h:236<3+i.key.length+i.val.length
 ·rw [if_pos h]
  simp only [h,decide_true,if_true,List.length_append,encRef_length,List.length_take,List.length_cons,List.length_nil]
  omega
 ·rw [if_neg h]
  simp only [h,decide_false,List.length_append,List.length_cons,List.length_nil]
  simp
section
variable {w:World}{F:Nat→Prop}{ρ:Rho}
set_option maxRecDepth 100000 in
set_option maxHeartbeats 2000000 in
theorem nodeText_lf {n:Tr 0} (hN:IsN w F ρ n) (hl:n.2.length≤100000) (hfl:Hid ((n.2.map isz).sum≤236)) (hsz:Hid (Sized n.2)) (hρ:Hid (RhoOk ρ)) (kd:UInt8):Calls Tryz.prog 129 #[Pp n.1,.int .u8 (kd.toNat:Int)] w fun e w'=>∃v',e=.returned v'∧Owns 5 w' v' (encNode kd ρ n)∧Kept [] w w'∧Fresh w v':=by
 obtain ⟨aI,cI,aU,cU,c0,c1,c2,c3,c4,r3,r4,-⟩:=hN.isB.raw
 rw [show adr n=n.1 from rfl] at c0 c1 c2 c3 c4
 have hui:(ua n).length=0:=rfl
 have huu:(ia n).length=n.2.length:=by show (n.2.map Itm.ad).length=_;rw [List.length_map]
 have hua:Hid (ia n=n.2.map Itm.ad):=Hid.mk rfl
 rw [hui] at c4
 rw [huu] at c3 r3
 rw [hua.out] at r3
 have hkk:((0:Nat):Int)=0:=rfl
 rw [hkk] at c2
 have hlb:(0:Int)=((by8 0 0).toNat:Int):=by simp [by8]
 have hlt0:Hid (n.1<w.heap.size):=Hid.mk hN.lt
 have HK:Hid (∀W i,Kept [] w W→W.cell? ⟨n.1,i,none⟩=w.cell? ⟨n.1,i,none⟩):=Hid.mk fun W i kW=>kW.cell hlt0.out (by simp)
 have SW:Hid (∀W,Kept [] w W→W.cell? ⟨n.1,2,none⟩=some (.int .i64 0)):=Hid.mk fun W kW=>by rw [HK.out W 2 kW];exact c2
 have HK3:Hid (∀W,Kept [] w W→W.cell? ⟨n.1,3,none⟩=some (.slice aI n.2.length cI)):=Hid.mk fun W kW=>by rw [HK.out W 3 kW];exact c3
 have HK4:Hid (∀W,Kept [] w W→W.cell? ⟨n.1,4,none⟩=some (.slice aU 0 cU)):=Hid.mk fun W kW=>by rw [HK.out W 4 kW];exact c4
 have HRD:Hid (∀W,Kept [] w W→ReadsP W (.slice aI n.2.length cI) (n.2.map Itm.ad)):=Hid.mk fun W kW=>r3.kept kW (by simp)
 have HU:Hid (∀u∈n.2,∀W,Kept [] w W→IsI W (fun b=>F b∧b<w.heap.size) ρ u):=Hid.mk fun u hu W kW=>((hN.2 u hu).monoS (F':=fun b=>F b∧b<w.heap.size) fun b hb hf=>⟨hf,hb⟩).kept kW (by simp)
 obtain ⟨HrA,HrB⟩:=head_runs w.drew kd (by8 0 0) _ rfl _ rfl
 have hmk:=make238
 obtain ⟨M,HM⟩:∃M,Hid ((C8 (zs 238)).toArray=M):=⟨_,rfl⟩
 rw [HM.out] at HrA HrB hmk
 rw [←hlb] at HrA HrB
 obtain ⟨aA,eA,wA,hrA,pA⟩:=HrA
 obtain ⟨aB,eB,wB,hrB,pB⟩:=HrB
 have HrA:Hid (∃a c w',(∀v y W,v=.slice (some ⟨w.heap.size,0,none⟩) 0 238→y=.slice (some ⟨w.heap.size+1,0,none⟩) 2 2→W=(w.drew.alloc (.cells M 5)).alloc (.cells #[.int .u8 (kd.toNat:Int),.int .u8 ((0:Int))] 5)→(Builtin.append_ #[48,48] 48 #[v,y]).run Tryz.prog W=.ok (.slice a 2 c) w')∧Owns 5 w' (.slice a 2 c) [kd,by8 0 0]∧Kept [] w.drew w'∧Fresh w.drew (.slice a 2 c)):=Hid.mk ⟨aA,eA,wA,fun v y W e1 e2 e3=>by subst e1 e2 e3;exact hrA,pA⟩
 have HrB:Hid (∃a c w',(∀v y W,v=.slice (some ⟨w.heap.size+1,0,none⟩) 0 238→y=.slice (some ⟨w.heap.size,0,none⟩) 2 2→W=(w.drew.alloc (.cells #[.int .u8 (kd.toNat:Int),.int .u8 ((0:Int))] 5)).alloc (.cells M 5)→(Builtin.append_ #[48,48] 48 #[v,y]).run Tryz.prog W=.ok (.slice a 2 c) w')∧Owns 5 w' (.slice a 2 c) [kd,by8 0 0]∧Kept [] w.drew w'∧Fresh w.drew (.slice a 2 c)):=Hid.mk ⟨aB,eB,wB,fun v y W e1 e2 e3=>by subst e1 e2 e3;exact hrB,pB⟩
 clear hrA pA hrB pB
 have kd0:Kept [] w w.drew:=(Kept.refl [] w).drew
 have S0:=SW.out _ kd0
 have SA:=fun ob=>SW.out _ (kd0.alloc ob)
 have SB:=fun ob ob'=>SW.out _ ((kd0.alloc ob).alloc ob')
 have HE:Hid (encNode kd ρ n=[kd,by8 0 0]++n.2.flatMap (encItem ρ)):=Hid.mk rfl
 have Hlen:Hid (∀j,([kd,by8 0 0]++(n.2.take j).flatMap (encItem ρ)).length≤1000):=Hid.mk fun j=>by
  have h1:=enc_len_le (encItem ρ) isz encItem_le (n.2.take j)
  have h2:=tsum_le isz n.2 j
  have h3:=hfl.out
  rw [List.length_append]
  show 2+_≤1000
  omega
 obtain ⟨N,HN⟩:∃N,Hid (n.2.length=N):=⟨_,rfl⟩
 rw [HN.out] at hl HK3 HRD
 obtain ⟨A,HA⟩:∃A,Hid (n.1=A):=⟨_,rfl⟩
 rw [HA.out] at SW HK3 HK4 S0 SA SB ⊢
 clear hN c0 c1 c2 c3 c4 r3 r4 hui huu hua hkk hlb HK
 go_enter Tryz.func129,Tryz.ntmps129
 go_wp2_with fail
 go_region_held3 (fun w'=>w'.cell? ⟨A,2,none⟩=some (.int .i64 0)) (first|exact S0|exact SA _|exact SB _ _|exact S1) (first|(obtain ⟨a1,e1,w1,hrun1,ho1,k1,hf1⟩:=HrA.out;have S1:=SW.out _ (kd0.trans k1 (by simp));refine step_append_run 48 (.tmp 10) (.tmp 17) (by rfl) (by rfl) _ _ (by rfl) (by rfl) (hrun1 _ _ _ rfl rfl rfl) ?_)|(obtain ⟨a1,e1,w1,hrun1,ho1,k1,hf1⟩:=HrB.out;have S1:=SW.out _ (kd0.trans k1 (by simp));refine step_append_run 48 (.tmp 10) (.tmp 17) (by rfl) (by rfl) _ _ (by rfl) (by rfl) (hrun1 _ _ _ rfl rfl rfl) ?_))
 all_goals
  have hT1:AtT w [kd,by8 0 0] w1 (.slice a1 2 e1):=⟨ho1,kd0.trans k1 (by simp),hf1⟩
  have d4:=HK4.out w1 hT1.2.1
  have d3:=HK3.out w1 hT1.2.1
  have HT1:=Hid.mk hT1
  clear hrun1 ho1 k1 hf1 S0 SA SB S1 hmk hT1 kd0
  go_wp2_with fail
  go_loopw [5,24] (fun u i w'=>u=.slice a1 2 e1∧i=.int .i64 0∧w1=w') (fun _ _ _=>0)
  case atStart=>exact ⟨rfl,rfl,rfl⟩
  case round =>
   obtain ⟨rfl,rfl,rfl⟩:=hrel
   clear d4
   go_wp2_with fail
   go_loopw [5,40] (fun u i wr=>∃j:Nat,i=.int .i64 (j:Int)∧j≤N∧Hid (AtT w ([kd,by8 0 0]++(n.2.take j).flatMap (encItem ρ)) wr u)) (fun _ i _=>N-(intOf i).toNat)
   case atStart=>exact ⟨0,rfl,by omega,Hid.mk (by simpa using HT1.out)⟩
   case round =>
    obtain ⟨j,rfl,hj,hA⟩:=hrel
    clear d3
    by_cases hlt:j<N
    ·obtain ⟨x,hx⟩:∃x,n.2[j]?=some x:=⟨_,List.getElem?_eq_getElem (by have:=HN.out;omega)⟩
     have kk:=hA.out.2.1
     obtain ⟨b,o,c',e,hcell⟩:=(HRD.out wr kk).at j x.ad (by rw [List.getElem?_map,hx];rfl)
     rw [List.length_map,HN.out] at e
     injection e with e eN e2
     subst e e2
     clear eN
     have hm:=List.mem_of_getElem? hx
     have hcall:=appendTo_any (HU.out x hm wr kk) (hsz.out x hm).2.1 (hsz.out x hm).2.2 (hρ.out _) hA.out.1 (Hid.mk fun g hg h=>by have:=hA.out.2.2 g hg;have:=h.2;omega) (Nat.le_trans (Hlen.out j) (by omega))
     have HNX:Hid (∀w2 u2,Owns 5 w2 u2 ([kd,by8 0 0]++((n.2.take j).flatMap (encItem ρ))++encItem ρ x)→Kept u5.ownBlock.toList wr w2→New wr u5 u2→AtT w ([kd,by8 0 0]++(n.2.take (j+1)).flatMap (encItem ρ)) w2 u2):=Hid.mk fun w2 u2 h1 h2 h3=>hA.out.next (by
      rw [tsnoc hx,List.flatMap_append]
      simpa using h1) h2 h3
     clear hx kk hm
     generalize x.ad=U at *
     go_wp2_with fail
     refine hcall.mono ?_
     rintro e w2 ⟨v2,rfl,h1,h2,h3⟩
     have HR2:=Hid.mk (HNX.out w2 v2 h1 h2 h3)
     clear hcall HNX h1 h2 h3 hA hcell
     go_wp2
     go_roundw
     case rel=>exact ⟨j+1,by go_num,by omega,HR2⟩
     case measure=>simp [intOf];omega
    ·obtain rfl:j=N:=by omega
     have HF:Hid (Owns 5 wr u5 (encNode kd ρ n)∧Kept [] w wr∧Fresh w u5):=Hid.mk (by
      have h1:=hA.out
      rw [List.take_of_length_le (by have:=HN.out;omega),←HE.out] at h1
      exact h1)
     clear hA
     go_wp2
     go_ret
     exact ⟨_,rfl,HF.out⟩
theorem nodeText_any {k:Nat}{n:Tr k} (hN:IsN w F ρ n) (hk:k≤100000) (hW:Wf n) (hsz:Sized (its n)) (hρ:RhoOk ρ) (kd:UInt8):Calls Tryz.prog 129 #[Pp (adr n),.int .u8 (kd.toNat:Int)] w fun e w'=>∃v',e=.returned v'∧Owns 5 w' v' (encNode kd ρ n)∧Kept [] w w'∧Fresh w v':=by
 cases k with
 | zero=>exact nodeText_lf hN (by have h1:=len_le_sum n.2;have h2:(n.2.map isz).sum≤236:=hW.2;omega) (Hid.mk hW.2) (Hid.mk hsz) (Hid.mk hρ) kd
 | succ k=>exact nodeText_br hN (by omega) hW.2.1 (Hid.mk hρ) kd
end
def KP (X:Nat→Prop) (w w':World):Prop:=∃S,Kept S w w'∧∀x,X x→x∉S
theorem KP.of {X:Nat→Prop}{w w':World} (k:Kept [] w w'):KP X w w':=⟨[],k,by simp⟩
theorem KP.refl (X:Nat→Prop) (w:World):KP X w w:=KP.of (Kept.refl [] w)
theorem KP.size {X:Nat→Prop}{w w':World} (k:KP X w w'):w.heap.size≤w'.heap.size:=by
 obtain ⟨S,k,hS⟩:=k
 exact k.size
def SyP (w0 w:World) (q p:Nat) (s:St) (fr ct:Nat) (L:List Ent) (fl:List Nat) (X:Nat→Prop):Prop :=
 ∃F G T,IsD w F q s∧IsP w G p q fr ct T fl∧T.Perm (ets L)∧(∀x∈G,x∉F)∧Okp s fr ct L fl∧Kept [] w0 w∧∀x,x∈F∨x∈G→w0.heap.size≤x∧¬X x
section
variable {w0 w w':World}{q p:Nat}{s:St}{fr ct:Nat}{L:List Ent}{fl:List Nat}{X Y:Nat→Prop}
theorem SyP.k (h:SyP w0 w q p s fr ct L fl X):Kept [] w0 w:=by obtain ⟨_,_,_,_,_,_,_,_,h,_⟩:=h;exact h
theorem SyP.ok (h:SyP w0 w q p s fr ct L fl X):Okp s fr ct L fl:=by obtain ⟨_,_,_,_,_,_,_,h,_,_⟩:=h;exact h
theorem SyP.turn (h:SyP w0 w q p s fr ct L fl X) {S:List Nat} (k:Kept S w w') (hS:∀x∈S,X x∨w.heap.size≤x) (h0:∀x∈S,w0.heap.size≤x):SyP w0 w' q p s fr ct L fl X:=by
 obtain ⟨F,G,T,hD,hP,hT,hFG,hO,hK,hH⟩:=h
 refine ⟨F,G,T,hD.kept k (fun x hx hm=>?_),hP.kept k (fun x hx hm=>?_),hT,hFG,hO,hK.trans k (fun x hx=>.inr (h0 x hx)),hH⟩
 ·rcases hS x hm with h|h
  ·exact (hH x (.inl hx)).2 h
  ·have:=hD.lt x hx;omega
 ·rcases hS x hm with h|h
  ·exact (hH x (.inr hx)).2 h
  ·have:=hP.lt x hx;omega
theorem SyP.kept (h:SyP w0 w q p s fr ct L fl X) (k:Kept [] w w'):SyP w0 w' q p s fr ct L fl X:=h.turn k (by simp) (by simp)
theorem SyP.more (h:SyP w0 w q p s fr ct L fl X) (k:Kept [] w w') (hY:∀y,Y y→w.heap.size≤y):SyP w0 w' q p s fr ct L fl (fun b=>Y b∨X b):=by
 obtain ⟨F,G,T,hD,hP,hT,hFG,hO,hK,hH⟩:=h
 refine ⟨F,G,T,hD.kept k (by simp),hP.kept k (by simp),hT,hFG,hO,hK.trans k (by simp),fun x hx=>⟨(hH x hx).1,fun hm=>?_⟩⟩
 rcases hm with h|h
 ·have:=hY x h
  rcases hx with hx|hx
  ·have:=hD.lt x hx;omega
  ·have:=hP.lt x hx;omega
 ·exact (hH x hx).2 h
theorem SyP.less (h:SyP w0 w q p s fr ct L fl X) (hY:∀y,Y y→X y):SyP w0 w q p s fr ct L fl Y:=by
 obtain ⟨F,G,T,hD,hP,hT,hFG,hO,hK,hH⟩:=h
 exact ⟨F,G,T,hD,hP,hT,hFG,hO,hK,fun x hx=>⟨(hH x hx).1,fun hm=>(hH x hx).2 (hY x hm)⟩⟩
theorem psy_put (h:SyP w0 w q p s fr ct L fl X) (a:Option Addr) (n c:Nat) (l:List UInt8) (hn:n=l.length) (hr:Reads w (.slice a n c) l) (hX:∀g,(Value.slice a n c).ownBlock=some g→X g∨g<w0.heap.size) (hXl:∀x,X x→x<w.heap.size) (hl:n≤20000) (hk:bks n≤fl.length) (hd:s.down=false) (hf:s.fuse<0∨(bks n:Int)≤s.fuse) (hws:s.ws.length≤90000) :
  Calls Tryz.prog 152 #[.pointer (some ⟨p,0,none⟩),.slice a n c] w fun e w'=>∃(nm:Nat) (vs:List Wr) (fu:Int),e=.returned (.tuple #[.int .i64 (nm:Int),.int .i64 0])∧fl.head?=some nm∧vs.length=bks n∧(∀x∈vs,x.1∈fl.take (bks n))∧(s.fuse<0→fu=s.fuse) ∧
   SyP w0 w' q p { s with ws:=s.ws++vs,fuse:=fu } fr ct (L++[(nm,fl.take (bks n),l)]) (fl.drop (bks n)) X∧KP X w w':=by
 subst hn
 obtain ⟨F,G,T,hD,hP,hT,hFG,hO,hK,hH⟩:=h
 obtain ⟨nm,hnm⟩:∃nm,fl.head?=some nm:=by
  cases fl with
  | nil=>have:=bks_pos l.length;simp at hk;omega
  | cons x r=>exact ⟨x,rfl⟩
 have hfl:=hO.few
 have har:=hO.area
 have hnb:=hO.nb
 have hTl:T.length=L.length:=by rw [hT.length_eq];simp [ets]
 have hlen:(fl.take (bks l.length)).length=bks l.length:=by rw [List.length_take];omega
 refine (put_any hD hP hFG hd a c l hr (fun g hg hm=>?_) hl hk (fun x hx=>by have:=hO.mem (List.mem_append.2 (.inr hx));omega) (by omega) nm hnm (fun hm=>?_) (by omega) hws).mono ?_
 ·have:=hH g (.inl hm)
  rcases hX g hg with h|h
  ·exact this.2 h
  ·omega
 ·rw [(hT.map (·.1)).mem_iff,ets_names] at hm
  exact hO.newName (List.mem_of_mem_head? hnm) hm
 ·rintro e w' ⟨t,F',G',hD',k',nF,nG,hFG',hres⟩
  have hv0:∀x∈wsOf t nm (fl.take (bks l.length)) l (bks l.length),x.1∈fl.take (bks l.length):=fun x hx=>by
   obtain ⟨j,hj,rfl⟩:=wsOf_mem _ _ _ _ _ _ hx
   exact getD_mem (by rw [hlen];exact hj)
  have hv:∀x∈wsOf t nm (fl.take (bks l.length)) l (bks l.length),x.1∈fl:=fun x hx=>List.mem_of_mem_take (hv0 x hx)
  have hwr:=wrAll_ok (wsOf t nm (fl.take (bks l.length)) l (bks l.length)) s hd (fun x hx=>⟨by have:=hO.mem (List.mem_append.2 (.inr (hv x hx)));omega,by obtain ⟨j,hj,rfl⟩:=wsOf_mem _ _ _ _ _ _ hx;exact pblk_len _ _ _ _ _⟩) (by rw [wsOf_length];exact hf)
  rw [hwr] at hD' hres
  rcases hres with ⟨_,rfl,hP'⟩|⟨h,_⟩
  ·refine ⟨nm,_,_,rfl,hnm,wsOf_length _ _ _ _ _,hv0,fun hs=>by rw [if_pos hs],⟨F',G',_,hD',hP',?_,hFG',?_,hK.trans k' (fun x hx=>.inr (hH x (by simpa using hx)).1),fun x hx=>?_⟩,⟨_,k',fun x hx hm=>(hH x (by simpa using hm)).2 hx⟩⟩
   ·have:=hT.append_right [(nm,fl.take (bks l.length))]
    simpa [ets] using this
   ·have h2:=hO.put t nm l hl hnm hk (if s.fuse<0 then s.fuse else s.fuse-((wsOf t nm (fl.take (bks l.length)) l (bks l.length)).length:Int)) false
    rw [←hd] at h2
    exact h2
   ·have hh:x∈F∨x∈G∨w.heap.size≤x:=by
     rcases hx with hx|hx
     ·rcases nF x hx with h|h
      ·exact .inl h
      ·exact .inr (.inr h)
     ·rcases nG x hx with h|h
      ·exact .inr (.inl h)
      ·exact .inr (.inr h)
    rcases hh with h|h|h
    ·exact hH x (.inl h)
    ·exact hH x (.inr h)
    ·exact ⟨Nat.le_trans hK.size h,fun hm=>by have:=hXl x hm;omega⟩
  ·exact absurd rfl h
theorem psy_put_lost (h:SyP w0 w q p s fr ct L fl X) (a:Option Addr) (n c:Nat) (l:List UInt8) (hn:n=l.length) (hr:Reads w (.slice a n c) l) (hX:∀g,(Value.slice a n c).ownBlock=some g→X g∨g<w0.heap.size) (hXl:∀x,X x→x<w.heap.size) (hl:n≤20000) (hk:bks n≤fl.length) (hd:s.down=false) (f:Nat) (hf:s.fuse=(f:Int)) (hfl:f<bks n) (hws:s.ws.length≤90000) :
  Calls Tryz.prog 152 #[.pointer (some ⟨p,0,none⟩),.slice a n c] w fun e w'=>e=.returned (.tuple #[.int .i64 0,.int .i64 9])∧∃vs:List Wr,vs.length=f ∧
   SyP w0 w' q p { s with ws:=s.ws++vs,fuse:=0,down:=true } fr ct L fl X∧KP X w w':=by
 subst hn
 obtain ⟨F,G,T,hD,hP,hT,hFG,hO,hK,hH⟩:=h
 obtain ⟨nm,hnm⟩:∃nm,fl.head?=some nm:=by
  cases fl with
  | nil=>have:=bks_pos l.length;simp at hk;omega
  | cons x r=>exact ⟨x,rfl⟩
 have hfl':=hO.few
 have har:=hO.area
 have hnb:=hO.nb
 have hTl:T.length=L.length:=by rw [hT.length_eq];simp [ets]
 have hlen:(fl.take (bks l.length)).length=bks l.length:=by rw [List.length_take];omega
 refine (put_any hD hP hFG hd a c l hr (fun g hg hm=>?_) hl hk (fun x hx=>by have:=hO.mem (List.mem_append.2 (.inr hx));omega) (by omega) nm hnm (fun hm=>?_) (by omega) hws).mono ?_
 ·have:=hH g (.inl hm)
  rcases hX g hg with h|h
  ·exact this.2 h
  ·omega
 ·rw [(hT.map (·.1)).mem_iff,ets_names] at hm
  exact hO.newName (List.mem_of_mem_head? hnm) hm
 ·rintro e w' ⟨t,F',G',hD',k',nF,nG,hFG',hres⟩
  have hv:∀x∈wsOf t nm (fl.take (bks l.length)) l (bks l.length),x.1∈fl:=fun x hx=>by
   obtain ⟨j,hj,rfl⟩:=wsOf_mem _ _ _ _ _ _ hx
   exact List.mem_of_mem_take (getD_mem (by rw [hlen];exact hj))
  have hwr:=wrAll_lost (wsOf t nm (fl.take (bks l.length)) l (bks l.length)) s f hd (fun x hx=>⟨by have:=hO.mem (List.mem_append.2 (.inr (hv x hx)));omega,by obtain ⟨j,hj,rfl⟩:=wsOf_mem _ _ _ _ _ _ hx;exact pblk_len _ _ _ _ _⟩) hf (by rw [wsOf_length];exact hfl)
  rw [hwr] at hD' hres
  rcases hres with ⟨h,_⟩|⟨_,rfl,hP'⟩
  ·exact absurd h (by simp)
  ·refine ⟨rfl,_,by rw [List.length_take,wsOf_length];omega,⟨F',G',_,hD',hP',hT,hFG',hO.wrote _ (fun x hx=>hv x (List.mem_of_mem_take hx)) 0 true,hK.trans k' (fun x hx=>.inr (hH x (by simpa using hx)).1),fun x hx=>?_⟩,⟨_,k',fun x hx hm=>(hH x (by simpa using hm)).2 hx⟩⟩
   have hh:x∈F∨x∈G∨w.heap.size≤x:=by
    rcases hx with hx|hx
    ·rcases nF x hx with h|h
     ·exact .inl h
     ·exact .inr (.inr h)
    ·rcases nG x hx with h|h
     ·exact .inr (.inl h)
     ·exact .inr (.inr h)
   rcases hh with h|h|h
   ·exact hH x (.inl h)
   ·exact hH x (.inr h)
   ·exact ⟨Nat.le_trans hK.size h,fun hm=>by have:=hXl x hm;omega⟩
theorem psy_get (h:SyP w0 w q p s fr ct L fl X) (hd:s.down=false) (x:Ent) (hx:x∈L) :
  Calls Tryz.prog 67 #[.pointer (some ⟨p,0,none⟩),.int .i64 (x.1:Int)] w fun e w'=>∃v,e=.returned (.tuple #[v,.int .i64 0])∧Owns 5 w' v x.2.2∧Kept [] w w'∧Fresh w v:=by
 obtain ⟨F,G,T,hD,hP,hT,hFG,hO,hK,hH⟩:=h
 exact get_ok hD hP hd hO.area x.1 x.2.1 x.2.2 (hT.mem_iff.2 (List.mem_map.2 ⟨x,hx,rfl⟩)) (hO.lies x hx) (fun b hb=>hO.mem (List.mem_append.2 (.inl (mem_bls.2 ⟨x,hx,hb⟩))))
theorem SyP.noName (h:SyP w0 w q p s fr ct L fl X) {k:Int} (hk:∀x∈L,(x.1:Int)≠k) {T:List (Nat × List Nat)} (hT:T.Perm (ets L)):∀x∈T,(x.1:Int)≠k:=fun x hx=>by
 rw [hT.mem_iff] at hx
 obtain ⟨y,hy,rfl⟩:=List.mem_map.1 hx
 exact hk y hy
theorem psy_drop_none (h:SyP w0 w q p s fr ct L fl X) (k:Int) (hw:(Lit.int .i64 k).wf=true) (hk:∀x∈L,(x.1:Int)≠k) :
  Calls Tryz.prog 54 #[.pointer (some ⟨p,0,none⟩),.int .i64 k] w fun e w'=>e=.returned (.int .i64 5)∧w=w':=by
 have h':=h
 obtain ⟨F,G,T,hD,hP,hT,hFG,hO,hK,hH⟩:=h
 exact drop_none hP k hw (h'.noName hk hT)
theorem psy_drop {A B:List Ent}{x:Ent} (h:SyP w0 w q p s fr ct (A++x::B) fl X) (hXl:∀x,X x→x<w.heap.size) :
  Calls Tryz.prog 54 #[.pointer (some ⟨p,0,none⟩),.int .i64 (x.1:Int)] w fun e w'=>e=.returned (.int .i64 0)∧SyP w0 w' q p s fr ct (A++B) (fl++x.2.1) X∧KP X w w':=by
 obtain ⟨F,G,T,hD,hP,hT,hFG,hO,hK,hH⟩:=h
 have hlen:=hO.length
 have har:=hO.area
 have hnb:=hO.nb
 refine (drop_ok hP x.1 x.2.1 (hT.mem_iff.2 (List.mem_map.2 ⟨x,by simp,rfl⟩)) (by rw [bls_append,bls_cons,List.length_append,List.length_append] at hlen;omega)).mono ?_
 rintro e w' ⟨rfl,G',hP',k',nG⟩
 have hFK:∀y∈F,y∉G:=fun y hy hg=>hFG y hg hy
 refine ⟨rfl,⟨F,G',_,hD.kept k' hFK,hP',?_,fun y hy hf=>?_,hO.drop,hK.trans k' (fun y hy=>.inr (hH y (.inr hy)).1),fun y hy=>?_⟩,⟨_,k',fun y hy hm=>(hH y (.inr hm)).2 hy⟩⟩
 ·have hno:=hO.names
  have h1:=hT.filter fun y=>y.1 != x.1
  refine h1.trans (List.Perm.of_eq ?_)
  unfold ets
  rw [List.map_append,List.map_cons,List.filter_append,List.filter_cons,List.map_append]
  rw [List.map_append,List.map_cons] at hno
  have hA:∀y∈A,y.1≠x.1:=fun y hy=>(List.nodup_append.1 hno).2.2 y.1 (List.mem_map.2 ⟨y,hy,rfl⟩) x.1 (by simp)
  have hB:∀y∈B,y.1≠x.1:=fun y hy e=>((List.nodup_cons.1 (List.nodup_append.1 hno).2.1).1) (e▸List.mem_map.2 ⟨y,hy,rfl⟩)
  rw [if_neg (by simp),List.filter_eq_self.2 (fun y hy=>by obtain ⟨z,hz,rfl⟩:=List.mem_map.1 hy;simpa using hA z hz),List.filter_eq_self.2 (fun y hy=>by obtain ⟨z,hz,rfl⟩:=List.mem_map.1 hy;simpa using hB z hz)]
 ·rcases nG y hy with h|h
  ·exact hFG y h hf
  ·have:=hD.lt y hf;omega
 ·rcases hy with hy|hy
  ·exact hH y (.inl hy)
  ·rcases nG y hy with h|h
   ·exact hH y (.inr h)
   ·exact ⟨Nat.le_trans hK.size h,fun hm=>by have:=hXl y hm;omega⟩
theorem psy_blocks (h:SyP w0 w q p s fr ct L fl X) (x:Ent) (hx:x∈L) :
  Calls Tryz.prog 65 #[.pointer (some ⟨p,0,none⟩),.int .i64 (x.1:Int)] w fun e w'=>∃v,e=.returned v∧FrS w' v x.2.1∧Kept [] w w'∧Fresh w v:=by
 obtain ⟨F,G,T,hD,hP,hT,hFG,hO,hK,hH⟩:=h
 exact blocks_ok hP x.1 x.2.1 (hT.mem_iff.2 (List.mem_map.2 ⟨x,hx,rfl⟩)) (by have:=(hO.lies x hx).len;have:=bks_le (hO.lies x hx).long;omega)
theorem prises_of {zs:List Int}{l:List Nat} (h:zs.Perm (l.map fun (n:Nat)=>(n:Int))) (hn:l.Nodup):Rises ((zs.mergeSort leI).map Int.toNat) l:=by
 have tr:∀a b c:Int,leI a b=true→leI b c=true→leI a c=true:=fun a b c h1 h2=>by simp only [leI,decide_eq_true_eq] at *;exact Int.le_trans h1 h2
 have to:∀a b:Int,(leI a b || leI b a)=true:=fun a b=>by simp only [leI,Bool.or_eq_true,decide_eq_true_eq];exact Int.le_total a b
 have hp:((zs.mergeSort leI).map Int.toNat).Perm l:=by
  refine (((List.mergeSort_perm zs leI).trans h).map Int.toNat).trans (List.Perm.of_eq ?_)
  rw [List.map_map]
  simp [Function.comp_def]
 have hpos:∀z∈zs.mergeSort leI,0≤z:=fun z hz=>by
  obtain ⟨n,_,rfl⟩:=List.mem_map.1 (h.mem_iff.1 (List.mem_mergeSort.1 hz))
  omega
 refine ⟨hp,?_⟩
 have hs:=List.pairwise_mergeSort tr to zs
 have hd:((zs.mergeSort leI).map Int.toNat).Nodup:=(hp.nodup_iff).2 hn
 refine List.pairwise_map.2 ((hs.and (List.pairwise_map.1 hd)).imp_of_mem fun {a b} ha hb hab=>?_)
 have h1:=hpos a ha
 have h2:=hpos b hb
 have h3:=hab.1
 have h4:=hab.2
 simp only [leI,decide_eq_true_eq] at h3
 omega
theorem psy_names (h:SyP w0 w q p s fr ct L fl X) :
  Calls Tryz.prog 27 #[.pointer (some ⟨p,0,none⟩)] w fun e w'=>∃v ns,e=.returned v∧OwnsI w' v ns∧Rises ns (L.map (·.1))∧Kept [] w w'∧Fresh w v:=by
 obtain ⟨F,G,T,hD,hP,hT,hFG,hO,hK,hH⟩:=h
 have hfl:=hO.few
 have har:=hO.area
 have hnb:=hO.nb
 have hTl:T.length=L.length:=by rw [hT.length_eq];simp [ets]
 refine (names_int hP (by omega)).mono ?_
 rintro e w' ⟨v,ss,rfl,hS,hrow,hb⟩
 have hS2:ss.Perm ((L.map (·.1)).map fun (n:Nat)=>(n:Int)):=by
  refine hS.trans ((hT.map fun x=>(x.1:Int)).trans (List.Perm.of_eq ?_))
  simp [ets]
 have hR:=prises_of hS2 hO.names
 have hpos:∀z∈ss.mergeSort leI,0≤z:=fun z hz=>by
  obtain ⟨n,_,rfl⟩:=List.mem_map.1 (hS2.mem_iff.1 (List.mem_mergeSort.1 hz))
  omega
 have hrow2:w'.ownsRow w.heap.size 3 1 v (ss.mergeSort leI).length ((ss.mergeSort leI).map encZ):=by rw [List.length_mergeSort];exact hrow
 obtain ⟨hO2,hF2⟩:=ownsI_of hrow2 hpos
 exact ⟨v,_,rfl,hO2,hR,Below.kept hb,hF2⟩
theorem psy_free (h:SyP w0 w q p s fr ct L fl X) :
  Calls Tryz.prog 16 #[.pointer (some ⟨p,0,none⟩)] w fun e w'=>∃v ns,e=.returned v∧OwnsI w' v ns∧Rises ns fl∧Kept [] w w'∧Fresh w v:=by
 obtain ⟨F,G,T,hD,hP,hT,hFG,hO,hK,hH⟩:=h
 have hfl:=hO.few
 have har:=hO.area
 have hnb:=hO.nb
 refine (free_int hP (by omega)).mono ?_
 rintro e w' ⟨v,rfl,hO2,k2,hF2⟩
 exact ⟨v,_,rfl,hO2,prises_of (List.Perm.refl _) (List.nodup_append.1 hO.nodup).2.1,k2,hF2⟩
theorem psy_writes (h:SyP w0 w q p s fr ct L fl X):Calls Tryz.prog 28 #[.pointer (some ⟨q,0,none⟩)] w fun e w'=>e=.returned (.int .i64 (s.ws.length:Int))∧w=w':=by
 obtain ⟨F,G,T,hD,hP,hT,hFG,hO,hK,hH⟩:=h
 exact writes_any hD
theorem popen_texts {F:List Nat} (hD:IsD w F q s) (hd:s.down=false) (h1:1≤ct) (ha:fr+ct≤s.nb) (hL:∀x∈L,Lies (blk s.ws) x.1 x.2.1 x.2.2) (hn:(bls L).Nodup) (hin:∀b∈bls L,fr≤b∧b<fr+ct) (hLl:L.length≤1000) (a:Option Addr) (m c:Nat) (hm:m=L.length) (hr:ReadsI w (.slice a m c) (L.map (·.1))) (hK:Kept [] w0 w) (hF:∀x∈F,w0.heap.size≤x∧¬X x) (hXl:∀x,X x→x<w.heap.size) :
  Calls Tryz.prog 11 #[.pointer (some ⟨q,0,none⟩),.int .i64 (fr:Int),.int .i64 (ct:Int),.slice a m c] w fun e w'=>∃p2 fl2,e=.returned (.tuple #[.pointer (some ⟨p2,0,none⟩),.int .i64 0])∧SyP w0 w' q p2 s fr ct L fl2 X∧Kept [] w w':=by
 have hself:∀x∈L,x.1∈x.2.1:=fun x hx=>List.mem_of_mem_head? (hL x hx).first
 have hnm:(L.map (·.1)).Nodup:=by
  unfold bls at hn
  exact List.pairwise_map.2 ((List.pairwise_flatMap.1 hn).2.imp_of_mem fun {x y} hx hy hp=>hp x.1 (hself x hx) y.1 (hself y hy))
 have hnb:=hD.ok.nb
 have hlen:(L.map (·.1)).length=m:=by rw [List.length_map,hm]
 have hc:=openP_any hD hd h1 ha (L.map (·.1)) (by rw [hlen];omega) (fun x hx=>by obtain ⟨y,hy,rfl⟩:=List.mem_map.1 hx;have:=hin y.1 (mem_bls.2 ⟨y,hy,hself y hy⟩);omega) a c (by rw [hlen];exact hr) (ets L)
  ⟨fun x hx=>by obtain ⟨y,hy,rfl⟩:=List.mem_map.1 hx;exact ⟨_,hL y hy⟩,fun x hx b hb=>by obtain ⟨y,hy,rfl⟩:=List.mem_map.1 hx;exact hin b (mem_bls.2 ⟨y,hy,hb⟩),by rw [ets_names];exact hnm⟩ true (fun k hk=>by rw [←List.getElem?_map,ets_names]) (.inl ⟨rfl,by rw [hlen,hm];simp [ets]⟩)
 rw [hlen] at hc
 refine hc.mono ?_
 rintro e w' ⟨k',⟨_,p2,G,rfl,hP,hG⟩|⟨h,_⟩⟩
 ·refine ⟨p2,_,rfl,⟨F,G,_,hD.kept k' (by simp),hP,List.Perm.refl _,fun x hx hf=>?_,⟨hL,freeOf_perm hn hin,ha,h1,hnb⟩,hK.trans k' (by simp),fun x hx=>?_⟩,k'⟩
  ·have:=hG x hx;have:=hD.lt x hf;omega
  ·rcases hx with hx|hx
   ·exact hF x hx
   ·exact ⟨Nat.le_trans hK.size (hG x hx),fun hm=>by have:=hXl x hm;have:=hG x hx;omega⟩
 ·cases h
end
theorem psy_new {w0 w:World} (k:Kept [] w0 w) (nb fr ct:Nat) (hnb:nb≤65536) (hc:1≤ct) (ha:fr+ct≤nb) :
  Calls Tryz.prog 12 #[.int .i64 (nb:Int)] w fun e w1=>∃q,e=.returned (.pointer (some ⟨q,0,none⟩))∧Kept [] w w1∧∀w2,Kept [] w1 w2→Calls Tryz.prog 11 #[.pointer (some ⟨q,0,none⟩),.int .i64 (fr:Int),.int .i64 (ct:Int),.slice none 0 0] w2 fun e w'=>∃p fl,e=.returned (.tuple #[.pointer (some ⟨p,0,none⟩),.int .i64 0])∧fl.length=ct∧SyP w0 w' q p ⟨nb,[],-1,false⟩ fr ct [] fl (fun _=>False)∧Kept [] w2 w':=by
 refine (new_nb nb hnb w).mono fun e w1 ⟨q,heq,F,hD,k1,nF⟩=>⟨q,heq,k1,fun w2 k2=>?_⟩
 refine (popen_texts (w0:=w0) (L:=[]) (X:=fun _=>False) (hD.kept k2 (by simp)) rfl hc ha (by simp) (by simp [bls]) (by simp [bls]) (by simp) none 0 0 rfl (ReadsI.nil w2) ((k.trans k1 (by simp)).trans k2 (by simp)) (fun x hx=>⟨Nat.le_trans k.size (nF x hx),by simp⟩) (by simp)).mono ?_
 rintro e w' ⟨p,fl,rfl,hS,k3⟩
 have:=hS.ok.length
 exact ⟨p,fl,rfl,by simpa [bls] using this,hS,k3⟩
section
variable {w:World}
set_option maxRecDepth 100000 in
set_option maxHeartbeats 1000000 in
theorem lput_err {lb ib p:Nat}{vn v:Value} (c0:w.cell? ⟨lb,0,none⟩=some (Pp p)) (er:Int) (her:er≠0) {Q:World→Prop} (h:Calls Tryz.prog 152 #[Pp p,v] w fun e w1=>e=.returned (.tuple #[.int .i64 0,.int .i64 er])∧Q w1) :
  Calls Tryz.prog 127 #[Pp lb,Pp ib,v] w fun e w'=>e=.returned (.int .i64 er)∧Q w':=by
 go_enter Tryz.func127,Tryz.ntmps127
 go_wp2_with fail
 refine h.mono ?_
 rintro e w1 ⟨rfl,hQ⟩
 go_wp2
 go_ret
 exact ⟨rfl,hQ⟩
set_option maxRecDepth 100000 in
set_option maxHeartbeats 1000000 in
theorem lput_ok {lb ib p:Nat}{vn v:Value}{names:List Nat}{l:List UInt8} (c0:w.cell? ⟨lb,0,none⟩=some (Pp p)) (hnl:names.length≤900000) (hap:vn.ownBlock≠some lb) {x0 x1:Value}{xs:List Value}{ty:TypeId} (hne:ib≠lb) (hni:vn.ownBlock≠some ib) (hrb:Hid (∀g,v.ownBlock=some g→g≠lb∧vn.ownBlock≠some g)) {R:Nat→World→Prop} (h:Calls Tryz.prog 152 #[Pp p,v] w fun e w1=>∃nm:Nat,e=.returned (.tuple #[.int .i64 (nm:Int),.int .i64 0])∧w1.heap[lb]?=some (.cells #[Pp p,vn] 152 (0,0))∧OwnsI w1 vn names∧w1.heap[ib]?=some (.cells (x0::x1::xs).toArray ty (0,0))∧Reads w1 v l∧R nm w1) :
  Calls Tryz.prog 127 #[Pp lb,Pp ib,v] w fun e w'=>e=.returned (.int .i64 0)∧∃(nm:Nat) (w1:World),R nm w1∧∃vn',w'.heap[lb]?=some (.cells #[Pp p,vn'] 152 (0,0))∧OwnsI w' vn' (names++[nm])∧New w1 vn vn'∧w'.heap[ib]?=some (.cells (.int .i64 (nm:Int)::.int .u64 ((fnv l:Nat):Int)::xs).toArray ty (0,0))∧Kept (lb::ib::vn.ownBlock.toList) w1 w':=by
 go_enter Tryz.func127,Tryz.ntmps127
 go_wp2_with fail
 refine h.mono ?_
 rintro e w1 ⟨nm,rfl,hb,ho,hib,hr,hR⟩
 have hR:=Hid.mk hR
 clear h c0
 obtain ⟨ad,c,w2,hrun,ho2,k2,hN2⟩:=append_int ho nm (by omega)
 have hb2:=k2.keeps hb (fun h=>hap (by simpa using h))
 have hi2:=k2.keeps hib (fun h=>hni (by simpa using h))
 have d0:w1.cell? ⟨lb,1,none⟩=some vn:=by simp only [World.cell?,hb];rfl
 have d1:w2.cell? ⟨lb,1,none⟩=some vn:=by simp only [World.cell?,hb2];rfl
 have f1:w2.frozen? ⟨lb,1,none⟩=false:=by simp only [World.frozen?,hb2];rfl
 obtain ⟨w3,HW3⟩:∃w3,Hid (w3=w2.setCell ⟨lb,1,none⟩ (.slice ad (names.length+1) c)):=⟨_,rfl⟩
 have k3:Kept [lb] w2 w3:=by rw [HW3.out];exact (Kept.refl [lb] w2).setCell (.inl (by simp)) _
 have hr3:=(hr.kept k2 (fun g hg h=>(hrb.out g hg).2 (by simpa using h))).kept k3 (fun g hg h=>(hrb.out g hg).1 (by simpa using h))
 have href:=refTo_any nm hr3
 rw [HW3.out] at href
 have HB:=Hid.mk hb
 have HIB:=Hid.mk hib
 have HK2:=Hid.mk k2
 have HHI2:=Hid.mk hi2
 have HB2:=Hid.mk hb2
 clear hb hib hi2 hb2 hr3 hr ho k2
 go_wp2_with (at_builtin;refine wpList_append_run 41 _ _ rfl rfl _ _ rfl rfl _ _ hrun ?_)
 refine href.mono ?_
 rintro e w4 ⟨rfl,k4⟩
 rw [←HW3.out] at k4
 have hb:=HB.out
 have hib:=HIB.out
 have k2:=HK2.out
 have hi2:=HHI2.out
 have hb2:=HB2.out
 have hi4:=k4.keeps (k3.keeps hi2 (by simpa using hne)) (by simp)
 have hi5:(w4.setCell ⟨ib,0,none⟩ (.int .i64 (nm:Int))).heap[ib]?=some (.cells (.int .i64 (nm:Int)::x1::xs).toArray ty (0,0)):=by
  rw [heap_setCell_same w4 ib 0 _ ty _ hi4];rfl
 have hi6:((w4.setCell ⟨ib,0,none⟩ (.int .i64 (nm:Int))).setCell ⟨ib,1,none⟩ (.int .u64 ((fnv l:Nat):Int))).heap[ib]?=some (.cells (.int .i64 (nm:Int)::.int .u64 ((fnv l:Nat):Int)::xs).toArray ty (0,0)):=by
  rw [heap_setCell_same _ ib 1 _ ty _ hi5];rfl
 have e0:w4.cell? ⟨ib,0,none⟩=some x0:=by simp only [World.cell?,hi4];rfl
 have e1:(w4.setCell ⟨ib,0,none⟩ (.int .i64 (nm:Int))).cell? ⟨ib,1,none⟩=some x1:=by simp only [World.cell?,hi5];rfl
 have g0:w4.frozen? ⟨ib,0,none⟩=false:=by simp only [World.frozen?,hi4];rfl
 have g1:(w4.setCell ⟨ib,0,none⟩ (.int .i64 (nm:Int))).frozen? ⟨ib,1,none⟩=false:=by simp only [World.frozen?,hi5];rfl
 have HD:Hid (∃vn',((w4.setCell ⟨ib,0,none⟩ (.int .i64 (nm:Int))).setCell ⟨ib,1,none⟩ (.int .u64 ((fnv l:Nat):Int))).heap[lb]?=some (.cells #[Pp p,vn'] 152 (0,0))∧OwnsI ((w4.setCell ⟨ib,0,none⟩ (.int .i64 (nm:Int))).setCell ⟨ib,1,none⟩ (.int .u64 ((fnv l:Nat):Int))) vn' (names++[nm])∧New w1 vn vn'∧((w4.setCell ⟨ib,0,none⟩ (.int .i64 (nm:Int))).setCell ⟨ib,1,none⟩ (.int .u64 ((fnv l:Nat):Int))).heap[ib]?=some (.cells (.int .i64 (nm:Int)::.int .u64 ((fnv l:Nat):Int)::xs).toArray ty (0,0))∧Kept (lb::ib::vn.ownBlock.toList) w1 ((w4.setCell ⟨ib,0,none⟩ (.int .i64 (nm:Int))).setCell ⟨ib,1,none⟩ (.int .u64 ((fnv l:Nat):Int)))):=Hid.mk (by
  have k5:Kept [ib] w4 ((w4.setCell ⟨ib,0,none⟩ (.int .i64 (nm:Int))).setCell ⟨ib,1,none⟩ (.int .u64 ((fnv l:Nat):Int))):=((Kept.refl [ib] w4).setCell (.inl (by simp)) _).setCell (.inl (by simp)) _
  have hb3:w3.heap[lb]?=some (.cells #[Pp p,.slice ad (names.length+1) c] 152 (0,0)):=by rw [HW3.out];exact two_set1 hb2
  have hlt:=lt_of_block hb
  have hilt:=lt_of_block hib
  have hn3:∀g,(Value.slice ad (names.length+1) c).ownBlock=some g→g≠lb∧g≠ib:=fun g hg=>by
   rcases hN2 g hg with h|h
   ·exact ⟨fun e=>hap (by rw [←e];exact h),fun e=>hni (by rw [←e];exact h)⟩
   ·exact ⟨by omega,by omega⟩
  refine ⟨_,k5.keeps (k4.keeps hb3 (by simp)) (by simp;exact fun e=>hne e.symm),((ho2.kept k3 (fun g hg h=>(hn3 g hg).1 (by simpa using h))).kept k4 (by simp)).kept k5 (fun g hg h=>(hn3 g hg).2 (by simpa using h)),hN2,hi6,?_⟩
  exact ((((k2.mono (fun x hx=>.inl (List.mem_cons_of_mem _ (List.mem_cons_of_mem _ hx)))).trans k3 (fun b hb=>.inl (by simp at hb;simp [hb]))).trans k4 (by simp)).trans k5 (fun b hb=>.inl (by simp at hb;simp [hb]))))
 clear hi4 hi5 hi6 k4 k3 k2 hN2 ho2 hb2 hi2 href d0 d1 f1 hb hib hrun
 go_wp2
 go_ret
 exact ⟨rfl,nm,w1,hR.out,HD.out⟩
end
end Go.Proofs.YtgpbhlfdlkemjaaGreat
