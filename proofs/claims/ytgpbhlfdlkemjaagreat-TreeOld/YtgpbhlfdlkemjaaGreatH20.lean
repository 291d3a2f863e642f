import Derived.OrdersHeld
import Derived.Deep.RegionHeld
import Derived.Test.YtgpbhlfdlkemjaaGreatH19
/-
 Changes in memory; before.
-/
namespace Go.Proofs.YtgpbhlfdlkemjaaGreat
open Go.RowKit
set_option linter.unusedVariables false
def ptr (o:Option Itm):Value:=match o with
 | none=>.pointer none
 | some i=>Pp i.ad
def CC (cs:List Chg):List (List Value):=cs.map fun c=>[Sv c.1,ptr c.2]
theorem CC_length (cs:List Chg):(CC cs).length=cs.length:=by simp [CC]
theorem CC_append (a b:List Chg):CC (a++b)=CC a++CC b:=by simp [CC]
theorem ptr_one (o:Option Itm):(ptr o).oneCell'=true:=by cases o<;>rfl
theorem CC_wide (cs:List Chg):Wide 2 (CC cs):=fun r hr=>by
 obtain ⟨c,_,rfl⟩:=List.mem_map.1 hr
 exact ⟨rfl,fun u hu=>by simp at hu;rcases hu with rfl|rfl;rfl;exact ptr_one _⟩
def HoldsC (w:World) (v:Value) (cs:List Chg):Prop:=ReadsR 2 w v (CC cs)
theorem HoldsC.kept {S:List Nat}{w w':World}{v:Value}{cs:List Chg} (h:HoldsC w v cs) (k:Kept S w w') (hn:∀g,v.ownBlock=some g→g∉S):HoldsC w' v cs:=ReadsR.kept h k hn
theorem HoldsC.form {w:World}{v:Value}{cs:List Chg} (h:HoldsC w v cs):∃a c,v=.slice a cs.length c∧cs.length≤c∧c≤9223372036854775807:=by
 have:=ReadsR.form h
 rwa [CC_length] at this
theorem HoldsC.at {w:World}{a:Option Addr}{n c:Nat}{cs:List Chg} (hn:n=cs.length) (h:HoldsC w (.slice a n c) cs) {j:Nat}{x:Chg} (hx:cs[j]?=some x):∃b o,a=some ⟨b,o,none⟩∧w.cell? ⟨b,o+j*2,none⟩=some (Sv x.1)∧w.cell? ⟨b,o+j*2+1,none⟩=some (ptr x.2):=by
 obtain ⟨b,o,c',e,hc⟩:=ReadsR.at h j [Sv x.1,ptr x.2] (by simp [CC,hx])
 injection e with e _ _
 have h0:=hc 0 _ rfl
 have h1:=hc 1 _ rfl
 rw [Nat.add_zero] at h0
 exact ⟨b,o,e,h0,h1⟩
theorem HoldsC.cut {w:World}{a:Option Addr}{n c i j m:Nat}{l:List Chg} (hn:n=l.length) (h:HoldsC w (.slice a n c) l) (hij:i≤j) (hj:j≤n) (hjm:j≤m) (hm:m≤c):HoldsC w (.slice (cutA a m i 2) (j-i) (m-i)) ((l.take j).drop i):=by
 have:=ReadsR.cut (by rw [CC_length];exact hn) h hij hj hjm hm
 unfold HoldsC CC
 rw [List.map_drop,List.map_take]
 exact this
theorem rt86:RowT 86 143 2 24 (.agg #[.string ⟨#[]⟩,.pointer none]):=⟨Tryz.underlying86,by kernel_rfl,rfl,by omega,by omega⟩
def SearchedC (fs:List (List UInt8)) (key:List UInt8) (w:World) (e:Ending) (w':World):Prop:=∃(at_:Nat) (b:Bool),e=.returned (.tuple #[.int .i64 (at_:Int),.bool b])∧(b=true↔fs[at_]?=some key)∧PlaceOf fs key at_∧Kept [] w w'
section
variable {w:World}
set_option maxRecDepth 100000 in
set_option maxHeartbeats 1000000 in
theorem searchC (a:Option Addr) (n c:Nat) (l:List Chg) (hn:Hid (n=l.length)) (hr:HoldsC w (.slice a n c) l) (hc:n≤1000000) (key:List UInt8) (fs:List (List UInt8)) (hf:Hid (fs=l.map (·.1))) (hup:fs.Pairwise (·<·))
  (hcmp:Hid (∀(c:List UInt8) (p:Value) (W:World),Calls Tryz.prog 168 #[.agg #[Sv c,p],Sv key] W fun e w'=>e=.returned (.int .i64 (Lib.compareBytes c key))∧Kept [] W w')) :
  Calls Tryz.prog 167 #[.slice a n c,Sv key,.func (.func 168) #[] #[]] w fun e w'=>SearchedC fs key w e w':=by
 have eg:∀args w,(callFunc 168 args).run Tryz.prog w=.ok (.enter 168 args) w:=enters_of Tryz.func168 (by kernel_rfl) rfl
 have HU:=Hid.mk hup
 clear hup
 go_enter Tryz.func167,Tryz.ntmps167
 go_wp2_with fail
 go_loopw [9,10] (fun vi vj wr=>∃i j:Nat,Kept [] w wr∧vi=.int .i64 (i:Int)∧vj=.int .i64 (j:Int)∧i≤j∧j≤n∧Hid ((∀(p:Nat) (x:List UInt8),fs[p]?=some x→p<i→x<key)∧∀(p:Nat) (x:List UInt8),fs[p]?=some x→j≤p→¬x<key)) (fun vi vj _=>(intOf vj-intOf vi).toNat)
 case atStart=>exact ⟨0,n,Kept.refl [] w,rfl,rfl,by omega,by omega,Hid.mk ⟨by intros;omega,fun p x hp hj=>by have:=(List.getElem?_eq_some_iff.1 hp).1;rw [hf.out,List.length_map,←hn.out] at this;omega⟩⟩
 case round =>
  obtain ⟨i,j,k,rfl,rfl,hij,hjn,H1⟩:=hrel
  have hrr:=hr.kept k (by simp)
  have hfl:fs.length=n:=by rw [hf.out,List.length_map,hn.out]
  have Hfl:=Hid.mk hfl
  clear hfl
  by_cases hlt:i<j
  ·have hh:=half_range i j hlt
   obtain ⟨x,hx⟩:∃x,l[(i+j) / 2]?=some x:=⟨_,List.getElem?_eq_getElem (by have:=hn.out;omega)⟩
   obtain ⟨kx,hkx⟩:∃kx,fs[(i+j) / 2]?=some kx:=⟨x.1,by rw [hf.out,List.getElem?_map,hx];rfl⟩
   obtain ⟨b,o,e,hcl0,hcl1⟩:=hrr.at (by rw [←hn.out]) hx
   subst e
   have hkk:kx=x.1:=by rw [hf.out,List.getElem?_map,hx] at hkx;exact (Option.some.inj hkx).symm
   subst hkk
   have hcc:=hcmp.out x.1 (ptr x.2) wr
   have hcl:=cmp_lt x.1 key
   generalize Lib.compareBytes x.1 key=cv at hcc hcl
   have Hx:=Hid.mk hkx
   generalize x.1=kx at *
   generalize ptr x.2=xp at *
   clear hx hkx hrr hr
   by_cases hneg:cv<0
   ·have hk:kx<key:=hcl.1 hneg
    clear hcl
    go_wp2_with (go_at_fn 168;refine hcc.mono ?_;rintro e w' ⟨rfl,k2⟩)
    go_roundw
    case rel =>
     exact ⟨(i+j) / 2+1,j,k.trans k2 (by simp),by rw [show ((i:Int)+(j:Int)) / 2+1=(((i+j) / 2+1:Nat):Int) by omega],rfl,by omega,hjn,Hid.mk ⟨fun p y hp hlt=>by
      rcases Nat.lt_or_ge p ((i+j) / 2) with h|h
      ·exact klt_trans (rising_le HU.out hp Hx.out h) hk
      ·have:p=(i+j) / 2:=by omega
       subst this
       rw [Hx.out] at hp
       injection hp with hp
       rw [←hp]
       exact hk,H1.out.2⟩⟩
    case measure=>simp [intOf];omega
   ·have hk:¬kx<key:=fun h=>hneg (hcl.2 h)
    clear hcl
    go_wp2_with (go_at_fn 168;refine hcc.mono ?_;rintro e w' ⟨rfl,k2⟩)
    go_roundw
    case rel =>
     exact ⟨i,(i+j) / 2,k.trans k2 (by simp),rfl,by rw [show ((i:Int)+(j:Int)) / 2=(((i+j) / 2:Nat):Int) by omega],by omega,by omega,Hid.mk ⟨H1.out.1,fun p y hp hle=>by
      rcases Nat.lt_or_ge ((i+j) / 2) p with h|h
      ·exact fun hy=>hk (klt_trans (rising_le HU.out Hx.out hp h) hy)
      ·have:p=(i+j) / 2:=by omega
       subst this
       rw [Hx.out] at hp
       injection hp with hp
       rw [←hp]
       exact hk⟩⟩
    case measure=>simp [intOf];omega
  ·obtain rfl:j=i:=by omega
   have HP:Hid (PlaceOf fs key j):=Hid.mk ⟨by have:=Hfl.out;omega,fun p x hp=>⟨fun h=>Nat.lt_of_not_le fun hle=>H1.out.2 p x hp hle h,fun h=>H1.out.1 p x hp h⟩⟩
   by_cases hjn2:j<n
   ·obtain ⟨x,hx⟩:∃x,l[j]?=some x:=⟨_,List.getElem?_eq_getElem (by have:=hn.out;omega)⟩
    obtain ⟨kx,hkx⟩:∃kx,fs[j]?=some kx:=⟨x.1,by rw [hf.out,List.getElem?_map,hx];rfl⟩
    obtain ⟨b,o,e,hcl0,hcl1⟩:=hrr.at (by rw [←hn.out]) hx
    subst e
    have hkk:kx=x.1:=by rw [hf.out,List.getElem?_map,hx] at hkx;exact (Option.some.inj hkx).symm
    subst hkk
    have hcc:=hcmp.out x.1 (ptr x.2) wr
    have hce:=cmp_eq x.1 key
    generalize Lib.compareBytes x.1 key=cv at hcc hce
    have hd:Hid (fs[j]?=some key↔cv=0):=Hid.mk (by
     rw [hkx]
     simp only [Option.some.injEq,hce])
    generalize x.1=kx at *
    generalize ptr x.2=xp at *
    clear hx hkx hce hrr hr
    by_cases h0:cv=0
    ·subst h0
     go_wp2_with (go_at_fn 168;refine hcc.mono ?_;rintro e w' ⟨rfl,k2⟩)
     go_ret2
     exact ⟨j,true,rfl,by rw [hd.out];simp,HP.out,k.trans k2 (by simp)⟩
    ·have hb:(cv == 0)=false:=by simpa using h0
     go_wp2_with (go_at_fn 168;refine hcc.mono ?_;rintro e w' ⟨rfl,k2⟩)
     go_ret2
     exact ⟨j,false,rfl,by rw [hd.out];simp [h0],HP.out,k.trans k2 (by simp)⟩
   ·have hd:Hid (fs[j]?=none):=Hid.mk (List.getElem?_eq_none (by have:=Hfl.out;omega))
    go_wp2
    go_ret2
    exact ⟨j,false,rfl,by rw [hd.out];simp,HP.out,k⟩
set_option maxRecDepth 100000 in
set_option maxHeartbeats 400000 in
theorem before1_any (c:List UInt8) (p:Value) (key:List UInt8) (W:World):Calls Tryz.prog 168 #[.agg #[Sv c,p],Sv key] W fun e w'=>e=.returned (.int .i64 (Lib.compareBytes c key))∧Kept [] W w':=by
 have hcm:=fun W=>cmp_any c key W
 generalize Lib.compareBytes c key=r at hcm ⊢
 go_enter Tryz.func168,Tryz.ntmps168
 go_wp2_with fail
 refine (hcm _).mono ?_
 rintro e w' ⟨rfl,rfl⟩
 go_wp2
 go_ret
 exact ⟨rfl,kept_alloc W _⟩
set_option maxRecDepth 100000 in
set_option maxHeartbeats 400000 in
theorem before_any (a:Option Addr) (n c:Nat) (cs:List Chg) (hn:Hid (n=cs.length)) (hr:HoldsC w (.slice a n c) cs) (hc:n≤1000000) (key:List UInt8) (hup:ChUp cs):Calls Tryz.prog 148 #[.slice a n c,Sv key] w fun e w'=>e=.returned (.int .i64 (kpl (cs.map (·.1)) key:Int))∧Kept [] w w':=by
 have hp:(cs.map (·.1)).Pairwise (·<·):=List.pairwise_map.2 hup
 have hs:=(searchC a n c cs hn hr hc key (cs.map (·.1)) (Hid.mk rfl) hp (Hid.mk fun c p W=>before1_any c p key W)).mono (R':=fun e w'=>∃b:Bool,e=.returned (.tuple #[.int .i64 (kpl (cs.map (·.1)) key:Int),.bool b])∧Kept [] w w') fun e w' he=>by
  obtain ⟨at_,b,rfl,_,h3,k⟩:=he
  have e:=h3.uniq (place_kpl key hp)
  subst e
  exact ⟨b,rfl,k⟩
 generalize kpl (cs.map (·.1)) key=A at *
 clear hr hp hup
 go_enter Tryz.func148,Tryz.ntmps148
 go_wp2_with fail
 refine hs.mono ?_
 rintro e w' ⟨b,rfl,k⟩
 go_wp2
 go_ret
 exact ⟨rfl,k⟩
end
end Go.Proofs.YtgpbhlfdlkemjaaGreat
namespace Go.Proofs.YtgpbhlfdlkemjaaGreat
open Go
set_option linter.unusedVariables false
section
variable {P:Program}{ops:Array Oper}{Q:Exit→Act→World→Prop}{md:Region.Mode}{S:World→Prop}
def Fin (ops:Array Oper) (listed:Array Bool):Prop:=∀k,k<ops.size→listed.getD k false=true
def wpAnyX (P:Program) (md:Region.Mode) (ops:Array Oper) (Q:Exit→Act→World→Prop) (S:World→Prop):Nat→Array Bool→Act→World→Prop
 | 0,listed,a,w=>Region.ready md ops listed=[]∧Q .normal a w
 | fuel+1,listed,a,w =>
  (Region.ready md ops listed=[]→Q .normal a w) ∧
  ∀i∈Region.ready md ops listed,wpOp P ops Q i (fun a' w'=>(S w'∨Fin ops (listed.setIfInBounds i true))∧wpAnyX P md ops Q S fuel (listed.setIfInBounds i true) a' w') a w
theorem wpAny_of_x:∀(fuel:Nat) (listed:Array Bool) (a:Act) (w:World),wpAnyX P md ops Q S fuel listed a w→wpAny P md ops Q fuel listed a w
 | 0,_,_,_,h=>h
 | fuel+1,_,_,_,h=>⟨h.1,fun i hi=>wpOp_mono (fun a' w' h'=>wpAny_of_x fuel _ a' w' h'.2) (h.2 i hi)⟩
theorem wpAnyX_first {i m:Nat}{oi om:Oper}{v:Value} (hi:ops[i]?=some oi) (hsel:∀(j:Nat) (o:Oper) cs b,ops[j]?=some o→o.op≠.select cs b)
  (hQ:∀c a w,Q (.panic c) (a.put oi.dst v) w→Q (.panic c) a w) (hm:ops[m]?=some om) (hmi:m≠i) (hwait:∃e∈om.after,Region.binds md e=true∧e.on=i) :
  ∀(fuel:Nat) (listed:Array Bool) (a:Act) (w:World),listed.getD m false=false →
   (∀j oj,ops[j]?=some oj→j≠i→listed.getD j true=false→(∀e∈oj.after,Region.binds md e=true→e.on≠i)→oi.apart ops oj=true) →
   i∈Region.ready md ops listed→YieldsIf P ops S oi v a→S w →
   wpAnyX P md ops Q S fuel (listed.setIfInBounds i true) (a.put oi.dst v) w→wpAnyX P md ops Q S (fuel+1) listed a w:=by
 intro fuel
 induction fuel with
 | zero =>
  intro listed a w _ _ hr hy hS H
  refine ⟨fun h=>(by rw [h] at hr;cases hr),fun j hj=>?_⟩
  by_cases hji:j=i
  ·subst hji;exact hy.wpOp hi hS ⟨.inl hS,H⟩
  ·have:=ready_mono hj hji
   rw [H.1] at this
   cases this
 | succ fuel ih =>
  intro listed a w hml hfree hr hy hS H
  refine ⟨fun h=>(by rw [h] at hr;cases hr),fun j hj=>?_⟩
  by_cases hji:j=i
  ·subst hji;exact hy.wpOp hi hS ⟨.inl hS,H⟩
  ·have h1:=H.2 j (ready_mono hj hji)
   obtain ⟨hjun,oj,hoj,hall⟩:=mem_ready.1 hj
   have hnot:∀e∈oj.after,Region.binds md e=true→e.on≠i:=fun e he hb heq=>by
    have h1:=hall e he hb
    have h0:=(mem_ready.1 hr).1
    rw [heq] at h1
    rcases Nat.lt_or_ge i listed.size with h'|h'
    ·simp [h'] at h0 h1;rw [h0] at h1;cases h1
    ·simp [Array.getElem?_eq_none h'] at h1
   have hjm:j≠m:=fun e=>by
    subst e
    rw [hoj] at hm
    injection hm with hm
    subst hm
    obtain ⟨e,he,hb,heq⟩:=hwait
    exact hnot e he hb heq
   have hms:m<ops.size:=by
    rcases Nat.lt_or_ge m ops.size with h|h
    ·exact h
    ·rw [Array.getElem?_eq_none h] at hm;cases hm
   have hset:∀(l:Array Bool) (x:Nat),x≠m→(l.setIfInBounds x true).getD m false=l.getD m false:=fun l x hx=>getD_set_ne false hx
   have h2:=wpOp_putIf hoj (hfree j oj hoj hji hjun hnot) (fun cs b=>hsel i oi cs b hi) (fun cs b=>hsel j oj cs b hoj) hQ hy h1
   have hfree':∀k ok,ops[k]?=some ok→k≠i→(listed.setIfInBounds j true).getD k true=false →
     (∀e∈ok.after,Region.binds md e=true→e.on≠i)→oi.apart ops ok=true:=fun k ok hk hki hun hno=>by
    refine hfree k ok hk hki ?_ hno
    by_cases hjk:j=k
    ·subst hjk;exact hjun
    ·rw [getD_set_ne true hjk] at hun;exact hun
   refine wpOp_mono (fun a' w' h3=>?_) h2
   have hS':S w':=by
    rcases h3.2.1 with h|h
    ·exact h
    ·have h4:=h m hms
     rw [hset _ _ hjm,hset _ _ (Ne.symm hmi),hml] at h4
     cases h4
   refine ⟨.inl hS',ih (listed.setIfInBounds j true) a' w' (by rw [hset _ _ hjm];exact hml) hfree' (ready_mono hr (Ne.symm hji)) h3.1 hS' ?_⟩
   rw [Array.setIfInBounds_comm _ _ hji]
   exact h3.2.2
theorem wpAnyX_take {i:Nat} (m:Nat) {oi om:Oper}{v:Value}{fuel:Nat}{listed:Array Bool}{a:Act}{w:World} (hi:ops[i]?=some oi)
  (hs:Region.noSelect ops=true) (hf:Region.free md ops listed i=true) (hr:(Region.ready md ops listed).contains i=true)
  (hm:ops[m]?=some om) (hmw:(om.after.any fun e=>Region.binds md e && e.on == i)=true) (hmi:(m != i && !listed.getD m false)=true)
  (hQ:∀c a w,Q (.panic c) (a.put oi.dst v) w→Q (.panic c) a w) (hy:YieldsIf P ops S oi v a) (hS:S w)
  (h:wpAnyX P md ops Q S fuel (listed.setIfInBounds i true) (a.put oi.dst v) w):wpAnyX P md ops Q S (fuel+1) listed a w:=by
 rw [Bool.and_eq_true,bne_iff_ne,Bool.not_eq_true'] at hmi
 refine wpAnyX_first hi (Region.noSelect_spec hs) hQ hm hmi.1 ?_ fuel listed a w hmi.2 (Region.free_spec hi hf) (by simpa using hr) hy hS h
 rw [Array.any_eq_true'] at hmw
 obtain ⟨e,he,hb⟩:=hmw
 rw [Bool.and_eq_true,beq_iff_eq] at hb
 exact ⟨e,he,hb⟩
def AllReadyX (P:Program) (md:Region.Mode) (ops:Array Oper) (Q:Exit→Act→World→Prop) (S:World→Prop) (fuel:Nat) (listed:Array Bool) (a:Act) (w:World) (rs:List Nat):Prop :=
 ∀i∈rs,wpOp P ops Q i (fun a' w'=>(S w'∨Fin ops (listed.setIfInBounds i true))∧wpAnyX P md ops Q S fuel (listed.setIfInBounds i true) a' w') a w
theorem AllReadyX.nil {fuel:Nat}{listed:Array Bool}{a:Act}{w:World}:AllReadyX P md ops Q S fuel listed a w []:=fun _ h=>by cases h
theorem AllReadyX.cons {fuel:Nat}{listed:Array Bool}{a:Act}{w:World}{i:Nat}{o:Oper}{rs:List Nat} (ho:ops[i]?=some o)
  (h:∀K':Act→World→Prop,Shut (∀a w,S w→(S w→wpAnyX P md ops Q S fuel (listed.setIfInBounds i true) a w)→K' a w)→if Region.wanted o (yielded ops a.tmps)=true then Oper.wp P o a w K' Q else K' (a.put o.dst undef) w)
  (hs:AllReadyX P md ops Q S fuel listed a w rs):AllReadyX P md ops Q S fuel listed a w (i::rs):=fun j hj=>by
 rcases List.mem_cons.1 hj with rfl|hj
 ·exact wpOp_step ho (fun K' hK=>h K' (fun a w hS hW=>hK a w ⟨.inl hS,hW hS⟩))
 ·exact hs j hj
theorem AllReadyX.last {fuel:Nat}{listed:Array Bool}{a:Act}{w:World}{i:Nat}{o:Oper} (ho:ops[i]?=some o) (hf:((List.range ops.size).all fun k=>(listed.setIfInBounds i true).getD k false)=true) (hr:Region.ready md ops (listed.setIfInBounds i true)=[])
  (h:∀K':Act→World→Prop,Shut (∀a w,Q .normal a w→K' a w)→if Region.wanted o (yielded ops a.tmps)=true then Oper.wp P o a w K' Q else K' (a.put o.dst undef) w):AllReadyX P md ops Q S fuel listed a w [i]:=fun j hj=>by
 simp at hj
 subst hj
 refine wpOp_step ho (fun K' hK=>h K' (fun a w hq=>hK a w ⟨.inr fun k hk=>?_,?_⟩))
 ·rw [List.all_eq_true] at hf
  exact hf k (List.mem_range.2 hk)
 ·cases fuel with
  | zero=>exact ⟨hr,hq⟩
  | succ f=>exact ⟨fun _=>hq,by rw [hr];simp⟩
theorem wpAnyX_ready {rs:List Nat}{fuel:Nat}{listed:Array Bool}{a:Act}{w:World} (hr:Region.ready md ops listed=rs) (hne:rs≠[])
  (h:AllReadyX P md ops Q S fuel listed a w rs):wpAnyX P md ops Q S (fuel+1) listed a w:=⟨fun h0=>absurd (hr▸h0) hne,hr▸h⟩
theorem wp_region_x {id:Nat}{a:Act}{w:World} (hm:P.follows .mixedOrders=true) (hS:S w.drew)
  (h:S w.drew→wpAnyX P .any ops Q S ops.size (Array.replicate ops.size false) a w.drew):(Code.region id ops true).wp P Q a w :=
 wp_region_any hm (wpAny_of_x _ _ _ _ (h hS))
end
end Go.Proofs.YtgpbhlfdlkemjaaGreat
namespace Go.Proofs.YtgpbhlfdlkemjaaGreat
open Go.RowKit
set_option linter.unusedVariables false
def ia:{k:Nat}→Tr k→List Nat
 | 0,n=>n.2.map Itm.ad
 | _+1,_=>[]
def ua:{k:Nat}→Tr k→List Nat
 | 0,_=>[]
 | _+1,n=>n.2.map adr
theorem IsN.isB {w:World}{F:Nat→Prop}{ρ:Rho}:{k:Nat}→{n:Tr k}→IsN w F ρ n→IsB w F (adr n) (ρ (adr n)) k (ia n) (ua n)
 | 0,_,h=>h.1
 | _+1,_,h=>h.1
theorem IsB.raw {w:World}{F:Nat→Prop}{a k:Nat}{r:Nat × Nat}{is us:List Nat} (h:IsB w F a r k is us):∃aI cI aU cU,w.cell? ⟨a,0,none⟩=some (.int .i64 (r.1:Int))∧w.cell? ⟨a,1,none⟩=some (.int .u64 (r.2:Int))∧w.cell? ⟨a,2,none⟩=some (.int .i64 (k:Int))∧w.cell? ⟨a,3,none⟩=some (.slice aI is.length cI)∧w.cell? ⟨a,4,none⟩=some (.slice aU us.length cU)∧ReadsP w (.slice aI is.length cI) is∧ReadsP w (.slice aU us.length cU) us∧(is≠[]→∀g,(Value.slice aI is.length cI).ownBlock=some g→F g)∧(us≠[]→∀g,(Value.slice aU us.length cU).ownBlock=some g→F g):=by
 obtain ⟨vi,vu,h1,h2,h3,_,h5,h6⟩:=h
 obtain ⟨aI,cI,rfl,-⟩:=h2.form
 obtain ⟨aU,cU,rfl,-⟩:=h3.form
 exact ⟨aI,cI,aU,cU,by simp [World.cell?,h1],by simp [World.cell?,h1],by simp [World.cell?,h1],by simp [World.cell?,h1],by simp [World.cell?,h1],h2,h3,h5,h6⟩
theorem IsN.stepU {w0 w w':World}{F:Nat→Prop}{ρ:Rho}{k:Nat}{m:Tr k}{ub:Nat}{v v':Value}{vs:List Value} (h:IsN w (Fw F w0 (v::vs)) ρ m) (kk:Kept (uf ub v) w w') (hN:New w v v') (hub:ub<w0.heap.size∧¬F ub):IsN w' (Fw F w0 (v'::vs)) ρ m:=by
 have h1:IsN w (fun b=>Fw F w0 (v::vs) b∧b<w.heap.size) ρ m:=h.monoS fun x hx hf=>⟨hf,hx⟩
 refine (h1.kept kk (fun x hx hf=>?_)).mono fun x hx=>⟨hx.1.1,fun u hu=>?_⟩
 ·rcases mem_uf.1 hx with rfl|hx
  ·rcases hf.1.1 with h2|h2
   ·exact hub.2 h2
   ·omega
  ·exact hf.1.2 v (by simp) hx
 ·rcases List.mem_cons.1 hu with rfl|hu
  ·intro e
   rcases hN x e with h2|h2
   ·exact hx.1.2 v (by simp) h2
   ·have:=hx.2;omega
  ·exact hx.1.2 u (by simp [hu])
theorem OwnsP.store {e:TypeId}{w:World}{v:Value}{B:List Nat}{y z:Nat} (h:OwnsP e w v (B++[y])):∃g c,v=.slice (some ⟨g,0,none⟩) (B.length+1) c∧w.cell? ⟨g,B.length,none⟩=some (Pp y)∧w.frozen? ⟨g,B.length,none⟩=false∧OwnsP e (w.setCell ⟨g,B.length,none⟩ (Pp z)) v (B++[z])∧B.length+1≤c∧c≤9223372036854775807:=by
 have hl:(CP (B++[y])).length=B.length+1:=by rw [CP_length];simp
 rcases h.2 with ⟨_,h0⟩|⟨g,cap,cur,hv,hb,hg,h1,h2,h3,h4⟩
 ·rw [hl] at h0;omega
 ·rw [hl] at hv h1 h4
  have hfl:∀l:List Nat,(CP l).flatten=l.map Pp:=fun l=>by induction l<;>simp_all [CP]
  rw [hfl,Nat.mul_one] at h4
  rw [Nat.mul_one] at h3
  have hcur:cur.toList.take (B.length+1)=B.map Pp++[Pp y]:=by rw [h4];simp
  have hBl:B.length<cur.size:=by omega
  have hy:cur[B.length]?=some (Pp y):=by
   have:(cur.toList.take (B.length+1))[B.length]?=some (Pp y):=by rw [hcur,List.getElem?_append_right (by simp)];simp
   rw [List.getElem?_take,if_pos (by omega)] at this
   simpa using this
  have hc:w.cell? ⟨g,B.length,none⟩=some (Pp y):=by simp [World.cell?,hg,hy]
  refine ⟨g,cap,hv,hc,by simp [World.frozen?,hg],?_,h1,h2⟩
  refine ⟨by rw [hfl,CP_length];simp,.inr ⟨g,cap,cur.setIfInBounds B.length (Pp z),?_,hb,?_,?_,h2,by simp;omega,?_⟩⟩
  ·rw [hv,CP_length];simp
  ·rw [heap_setCell_same w g B.length _ e _ hg]
  ·rw [CP_length];simpa using h1
  ·rw [hfl,CP_length,Nat.mul_one]
   have e1:(B++[z]).length=B.length+1:=by simp
   rw [e1,Array.toList_setIfInBounds,List.take_set,hcur]
   have e2:∀(A:List Value) (p q:Value) (i:Nat),i=A.length→(A++[p]).set i q=A++[q]:=fun A p q i hi=>by subst hi;induction A<;>simp_all
   rw [e2 (B.map Pp) (Pp y) (Pp z) B.length (by simp)]
   simp
def Joined {k:Nat} (F:Nat→Prop) (ρ:Rho) (w:World) (ub:Nat) (vl:Value) (left:List Nat) (ls:List (Tr k)) (e:Ending) (w':World):Prop :=
 ∃(v vl':Value) (dl:List Nat) (ns:List (Tr k)),e=.returned v∧OwnsP 77 w' v (ns.map adr)∧Fresh w v∧IsU w' ub vl' (left++dl)∧Kept (uf ub vl) w w'∧New w vl vl'∧IsNs w' (Fw F w [vl',v]) ρ ns∧Jn ls ns∧(ls.flatMap (nms ρ)).Perm (ns.flatMap (nms ρ)++dl)
def RecAt (k:Nat):Prop:=∀(w2:World) (G:Nat→Prop) (ρ:Rho) (ub:Nat) (vr:Value) (left:List Nat) (y x:Tr k),Blank ρ w2→IsU w2 ub vr left→(∀b∈uf ub vr,¬G b)→IsN w2 G ρ y→IsN w2 G ρ x→Wf y→Wf x→fil y+fil x≤236→Sized (its y++its x)→left.length+(nms ρ y++nms ρ x).length≤800000+(pn ρ (adr y)).length+(pn ρ (adr x)).length →
 ∀(W:World) (a:Option Addr) (n c:Nat),n=(ua y++ua x).length→Kept [] w2 W→OwnsP 77 W (.slice a n c) (ua y++ua x)→Fresh w2 (.slice a n c) →
 Calls Tryz.prog 80 #[Pp ub,.slice a n c] W fun e w'=>∃(v' vl':Value) (d us:List Nat),e=.returned v'∧ReadsP w' v' us∧Fresh w2 v'∧IsU w' ub vl' (left++d)∧Kept (uf ub vr) W w'∧New w2 vr vl'∧(∀g,v'.ownBlock=some g→vl'.ownBlock≠some g∧g<w'.heap.size) ∧
  ∀(w3:World) (G3:Nat→Prop) (S3:List Nat) (zb:Nat),Kept S3 w' w3→(∀s∈S3,¬G3 s)→(∀b,(G b∨w2.heap.size≤b)→vl'.ownBlock≠some b→b<w'.heap.size→G3 b)→ρ zb=(0,0)→IsB w3 G3 zb (ρ zb) k (ia y++ia x) us →
   ∃z:Tr k,adr z=zb∧IsN w3 G3 ρ z∧Mg ρ y x z (pn ρ (adr y)++pn ρ (adr x)++d)
theorem merge_end {w W3 w10:World}{F:Nat→Prop}{ρ:Rho}{k:Nat}{ub:Nat}{vl v3 vl4 v68 v83:Value}{g5 L c5:Nat}{left dl d us:List Nat}{ls B:List (Tr k)}{y x:Tr k}{j:Nat}
  (hubF:ub<w.heap.size∧¬F ub) (hvlF:∀g,vl.ownBlock=some g→g<w.heap.size∧¬F g) (hf:Fresh w (.slice (some ⟨g5,0,none⟩) (L+1) c5)) (kk3:Kept (uf ub vl) w W3) (hN3w:New w vl v3) (hU3:IsU W3 ub v3 (left++dl++pn ρ (adr y)++pn ρ (adr x)))
  (hM3:IsNs W3 (Fw F w [v3,.slice (some ⟨g5,0,none⟩) (L+1) c5]) ρ (B++[y])) (ho3:OwnsP 77 W3 (.slice (some ⟨g5,0,none⟩) (L+1) c5) ((B++[y]).map adr))
  (k310:Kept (uf ub v3) W3 w10) (hU10:IsU w10 ub vl4 (left++dl++pn ρ (adr y)++pn ρ (adr x)++d)) (hN10:New W3 v3 vl4)
  (ho10:OwnsP 100 w10 v68 (ia y++ia x)) (hf7:Fresh W3 v68) (hr83:ReadsP w10 v83 us) (hf83:Fresh W3 v83) (hv83:∀g,v83.ownBlock=some g→vl4.ownBlock≠some g∧g<w10.heap.size)
  (hmk:∀(w3:World) (G3:Nat→Prop) (S3:List Nat) (zb:Nat),Kept S3 w10 w3→(∀s∈S3,¬G3 s)→(∀b,(Fw F w [v3,.slice (some ⟨g5,0,none⟩) (L+1) c5] b∨W3.heap.size≤b)→vl4.ownBlock≠some b→b<w10.heap.size→G3 b)→ρ zb=(0,0)→IsB w3 G3 zb (ρ zb) k (ia y++ia x) us→∃z:Tr k,adr z=zb∧IsN w3 G3 ρ z∧Mg ρ y x z (pn ρ (adr y)++pn ρ (adr x)++d))
  (HI:JInv ρ ls (B++[y]) j dl) (hx:ls[j]?=some x) (hfit:fil y+fil x≤236) (hB:ρ w10.heap.size=(0,0))
  (ho12:OwnsP 77 ((w10.alloc (.cells #[.int .i64 0,.int .u64 0,.int .i64 (k:Int),v68,v83] 114)).setCell ⟨g5,L,none⟩ (.pointer (some ⟨w10.heap.size,0,none⟩))) (.slice (some ⟨g5,0,none⟩) (L+1) c5) (B.map adr++[w10.heap.size])) :
  ∃(M':List (Tr k)) (dl':List Nat),JInv ρ ls M' (j+1) dl'∧OwnsP 77 ((w10.alloc (.cells #[.int .i64 0,.int .u64 0,.int .i64 (k:Int),v68,v83] 114)).setCell ⟨g5,L,none⟩ (.pointer (some ⟨w10.heap.size,0,none⟩))) (.slice (some ⟨g5,0,none⟩) (L+1) c5) (M'.map adr)∧Fresh w (.slice (some ⟨g5,0,none⟩) (L+1) c5)∧IsU ((w10.alloc (.cells #[.int .i64 0,.int .u64 0,.int .i64 (k:Int),v68,v83] 114)).setCell ⟨g5,L,none⟩ (.pointer (some ⟨w10.heap.size,0,none⟩))) ub vl4 (left++dl')∧Kept (uf ub vl) w ((w10.alloc (.cells #[.int .i64 0,.int .u64 0,.int .i64 (k:Int),v68,v83] 114)).setCell ⟨g5,L,none⟩ (.pointer (some ⟨w10.heap.size,0,none⟩)))∧New w vl vl4∧Hid (IsNs ((w10.alloc (.cells #[.int .i64 0,.int .u64 0,.int .i64 (k:Int),v68,v83] 114)).setCell ⟨g5,L,none⟩ (.pointer (some ⟨w10.heap.size,0,none⟩))) (Fw F w [vl4,.slice (some ⟨g5,0,none⟩) (L+1) c5]) ρ M'):=by
 have hg5:w.heap.size≤g5:=hf g5 rfl
 have hg5l:g5<W3.heap.size:=ho3.lt rfl
 have hs3:=kk3.size
 have hs10:=k310.size
 have hg3:v3.ownBlock≠some g5:=fun e=>rows_apart ho3 hU3.own (by decide) e rfl
 have hg4:vl4.ownBlock≠some g5:=fun e=>by
  rcases hN10 g5 e with h|h
  ·exact hg3 h
  ·omega
 have hbox:(w10.alloc (.cells #[.int .i64 0,.int .u64 0,.int .i64 (k:Int),v68,v83] 114)).heap[w10.heap.size]?=some (.cells #[.int .i64 0,.int .u64 0,.int .i64 (k:Int),v68,v83] 114 (0,0)):=heap_alloc_new w10 _
 have k11:Kept [g5] w10 (w10.alloc (.cells #[.int .i64 0,.int .u64 0,.int .i64 (k:Int),v68,v83] 114)):=(Kept.refl [g5] w10).alloc _
 have k12:Kept [g5] (w10.alloc (.cells #[.int .i64 0,.int .u64 0,.int .i64 (k:Int),v68,v83] 114)) ((w10.alloc (.cells #[.int .i64 0,.int .u64 0,.int .i64 (k:Int),v68,v83] 114)).setCell ⟨g5,L,none⟩ (.pointer (some ⟨w10.heap.size,0,none⟩))):=(Kept.refl [g5] _).setCell (.inl (by simp)) _
 have kT:=k11.trans k12 (fun b hb=>.inl hb)
 have hbox2:=k12.keeps hbox (by simp;omega)
 generalize ((w10.alloc (.cells #[.int .i64 0,.int .u64 0,.int .i64 (k:Int),v68,v83] 114)).setCell ⟨g5,L,none⟩ (.pointer (some ⟨w10.heap.size,0,none⟩)))=w12 at *
 have hG:¬Fw F w [vl4,.slice (some ⟨g5,0,none⟩) (L+1) c5] g5:=fun h=>h.2 (.slice (some ⟨g5,0,none⟩) (L+1) c5) (by simp) rfl
 have hvl4:∀g,vl4.ownBlock=some g→g<w10.heap.size:=fun g hg=>hU10.own.lt hg
 have hIB:IsB w12 (Fw F w [vl4,.slice (some ⟨g5,0,none⟩) (L+1) c5]) w10.heap.size (ρ w10.heap.size) k (ia y++ia x) us:=by
  refine ⟨v68,v83,by rw [hB];exact hbox2,ho10.reads.kept kT (fun g hg hm=>?_),hr83.kept kT (fun g hg hm=>?_),⟨.inr (by omega),fun t ht e=>?_⟩,fun _ g hg=>⟨.inr (Nat.le_trans hs3 (hf7 g hg)),fun t ht e=>?_⟩,fun _ g hg=>⟨.inr (Nat.le_trans hs3 (hf83 g hg)),fun t ht e=>?_⟩⟩
  ·simp at hm;subst hm;have:=hf7 g hg;omega
  ·simp at hm;subst hm;have:=hf83 g hg;omega
  ·simp at ht
   rcases ht with rfl|rfl
   ·have:=hvl4 _ e;omega
   ·simp [Value.ownBlock] at e;omega
  ·simp at ht
   rcases ht with rfl|rfl
   ·exact rows_apart ho10 hU10.own (by decide) e hg
   ·simp [Value.ownBlock] at e;subst e;have:=hf7 g5 hg;omega
  ·simp at ht
   rcases ht with rfl|rfl
   ·exact (hv83 g hg).1 e
   ·simp [Value.ownBlock] at e;subst e;have:=hf83 g5 hg;omega
 obtain ⟨z,hz,hzN,hzM⟩:=hmk w12 (Fw F w [vl4,.slice (some ⟨g5,0,none⟩) (L+1) c5]) [g5] w10.heap.size kT (fun s hs=>by simp at hs;subst hs;exact hG) (fun b hb hv hbl=>by
  rcases hb with hb|hb
  ·exact ⟨hb.1,fun t ht e=>by
    simp at ht
    rcases ht with rfl|rfl
    ·exact hv e
    ·exact hb.2 _ (by simp) e⟩
  ·exact ⟨.inr (by omega),fun t ht e=>by
    simp at ht
    rcases ht with rfl|rfl
    ·exact hv e
    ·simp [Value.ownBlock] at e;omega⟩) hB hIB
 refine ⟨B++[z],dl++(pn ρ (adr y)++pn ρ (adr x)++d),HI.merge hx hfit hzM,?_,hf,?_,?_,?_,Hid.mk fun m hm=>?_⟩
 ·rw [List.map_append]
  show OwnsP 77 w12 _ (B.map adr++[adr z])
  rw [hz]
  exact ho12
 ·have:=hU10.kept kT (by simp;omega) (fun g hg hm=>by simp at hm;subst hm;exact hg4 hg)
  simpa [List.append_assoc] using this
 ·refine (kk3.trans k310 (fun b hb=>?_)).trans kT (fun b hb=>.inr (by simp at hb;omega))
  rcases mem_uf.1 hb with h|h
  ·exact .inl (mem_uf.2 (.inl h))
  ·rcases hN3w b h with h1|h1
   ·exact .inl (mem_uf.2 (.inr h1))
   ·exact .inr h1
 ·exact hN3w.trans hN10 hs3
 ·rcases List.mem_append.1 hm with h|h
  ·have h1:IsN W3 (fun b=>Fw F w [v3,.slice (some ⟨g5,0,none⟩) (L+1) c5] b∧b<W3.heap.size) ρ m:=(hM3 m (by simp [h])).monoS fun b hb hfb=>⟨hfb,hb⟩
   have h2:=h1.kept k310 (fun b hb hfb=>by
    rcases mem_uf.1 hb with h3|h3
    ·subst h3
     rcases hfb.1.1 with h4|h4
     ·exact hubF.2 h4
     ·omega
    ·exact hfb.1.2 v3 (by simp) h3)
   refine (h2.kept kT (fun b hb hfb=>by simp at hb;subst hb;exact hfb.1.2 (.slice (some ⟨b,0,none⟩) (L+1) c5) (by simp) rfl)).mono fun b hb=>⟨hb.1.1,fun t ht e=>?_⟩
   simp at ht
   rcases ht with rfl|rfl
   ·rcases hN10 b e with h3|h3
    ·exact hb.1.2 v3 (by simp) h3
    ·have:=hb.2;omega
   ·exact hb.1.2 _ (by simp) e
  ·simp at h
   subst h
   exact hzN
end Go.Proofs.YtgpbhlfdlkemjaaGreat
