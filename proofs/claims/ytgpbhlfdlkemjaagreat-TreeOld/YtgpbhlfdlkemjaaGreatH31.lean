import Derived.Test.YtgpbhlfdlkemjaaGreatH30
/-
 What is put is laid: the state while a tree is laid.
-/
namespace Go.Proofs.YtgpbhlfdlkemjaaGreat
open Go.RowKit
set_option linter.unusedVariables false
theorem map_inj_on {α β:Type}{f:α→β}:∀{l l':List α},l.map f=l'.map f→(∀x∈l,∀y∈l',f x=f y→x=y)→l=l'
 | [],[],_,_=>rfl
 | [],_::_,e,_=>by simp at e
 | _::_,[],e,_=>by simp at e
 | a::l,b::l',e,h=>by
  simp only [List.map_cons,List.cons.injEq] at e
  rw [h a (by simp) b (by simp) e.1,map_inj_on e.2 fun x hx y hy=>h x (by simp [hx]) y (by simp [hy])]
def Kids (ρ:Rho):{k:Nat}→Tr k→Prop
 | 0,n=>∀i∈n.2,lng i=true→(ρ i.ad).1≠0
 | _+1,n=>∀u∈n.2,(ρ (adr u)).1≠0
def AllP (ρ:Rho):{k:Nat}→Tr k→Prop
 | 0,n=>(∀i∈n.2,lng i=true→(ρ i.ad).1≠0)∧(ρ n.1).1≠0
 | k+1,n=>(∀u∈n.2,AllP ρ (k:=k) u)∧(ρ n.1).1≠0
def Ext (ρ ρ':Rho):Prop:=∀b,(ρ b).1≠0→ρ' b=ρ b
theorem Ext.refl (ρ:Rho):Ext ρ ρ:=fun _ _=>rfl
theorem Ext.trans {ρ ρ' ρ'':Rho} (h:Ext ρ ρ') (h':Ext ρ' ρ''):Ext ρ ρ'':=fun b hb=>by rw [h' b (by rw [h b hb];exact hb),h b hb]
theorem Ext.put {ρ ρ':Rho} (h:Ext ρ ρ') {b:Nat} (hb:(ρ b).1≠0):(ρ' b).1≠0:=by rw [h b hb];exact hb
theorem Ext.upd {ρ:Rho}{b:Nat} (h:(ρ b).1=0) (r:Nat × Nat):Ext ρ (updR ρ b r):=fun x hx=>updR_ne ρ r (fun e=>hx (by rw [e];exact h))
theorem Kids.ext {ρ ρ':Rho} (h:Ext ρ ρ'):{k:Nat}→{n:Tr k}→Kids ρ n→Kids ρ' n
 | 0,_,hk=>fun i hi hl=>h.put (hk i hi hl)
 | _+1,_,hk=>fun u hu=>h.put (hk u hu)
theorem AllP.top {ρ:Rho}:{k:Nat}→{n:Tr k}→AllP ρ n→(ρ (adr n)).1≠0
 | 0,_,h=>h.2
 | _+1,_,h=>h.2
theorem flatMap_congr {α β:Type}{f g:α→List β}:∀{l:List α},(∀x∈l,f x=g x)→l.flatMap f=l.flatMap g
 | [],_=>rfl
 | a::l,h=>by rw [List.flatMap_cons,List.flatMap_cons,h a (by simp),flatMap_congr fun x hx=>h x (by simp [hx])]
theorem encItem_ext {ρ ρ':Rho}{i:Itm} (h:lng i=true→ρ' i.ad=ρ i.ad):encItem ρ' i=encItem ρ i:=by
 unfold encItem
 cases e:lng i with
 | false=>rfl
 | true=>rw [h e]
theorem encNode_ext {ρ ρ':Rho} (h:Ext ρ ρ') (kd:UInt8):{k:Nat}→{n:Tr k}→Kids ρ n→encNode kd ρ' n=encNode kd ρ n
 | 0,n,hk=>by
  have e:encKids ρ' n=encKids ρ n:=flatMap_congr fun i hi=>encItem_ext fun hl=>h _ (hk i hi hl)
  unfold encNode
  rw [e]
 | k+1,n,hk=>by
  have e:encKids ρ' n=encKids ρ n:=flatMap_congr fun u hu=>by
   show encRef (ρ' (adr u))=encRef (ρ (adr u))
   rw [h _ (hk u hu)]
  unfold encNode
  rw [e]
section
variable {w w':World}{T T':Nat→Prop}{ρ ρ':Rho}
theorem IsB.det {a lv lv':Nat}{r r':Nat × Nat}{is us is' us':List Nat} (h:IsB w T a r lv is us) (h':IsB w T' a r' lv' is' us'):lv=lv'∧is=is'∧us=us':=by
 obtain ⟨vi,vu,h1,h2,h3,_⟩:=h
 obtain ⟨vi',vu',h1',h2',h3',_⟩:=h'
 rw [h1] at h1'
 simp at h1'
 obtain ⟨_,_,h4,h5,h6⟩:=h1'
 subst h5 h6
 exact ⟨by omega,h2.det h2',h3.det h3'⟩
theorem IsN.det:{k:Nat}→{m m':Tr k}→IsN w T ρ m→IsN w T' ρ' m'→adr m=adr m'→m=m'
 | 0,m,m',h,h',e=>by
  have h1:=h.1
  have e':m.1=m'.1:=e
  rw [e'] at h1
  obtain ⟨_,h2,_⟩:=h1.det h'.1
  exact Prod.ext e' (map_inj_on h2 fun x hx y hy exy=>(h.2 x hx).det (h'.2 y hy) exy)
 | k+1,m,m',h,h',e=>by
  have h1:=h.1
  have e':m.1=m'.1:=e
  rw [e'] at h1
  obtain ⟨_,_,h2⟩:=h1.det h'.1
  exact Prod.ext e' (map_inj_on h2 fun x hx y hy exy=>IsN.det (h.2 x hx) (h'.2 y hy) exy)
theorem IsN.lev {k k':Nat}{m:Tr k}{m':Tr k'} (h:IsN w T ρ m) (h':IsN w T' ρ' m') (e:adr m=adr m'):k=k':=by
 have h1:=h.isB
 rw [e] at h1
 exact (h1.det h'.isB).1
theorem IsN.noItem {k:Nat}{m:Tr k}{i:Itm} (h:IsN w T ρ m) (h':IsI w T' ρ' i):adr m≠i.ad:=fun e=>by
 obtain ⟨vi,vu,h1,_⟩:=h.isB
 obtain ⟨v,h2,_⟩:=h'
 rw [e,h2] at h1
 simp at h1
theorem ReadsP.turnedP {b:Nat}{r:Nat × Nat}{v:Value}{l:List Nat} (hr:ReadsP w v l) (t:Turned w w' T b r) (hf:l≠[]→∀g,v.ownBlock=some g→T g):ReadsP w' v l:=by
 obtain ⟨x0,x1,xs,ty,h1,h2,h3,S,k,hS⟩:=t
 exact hr.keptE k (fun hl g hg hm=>by
  rcases List.mem_cons.1 hm with rfl|hm
  ·obtain ⟨x,hx⟩:∃x,l[0]?=some x:=⟨_,List.getElem?_eq_getElem (List.length_pos_iff.2 hl)⟩
   obtain ⟨b',o,c,rfl,hc⟩:=hr.at 0 x hx
   have e:b'=g:=by simpa [Value.ownBlock] using hg
   subst e
   exact (odd_cell h1 h3 hc).2 x rfl
  ·exact hS g hm (hf hl g hg))
structure Kap where
 kd:Nat→UInt8
 nm:Nat→Prop
 bk:Nat→Prop
def HasText (w:World) (T:Nat→Prop) (κ:Kap) (ρ:Rho) (b:Nat) (l:List UInt8):Prop :=
 (∃i,IsI w T ρ i∧i.ad=b∧lng i=true∧l=1::i.val.drop 1)∨∃(k:Nat) (m:Tr k),IsN w T ρ m∧adr m=b∧Kids ρ m∧l=encNode (κ.kd b) ρ m
structure GI (w:World) (T:Nat→Prop) (κ:Kap) (ρ:Rho) (L:List Ent):Prop where
 laid:∀b,(ρ b).1≠0→∃bs l,((ρ b).1,bs,l)∈L∧(ρ b).2=fnv l∧HasText w T κ ρ b l
 inj:∀a b,(ρ a).1≠0→(ρ a).1=(ρ b).1→a=b
 back:∀e∈L,κ.nm e.1∨∃b,(ρ b).1≠0∧(ρ b).1=e.1
 fresh:∀b,(ρ b).1≠0→κ.bk b∨¬κ.nm (ρ b).1
 olds:∀x,κ.nm x→x∈L.map (·.1)
theorem HasText.go {κ:Kap}{b:Nat}{l:List UInt8} (h:HasText w T κ ρ b l) (hx:Ext ρ ρ') (hI:∀{i},IsI w T ρ i→IsI w' T ρ' i) (hN:∀{k:Nat}{m:Tr k},IsN w T ρ m→IsN w' T ρ' m):HasText w' T κ ρ' b l:=by
 rcases h with ⟨i,h1,h2,h3,h4⟩|⟨k,m,h1,h2,h3,h4⟩
 ·exact .inl ⟨i,hI h1,h2,h3,h4⟩
 ·exact .inr ⟨k,m,hN h1,h2,h3.ext hx,by rw [encNode_ext hx _ h3];exact h4⟩
theorem GI.go {κ:Kap}{L:List Ent} (h:GI w T κ ρ L) (hI:∀{i},IsI w T ρ i→IsI w' T ρ i) (hN:∀{k:Nat}{m:Tr k},IsN w T ρ m→IsN w' T ρ m):GI w' T κ ρ L :=
 ⟨fun b hb=>by
  obtain ⟨bs,l,h1,h2,h3⟩:=h.laid b hb
  exact ⟨bs,l,h1,h2,h3.go (Ext.refl ρ) hI hN⟩,h.inj,h.back,h.fresh,h.olds⟩
theorem GI.kept {κ:Kap}{L:List Ent} (h:GI w T κ ρ L) (k:Kept [] w w'):GI w' T κ ρ L:=h.go (fun h=>h.kept k (by simp)) (fun h=>h.kept k (by simp))
theorem GI.name {κ:Kap}{L:List Ent} (h:GI w T κ ρ L) {b:Nat} (hb:(ρ b).1≠0):(ρ b).1∈L.map (·.1):=by
 obtain ⟨bs,l,h1,_⟩:=h.laid b hb
 exact List.mem_map.2 ⟨_,h1,rfl⟩
theorem GI.next {κ:Kap}{L:List Ent} (h:GI w T κ ρ L) {b nm:Nat}{l:List UInt8} (t:Turned w w' T b (nm,fnv l)) (h0:(ρ b).1=0) (ht:HasText w' T κ (updR ρ b (nm,fnv l)) b l) (hn:nm∉L.map (·.1)) (hz:nm≠0) (bs:List Nat):GI w' T κ (updR ρ b (nm,fnv l)) (L++[(nm,bs,l)]):=by
 refine ⟨fun x hx=>?_,fun x y hx e=>?_,fun e he=>?_,fun x hx=>?_,fun x hx=>by rw [List.map_append];exact List.mem_append_left _ (h.olds x hx)⟩
 ·by_cases e:x=b
  ·subst e
   rw [updR_same]
   exact ⟨bs,l,by simp,rfl,ht⟩
  ·rw [updR_ne ρ _ e] at hx ⊢
   obtain ⟨bs',l',h1,h2,h3⟩:=h.laid x hx
   exact ⟨bs',l',List.mem_append_left _ h1,h2,h3.go (Ext.upd h0 _) (fun h=>h.turned t) (fun h=>h.turned t)⟩
 ·by_cases ex:x=b
  ·by_cases ey:y=b
   ·rw [ex,ey]
   ·subst ex
    rw [updR_same,updR_ne ρ _ ey] at e
    have e:nm=(ρ y).1:=e
    exact absurd (e▸h.name (b:=y) (by rw [←e];exact hz)) hn
  ·by_cases ey:y=b
   ·subst ey
    rw [updR_same,updR_ne ρ _ ex] at e
    have e:(ρ x).1=nm:=e
    rw [updR_ne ρ _ ex] at hx
    exact absurd (e▸h.name hx) hn
   ·rw [updR_ne ρ _ ex] at hx e
    rw [updR_ne ρ _ ey] at e
    exact h.inj x y hx e
 ·rcases List.mem_append.1 he with he|he
  ·rcases h.back e he with h1|⟨c,h1,h2⟩
   ·exact .inl h1
   ·refine .inr ⟨c,?_⟩
    have hc:c≠b:=fun e=>h1 (by rw [e];exact h0)
    rw [updR_ne ρ _ hc]
    exact ⟨h1,h2⟩
  ·rw [List.mem_singleton.1 he]
   refine .inr ⟨b,?_⟩
   rw [updR_same]
   exact ⟨hz,rfl⟩
 ·by_cases ex:x=b
  ·subst ex
   rw [updR_same]
   exact .inr fun hk=>hn (h.olds nm hk)
  ·rw [updR_ne ρ _ ex] at hx ⊢
   exact h.fresh x hx
theorem GI.all {κ:Kap}{L:List Ent} (h:GI w T κ ρ L):{k:Nat}→{m:Tr k}→IsN w T ρ m→(ρ (adr m)).1≠0→AllP ρ m:=by
 have key:∀{k:Nat}{m:Tr k},IsN w T ρ m→(ρ (adr m)).1≠0→Kids ρ m:=fun {k m} hm hp=>by
  obtain ⟨_,_,_,_,h3⟩:=h.laid _ hp
  rcases h3 with ⟨i,h1,h2,_⟩|⟨k',m',h1,h2,h3,_⟩
  ·exact absurd h2.symm (hm.noItem h1)
  ·have e:=hm.lev h1 h2.symm
   subst e
   rw [hm.det h1 h2.symm]
   exact h3
 intro k
 induction k with
 | zero=>exact fun hm hp=>⟨key hm hp,hp⟩
 | succ k ih=>exact fun hm hp=>⟨fun u hu=>ih (hm.2 u hu) (key hm hp u hu),hp⟩
end
def blks:{k:Nat}→Tr k→List Nat
 | 0,n=>n.1::n.2.map Itm.ad
 | k+1,n=>n.1::n.2.flatMap (blks (k:=k))
theorem blks_mem {w:World}{T:Nat→Prop}{ρ:Rho}{b:Nat}:{k:Nat}→{n:Tr k}→IsN w T ρ n→b∈blks n→(∃i,IsI w T ρ i∧i.ad=b)∨∃(j:Nat) (m:Tr j),j≤k∧IsN w T ρ m∧adr m=b
 | 0,n,h,hb=>by
  rcases List.mem_cons.1 hb with rfl|hb
  ·exact .inr ⟨0,n,Nat.le_refl _,h,rfl⟩
  ·obtain ⟨i,hi,rfl⟩:=List.mem_map.1 hb
   exact .inl ⟨i,h.2 i hi,rfl⟩
 | k+1,n,h,hb=>by
  rcases List.mem_cons.1 hb with rfl|hb
  ·exact .inr ⟨k+1,n,Nat.le_refl _,h,rfl⟩
  ·obtain ⟨u,hu,hb⟩:=List.mem_flatMap.1 hb
   rcases blks_mem (h.2 u hu) hb with h1|⟨j,m,hj,h2,h3⟩
   ·exact .inl h1
   ·exact .inr ⟨j,m,by omega,h2,h3⟩
theorem blks_lt {w:World}{T:Nat→Prop}{ρ:Rho}{b k:Nat}{n:Tr k} (h:IsN w T ρ n) (hb:b∈blks n):b<w.heap.size:=by
 rcases blks_mem h hb with ⟨i,hi,rfl⟩|⟨j,m,_,hm,rfl⟩
 ·exact hi.lt
 ·exact hm.lt
theorem blks_below {w:World}{T:Nat→Prop}{ρ:Rho}{k:Nat}{n:Tr (k+1)} (h:IsN w T ρ n) {u:Tr k} (hu:u∈n.2):n.1∉blks u:=fun hb=>by
 rcases blks_mem (h.2 u hu) hb with ⟨i,hi,e⟩|⟨j,m,hj,hm,e⟩
 ·exact h.noItem hi e.symm
 ·have:=h.lev hm e.symm
  omega
theorem blks_self:{k:Nat}→(n:Tr k)→adr n∈blks n
 | 0,n=>List.mem_cons_self
 | _+1,n=>List.mem_cons_self
structure Lay (g:Prop) (w0:World) (T Z:Nat→Prop) (κ:Kap) (lb p q fr ct:Nat) (w:World) (ρ:Rho) (names:List Nat) (s:St) (L:List Ent) (fl:List Nat):Prop where
 ly:∃vn X,Ly w0 w (fun b=>T b∨Z b) lb p vn names q s fr ct L fl X
 lt:∀x,T x∨Z x→x<w.heap.size
 ge:∀x,T x∨Z x→w0.heap.size≤x
 tz:∀x,T x→¬Z x
 ok:RhoOk ρ
 gi:g→GI w T κ ρ L
 fr1:1≤fr
structure Went (T Z C:Nat→Prop) (B:Nat) (w:World) (ρ:Rho) (names:List Nat) (s:St) (L:List Ent) (fl:List Nat) (w':World) (ρ':Rho) (names':List Nat) (s':St) (L':List Ent) (fl':List Nat):Prop where
 trees:∀{k:Nat}{m:Tr k},IsN w T ρ m→IsN w' T ρ' m
 items:∀{i:Itm},IsI w T ρ i→IsI w' T ρ' i
 ext:Ext ρ ρ'
 only:∀b,¬C b→ρ' b=ρ b
 rows:∀{v:Value}{l:List Nat},ReadsP w v l→(l≠[]→∀x,v.ownBlock=some x→T x)→ReadsP w' v l
 kp:KP Z w w'
 made:∃(E:List Ent) (m:Nat) (vs:List Wr),L'=L++E∧names'=names++E.map (·.1)∧fl'=fl.drop m∧m≤B∧E.length≤m∧s'.ws=s.ws++vs∧vs.length≤B∧s'.nb=s.nb∧(s'.down=false→∀x∈vs,x.1∈fl)∧(s.fuse<0→s'.fuse=s.fuse∧s'.down=s.down)
section
variable {T Z C C':Nat→Prop}{B D:Nat}{w w1 w2:World}{ρ ρ1 ρ2:Rho}{names names1 names2:List Nat}{s s1 s2:St}{L L1 L2:List Ent}{fl fl1 fl2:List Nat}
theorem Went.refl:Went T Z C B w ρ names s L fl w ρ names s L fl :=
 ⟨fun h=>h,fun h=>h,Ext.refl ρ,fun _ _=>rfl,fun h _=>h,KP.refl Z w,[],0,[],by simp,by simp,rfl,by omega,by simp,by simp,by simp,rfl,by simp,fun _=>⟨rfl,rfl⟩⟩
theorem Went.more (h:Went T Z C B w ρ names s L fl w1 ρ1 names1 s1 L1 fl1) (hB:B≤D):Went T Z C D w ρ names s L fl w1 ρ1 names1 s1 L1 fl1:=by
 obtain ⟨h1,h2,h3,h0,hr,h4,E,m,vs,e1,e2,e3,e4,e5,e6,e7,e8⟩:=h
 exact ⟨h1,h2,h3,h0,hr,h4,E,m,vs,e1,e2,e3,by omega,e5,e6,by omega,e8⟩
theorem Went.trans (h:Went T Z C B w ρ names s L fl w1 ρ1 names1 s1 L1 fl1) (hd:s1.down=false) (h':Went T Z C D w1 ρ1 names1 s1 L1 fl1 w2 ρ2 names2 s2 L2 fl2):Went T Z C (B+D) w ρ names s L fl w2 ρ2 names2 s2 L2 fl2:=by
 obtain ⟨h1,h2,h3,h0,hr,h4,E,m,vs,e1,e2,e3,e4,e5,e6,e7,e8,e9,e10⟩:=h
 obtain ⟨h1',h2',h3',h0',hr',h4',E',m',vs',e1',e2',e3',e4',e5',e6',e7',e8',e9',e10'⟩:=h'
 refine ⟨fun h=>h1' (h1 h),fun h=>h2' (h2 h),h3.trans h3',fun b hb=>(h0' b hb).trans (h0 b hb),fun h ht=>hr' (hr h ht) ht,h4.trans h4',E++E',m+m',vs++vs',by rw [e1',e1];simp,by rw [e2',e2];simp,by rw [e3',e3,List.drop_drop],by omega,by simp;omega,by rw [e6',e6];simp,by simp;omega,by rw [e8',e8],fun hd2 x hx=>?_,fun hf=>?_⟩
 ·rcases List.mem_append.1 hx with hx|hx
  ·exact e9 hd x hx
  ·have:=e9' hd2 x hx
   rw [e3] at this
   exact List.mem_of_mem_drop this
 ·obtain ⟨a1,a2⟩:=e10 hf
  obtain ⟨b1,b2⟩:=e10' (by rw [a1];exact hf)
  exact ⟨b1.trans a1,b2.trans a2⟩
theorem Went.wide (h:Went T Z C B w ρ names s L fl w1 ρ1 names1 s1 L1 fl1) (hC:∀b,C b→C' b):Went T Z C' B w ρ names s L fl w1 ρ1 names1 s1 L1 fl1:=by
 obtain ⟨h1,h2,h3,h0,hr,h4,h5⟩:=h
 exact ⟨h1,h2,h3,fun b hb=>h0 b (fun hc=>hb (hC b hc)),hr,h4,h5⟩
theorem Went.left (h:Went T Z C B w ρ names s L fl w1 ρ1 names1 s1 L1 fl1) (hf:B+D≤fl.length):D≤fl1.length:=by
 obtain ⟨_,_,_,_,_,_,E,m,vs,e1,e2,e3,e4,_⟩:=h
 rw [e3,List.length_drop]
 omega
theorem Went.writes (h:Went T Z C B w ρ names s L fl w1 ρ1 names1 s1 L1 fl1):s1.ws.length≤s.ws.length+B:=by
 obtain ⟨_,_,_,_,_,_,E,m,vs,e1,e2,e3,e4,e5,e6,e7,_⟩:=h
 rw [e6,List.length_append]
 omega
theorem Went.many (h:Went T Z C B w ρ names s L fl w1 ρ1 names1 s1 L1 fl1):names1.length≤names.length+B:=by
 obtain ⟨_,_,_,_,_,_,E,m,vs,e1,e2,e3,e4,e5,_⟩:=h
 rw [e2,List.length_append,List.length_map]
 omega
structure Room (B:Nat) (names:List Nat) (s:St) (fl:List Nat):Prop where
 free:B≤fl.length
 ws:s.ws.length+B≤90000
 many:names.length+B≤900000
 up:s.down=false
theorem Room.less (h:Room D names s fl) (hB:B≤D):Room B names s fl:=⟨by have:=h.free;omega,by have:=h.ws;omega,by have:=h.many;omega,h.up⟩
theorem Room.next (h:Room (B+D) names s fl) (hw:Went T Z C B w ρ names s L fl w1 ρ1 names1 s1 L1 fl1) (hd:s1.down=false):Room D names1 s1 fl1 :=
 ⟨hw.left h.free,by have:=hw.writes;have:=h.ws;omega,by have:=hw.many;have:=h.many;omega,hd⟩
end
def Laying (g:Prop) (w0:World) (T Z:Nat→Prop) (κ:Kap) (lb p q fr ct:Nat) (C:Nat→Prop) (B:Nat) (w:World) (ρ:Rho) (names:List Nat) (s:St) (L:List Ent) (fl:List Nat) (D:Rho→Prop) (er:Int) (w':World):Prop :=
 ∃ρ' names' s' L' fl',Lay g w0 T Z κ lb p q fr ct w' ρ' names' s' L' fl'∧Went T Z C B w ρ names s L fl w' ρ' names' s' L' fl'∧((er=0∧s'.down=false∧D ρ')∨(er=9∧s'.down=true))
section
variable {g:Prop}{w0:World}{T Z C:Nat→Prop}{κ:Kap}{lb p q fr ct:Nat}{B:Nat}{w w1:World}{ρ:Rho}{names:List Nat}{s:St}{L:List Ent}{fl:List Nat}
theorem Lay.kept (h:Lay g w0 T Z κ lb p q fr ct w ρ names s L fl) (k:Kept [] w w1):Lay g w0 T Z κ lb p q fr ct w1 ρ names s L fl:=by
 obtain ⟨vn,X,hl⟩:=h.ly
 exact ⟨⟨vn,X,hl.kept k h.lt⟩,fun x hx=>Nat.lt_of_lt_of_le (h.lt x hx) k.size,h.ge,h.tz,h.ok,fun hg=>(h.gi hg).kept k,h.fr1⟩
theorem Went.same (k:Kept [] w w1):Went T Z C B w ρ names s L fl w1 ρ names s L fl :=
 ⟨fun h=>h.kept k (by simp),fun h=>h.kept k (by simp),Ext.refl ρ,fun _ _=>rfl,fun h _=>h.kept k (by simp),KP.of k,[],0,[],by simp,by simp,rfl,by omega,by simp,by simp,by simp,rfl,by simp,fun _=>⟨rfl,rfl⟩⟩
theorem lay_put (h:Lay g w0 T Z κ lb p q fr ct w ρ names s L fl) (k1:Kept [] w w1) {v:Value}{l:List UInt8} (ho:Owns 5 w1 v l) (hf:Fresh w v) {ib:Nat} (hib:T ib) (h0:(ρ ib).1=0) (hodd:∃x0 x1 xs ty,w1.heap[ib]?=some (.cells (x0::x1::xs).toArray ty (0,0))∧Odd (x0::x1::xs)) (hll:l.length≤20000) (hR:Room B names s fl) (hB:bks l.length≤B)
  (ht:g→∀w' r,Turned w1 w' T ib r→HasText w' T κ (updR ρ ib r) ib l) :
  Calls Tryz.prog 127 #[Pp lb,Pp ib,v] w1 fun e w'=>∃er:Int,e=.returned (.int .i64 er)∧Laying g w0 T Z κ lb p q fr ct (fun b=>b=ib) B w ρ names s L fl (fun ρ'=>(ρ' ib).1≠0) er w':=by
 have h1:=h.kept k1
 obtain ⟨vn,X,hl⟩:=h.ly
 have hl1:=hl.kept k1 h.lt
 obtain ⟨a,c,rfl⟩:=ho.form
 obtain ⟨x0,x1,xs,ty,hb,hod⟩:=hodd
 have hsy:=SyP.more (Y:=fun b=>(Value.slice a l.length c).ownBlock=some b) hl.sy k1 hf
 have hfree:=hR.free
 by_cases hfu:s.fuse<0∨(bks l.length:Int)≤s.fuse
 ·refine (ly_put hl1 h1.lt h1.ge hb hod (.inl hib) a l.length c l rfl ho.reads (fun x hx=>?_) (by have:=hR.many;omega) hll (by omega) hR.up hfu (by have:=hR.ws;omega) hsy (fun x hx=>ho.lt hx)).mono ?_
  ·have h2:=hf x hx
   refine ⟨fun e=>?_,fun e=>?_⟩
   ·have:=hl.low lb hl.xl;omega
   ·have:=hl.low x (hl.xn x e);omega
  ·rintro e w' ⟨rfl,nm,vs,fu,vn',g1,g2,g3,g4,hT,hsz,hl'⟩
   have hT2:Turned w1 w' T ib (nm,fnv l):=by
    obtain ⟨y0,y1,ys,ty',a1,a2,a3,S,k,hS⟩:=hT
    exact ⟨y0,y1,ys,ty',a1,a2,a3,S,k,fun x hx hT=>hS x hx (.inl hT)⟩
   have hnm:nm∈fl:=List.mem_of_mem_head? g1
   have hin:=hl.sy.ok.mem (List.mem_append_right _ hnm)
   have har:=hl.sy.ok.area
   have hnb:=hl.sy.ok.nb
   have hf1:=h.fr1
   refine ⟨0,rfl,updR ρ ib (nm,fnv l),names++[nm],_,_,_,⟨⟨vn',_,hl'⟩,fun x hx=>Nat.lt_of_lt_of_le (h1.lt x hx) hsz,h.ge,h.tz,fun b=>?_,fun hg=>(h1.gi hg).next hT2 h0 (ht hg _ _ hT2) (hl.sy.ok.newName hnm) (by omega) _,h.fr1⟩,⟨fun hm=>(hm.kept k1 (by simp)).turned hT2,fun hm=>(hm.kept k1 (by simp)).turned hT2,Ext.upd h0 _,fun b hb=>updR_ne ρ _ hb,fun hm ht=>(hm.kept k1 (by simp)).turnedP hT2 ht,(KP.of k1).trans ?_,[(nm,fl.take (bks l.length),l)],bks l.length,vs,rfl,rfl,rfl,hB,?_,rfl,by omega,rfl,fun _ x hx=>List.mem_of_mem_take (g3 x hx),fun hf=>⟨g4 hf,rfl⟩⟩,.inl ⟨rfl,hR.up,?_⟩⟩
   ·by_cases e:b=ib
    ·subst e
     rw [updR_same]
     exact ⟨by omega,fnv_lt l⟩
    ·rw [updR_ne ρ _ e]
     exact h.ok b
   ·obtain ⟨_,_,_,_,_,_,_,S,k,hS⟩:=hT
    exact ⟨_,k,fun x hx hm=>by
     rcases List.mem_cons.1 hm with e|e
     ·subst e;exact h.tz _ hib hx
     ·exact hS x e (.inr hx)⟩
   ·have:=bks_pos l.length
    simp
    omega
   ·show (updR ρ ib (nm,fnv l) ib).1≠0
    rw [updR_same]
    show nm≠0
    omega
 ·obtain ⟨f,hf2⟩:∃f:Nat,s.fuse=(f:Int):=⟨s.fuse.toNat,by omega⟩
  refine (ly_lost hl1 h1.lt a l.length c l rfl ho.reads hll (by omega) hR.up f hf2 (by omega) (by have:=hR.ws;omega) hsy (fun x hx=>ho.lt hx)).mono ?_
  rintro e w' ⟨rfl,vs,g1,hl',S,k,hS⟩
  have hT:∀x∈S,¬T x:=fun x hx hm=>hS x hx (.inl hm)
  refine ⟨9,rfl,ρ,names,_,L,fl,⟨⟨vn,X,hl'⟩,fun x hx=>Nat.lt_of_lt_of_le (h1.lt x hx) k.size,h.ge,h.tz,h.ok,fun hg=>(h1.gi hg).go (fun h=>h.kept k hT) (fun h=>h.kept k hT),h.fr1⟩,⟨fun hm=>(hm.kept k1 (by simp)).kept k hT,fun hm=>(hm.kept k1 (by simp)).kept k hT,Ext.refl ρ,fun _ _=>rfl,fun hm ht=>(hm.kept k1 (by simp)).keptE k (fun hl g hg hm=>hT g hm (ht hl g hg)),(KP.of k1).trans ⟨S,k,fun x hx hm=>hS x hm (.inr hx)⟩,[],0,vs,by simp,by simp,rfl,by omega,by simp,rfl,by omega,rfl,by simp,fun hf=>by omega⟩,.inr ⟨rfl,rfl⟩⟩
end
def Inner (κ:Kap):{k:Nat}→Tr k→Prop
 | 0,_=>True
 | k+1,n=>∀u∈n.2,κ.kd (adr u)=3∧Inner κ (k:=k) u
theorem sum_le_sum {α:Type}{f g:α→Nat}:∀{l:List α},(∀x∈l,f x≤g x)→(l.map f).sum≤(l.map g).sum
 | [],_=>by simp
 | a::l,h=>by
  have h1:=h a (by simp)
  have h2:=sum_le_sum (l:=l) fun x hx=>h x (by simp [hx])
  simp only [List.map_cons,List.sum_cons]
  omega
theorem ib_ext {ρ ρ':Rho} (h:Ext ρ ρ') (i:Itm):ib ρ' i≤ib ρ i:=by
 unfold ib
 by_cases h0:lng i=true∧(ρ i.ad).1=0
 ·rw [if_pos h0]
  split<;>omega
 ·rw [if_neg h0,if_neg]
  ·omega
  ·rintro ⟨h1,h2⟩
   exact h0 ⟨h1,Classical.byContradiction fun hn=>h.put hn h2⟩
theorem bl_ext {ρ ρ':Rho} (h:Ext ρ ρ'):{k:Nat}→(n:Tr k)→bl ρ' n≤bl ρ n
 | 0,n=>by
  have h1:=sum_le_sum (l:=n.2) fun i _=>ib_ext h i
  show (if (ρ' n.1).1=0 then _ else _)≤(if (ρ n.1).1=0 then _ else _)
  by_cases h0:(ρ n.1).1=0
  ·rw [if_pos h0]
   split<;>omega
  ·rw [if_neg (h.put h0)]
   omega
 | k+1,n=>by
  have h1:=sum_le_sum (l:=n.2) fun u _=>bl_ext h u
  show (if (ρ' n.1).1=0 then _ else _)≤(if (ρ n.1).1=0 then _ else _)
  by_cases h0:(ρ n.1).1=0
  ·rw [if_pos h0]
   split<;>omega
  ·rw [if_neg (h.put h0)]
   omega
theorem encNode_len {ρ:Rho}{kd:UInt8}:{k:Nat}→{n:Tr k}→Wf n→(encNode kd ρ n).length≤238
 | 0,n,h=>by
  have h1:=enc_len_le (encItem ρ) isz encItem_le n.2
  have h2:(n.2.map isz).sum≤236:=h.2
  show ([kd,by8 0 0]++n.2.flatMap (encItem ρ)).length≤238
  rw [List.length_append]
  show 2+_≤238
  omega
 | k+1,n,h=>by
  have h1:=h.2.1
  show ([kd,by8 (k+1) 0]++n.2.flatMap fun u=>encRef (ρ (adr u))).length≤238
  rw [List.length_append]
  have:∀l:List (Tr k),(l.flatMap fun u=>encRef (ρ (adr u))).length=10*l.length:=fun l=>by
   induction l with
   | nil=>rfl
   | cons a l ih=>rw [List.flatMap_cons,List.length_append,ih,encRef_length,List.length_cons];omega
  rw [this]
  show 2+_≤238
  omega
section
variable {g:Prop}{w0:World}{T Z:Nat→Prop}{κ:Kap}{lb p q fr ct:Nat}{w:World}{ρ:Rho}{names:List Nat}{s:St}{L:List Ent}{fl:List Nat}
theorem item_laid (h:Lay g w0 T Z κ lb p q fr ct w ρ names s L fl) {i:Itm} (hI:IsI w T ρ i) (hk:i.key.length≤64) (hv:i.val.length≤20000) (hlg:lng i=true) (h0:(ρ i.ad).1=0) (hR:Room (ib ρ i) names s fl) :
  Calls Tryz.prog 128 #[Pp i.ad] w fun e w1=>∃v,e=.returned v∧Calls Tryz.prog 127 #[Pp lb,Pp i.ad,v] w1 fun e w'=>∃er:Int,e=.returned (.int .i64 er)∧Laying g w0 T Z κ lb p q fr ct (fun b=>b=i.ad) (ib ρ i) w ρ names s L fl (fun ρ'=>(ρ' i.ad).1≠0) er w':=by
 have hl:236<3+i.key.length+i.val.length:=by simpa [lng] using hlg
 refine (itemText_any hI (by omega) hv).mono ?_
 rintro e w1 ⟨v,rfl,ho,k1,hf⟩
 have hlen:(1::i.val.drop 1:List UInt8).length=i.val.length:=by simp;omega
 have hT:T i.ad:=by obtain ⟨_,_,_,h3,_⟩:=hI;exact h3
 refine ⟨v,rfl,lay_put h k1 ho hf hT h0 (hI.kept k1 (by simp)).odd (by rw [hlen];exact hv) hR ?_ fun _ w' r t=>.inl ⟨i,(hI.kept k1 (by simp)).turned t,rfl,hlg,rfl⟩⟩
 rw [hlen]
 unfold ib
 rw [if_pos ⟨hlg,h0⟩]
 unfold bks
 omega
theorem node_laid (h:Lay g w0 T Z κ lb p q fr ct w ρ names s L fl) {k:Nat}{n:Tr k} (hN:IsN w T ρ n) (hkl:k≤100000) (hW:Wf n) (hsz:Sized (its n)) (hK:Kids ρ n) (kd:UInt8) (hkd:g→κ.kd (adr n)=kd) (h0:(ρ (adr n)).1=0) (hR:Room 1 names s fl) :
  Calls Tryz.prog 129 #[Pp (adr n),.int .u8 (kd.toNat:Int)] w fun e w1=>∃v,e=.returned v∧Calls Tryz.prog 127 #[Pp lb,Pp (adr n),v] w1 fun e w'=>∃er:Int,e=.returned (.int .i64 er)∧Laying g w0 T Z κ lb p q fr ct (fun b=>b=adr n) 1 w ρ names s L fl (fun ρ'=>(ρ' (adr n)).1≠0) er w':=by
 refine (nodeText_any hN hkl hW hsz h.ok kd).mono ?_
 rintro e w1 ⟨v,rfl,ho,k1,hf⟩
 have hlen:=encNode_len (ρ:=ρ) (kd:=kd) hW
 refine ⟨v,rfl,lay_put h k1 ho hf hN.inF h0 (hN.kept k1 (by simp)).odd (by omega) hR ?_ fun hg w' r t=>.inr ⟨k,n,(hN.kept k1 (by simp)).turned t,rfl,hK.ext (Ext.upd h0 r),by rw [encNode_ext (Ext.upd h0 r) _ hK,hkd hg]⟩⟩
 unfold bks
 omega
end
end Go.Proofs.YtgpbhlfdlkemjaaGreat
