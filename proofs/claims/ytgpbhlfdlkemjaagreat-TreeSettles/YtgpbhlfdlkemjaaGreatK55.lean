import Derived.Test.YtgpbhlfdlkemjaaGreatK52
import Derived.Test.YtgpbhlfdlkemjaaGreatK54
/-
 What a table weighs; a Tree's disk and free blocks; SameInts.
-/
namespace Go.Proofs.YtgpbhlfdlkemjaaGreat
open Go.RowKit
set_option linter.unusedVariables false
theorem sum_tset (f:KV→Nat) (T:List KV) (c:Cg):((tset T c).map f).sum≤(T.map f).sum+f (c.key,c.val):=by
 unfold tset
 have h:∀ l:List KV,((l.filter (fun x=>decide (x.1<c.key))).map f).sum+((l.filter (fun x=>decide (c.key<x.1))).map f).sum≤(l.map f).sum:=by
  intro l
  induction l with
  | nil=>simp
  | cons a l ih =>
   by_cases h1:a.1<c.key
   ·have h2:=klt_asymm h1
    simp only [List.filter_cons,h1,h2,decide_true,decide_false,if_true,List.map_cons,List.sum_cons]
    simp
    omega
   ·by_cases h2:c.key<a.1
    ·simp only [List.filter_cons,h1,h2,decide_true,decide_false,if_true,List.map_cons,List.sum_cons]
     simp
     omega
    ·simp only [List.filter_cons,h1,h2,decide_false,List.map_cons,List.sum_cons]
     simp
     omega
 have h1:=h T
 have h2:((if c.gone then [] else [(c.key,c.val)]:List KV).map f).sum≤f (c.key,c.val):=by split <;> simp
 rw [List.map_append,List.map_append,List.sum_append,List.sum_append]
 omega
theorem sum_tapp (f:KV→Nat):∀ (cs:List Cg) (T:List KV),((tapp T cs).map f).sum≤(T.map f).sum+(cs.map fun c=>f (c.key,c.val)).sum
 | [],T=>by simp [tapp]
 | c::cs,T=>by
  have h1:=sum_tapp f cs (tset T c)
  have h2:=sum_tset f T c
  rw [tapp_cons,List.map_cons,List.sum_cons]
  omega
structure TOk (T:List KV) (n B:Nat):Prop where
 up:UpK T
 each:∀ x∈T,x.1.length≤64∧x.2.length≤20000
 len:T.length≤n
 sum:(T.map fun x=>x.2.length).sum≤B
theorem TOk.nil (n B:Nat):TOk [] n B:=⟨List.Pairwise.nil,by simp,by simp,by simp⟩
theorem each_tset {P:KV→Prop} {T:List KV} {c:Cg} (h:∀ x∈T,P x) (hc:P (c.key,c.val)):∀ x∈tset T c,P x:=fun x hx=>by
 rcases mem_tset.1 hx with ⟨_,rfl⟩|⟨h1,_⟩
 ·exact hc
 ·exact h x h1
theorem each_tapp {P:KV→Prop}:∀ (cs:List Cg) {T:List KV},(∀ x∈T,P x)→(∀ c∈cs,P (c.key,c.val))→∀ x∈tapp T cs,P x
 | [],_,h,_=>h
 | c::cs,_,h,hc=>each_tapp cs (each_tset h (hc c (by simp))) (fun d hd=>hc d (List.mem_cons_of_mem _ hd))
theorem TOk.app {T:List KV} {n B:Nat} (h:TOk T n B) {cs:List Cg} (hw:WrongIs cs 0):TOk (tapp T cs) (n+cs.length) (B+(cs.map fun c=>c.val.length).sum):=by
 obtain ⟨_,hz⟩:=hw.zero
 refine ⟨up_tapp _ h.up,each_tapp cs h.each (fun c hc=>⟨(hz c hc).2.1,(hz c hc).2.2⟩),?_,?_⟩
 ·have h1:=tapp_len cs T
  have h2:=h.len
  omega
 ·have h1:=sum_tapp (fun x=>x.2.length) cs T
  have h2:=h.sum
  simp only at h1
  omega
theorem TOk.more {T:List KV} {n B n' B':Nat} (h:TOk T n B) (hn:n≤n') (hB:B≤B'):TOk T n' B':=⟨h.up,h.each,Nat.le_trans h.len hn,Nat.le_trans h.sum hB⟩
theorem cstK_le (x:KV) (h:x.1.length≤64):119 * cstK x≤x.2.length:=by
 unfold cstK
 split <;> omega
theorem TOk.cost {T:List KV} {n B:Nat} (h:TOk T n B) (hB:B≤100000):(T.map cstK).sum≤900:=by
 have h1:∀ l:List KV,(∀ x∈l,x.1.length≤64)→119 * (l.map cstK).sum≤(l.map fun x=>x.2.length).sum:=by
  intro l
  induction l with
  | nil=>simp
  | cons a l ih =>
   intro hl
   have h1:=ih (fun x hx=>hl x (List.mem_cons_of_mem _ hx))
   have h2:=cstK_le a (hl a (by simp))
   simp only [List.map_cons,List.sum_cons]
   omega
 have h2:=h1 T (fun x hx=>(h.each x hx).1)
 have h3:=h.sum
 omega
theorem vals_wgt {rs:List Cq} (h:∀ x∈rs,x.c.val.length≤20000):((rs.map Cq.c).map fun c=>c.val.length).sum≤(rs.map wgt).sum:=by
 rw [List.map_map]
 induction rs with
 | nil=>simp
 | cons x rs ih =>
  have h1:=ih (fun y hy=>h y (List.mem_cons_of_mem _ hy))
  have h2:=h x (by simp)
  have h3:x.c.val.length≤wgt x:=by unfold wgt; omega
  simp only [List.map_cons,List.sum_cons]
  have h4:((fun c:Cg=>c.val.length)∘Cq.c) x=x.c.val.length:=rfl
  omega
theorem WrongIs.vals {rs:List Cq} (h:WrongIs (rs.map Cq.c) 0):((rs.map Cq.c).map fun c=>c.val.length).sum≤(rs.map wgt).sum:=vals_wgt fun x hx=>(h.zero.2 x.c (List.mem_map_of_mem hx)).2.2
theorem WrongIs.lit {l:List Cg} {er:Int} (h:WrongIs l er) (h0:er≠0):er=1∨er=4:=by
 rcases h with ⟨_,h⟩|⟨_,_,h⟩|⟨_,_,h⟩
 ·exact .inl h
 ·exact .inr h
 ·exact absurd h h0
theorem rises_one {a b l m:List Nat} (h:Rises a l) (h':Rises b m) (hp:l.Perm m):a=b :=
 List.Perm.eq_of_pairwise (le:=fun x y=>x≤y) (fun x y _ _ h1 h2=>Nat.le_antisymm h1 h2) (h.2.imp (fun h=>Nat.le_of_lt h)) (h'.2.imp (fun h=>Nat.le_of_lt h)) ((h.1.trans hp).trans h'.1.symm)
section
variable {w:World}
set_option maxRecDepth 100000 in
set_option maxHeartbeats 1000000 in
theorem sameInts_any {v v':Value} {l:List Nat} (hr:ReadsI w v l) (hr':ReadsI w v' l) (hl:l.length≤1000000):Calls Tryz.prog 26 #[v,v'] w fun e w'=>e=.returned (.bool true)∧Kept [] w w':=by
 obtain ⟨a,c,rfl,h1,h2⟩:=hr.form
 obtain ⟨a',c',rfl,h1',h2'⟩:=hr'.form
 have HR:=Hid.mk hr
 have HR':=Hid.mk hr'
 obtain ⟨N,hN⟩:∃ N,Hid (l.length=N):=⟨_,rfl⟩
 rw [hN.out] at hl HR HR' h1 h1'
 clear hr hr'
 rw [hN.out]
 go_enter Tryz.func26,Tryz.ntmps26
 go_wp2_with fail
 go_loopw [13] (fun i wr=>∃ j:Nat,i=.int .i64 (j:Int)∧j≤N∧Kept [] w wr) (fun i _=>N - (intOf i).toNat)
 case atStart=>exact ⟨0,rfl,by omega,Kept.refl [] w⟩
 case round =>
  obtain ⟨j,rfl,hj,kk⟩:=hrel
  by_cases hlt:j<N
  ·obtain ⟨x,hx⟩:∃ x,l[j]?=some x:=⟨_,List.getElem?_eq_getElem (by have:=hN.out; omega)⟩
   obtain ⟨b,o,d,e,hcell⟩:=(HR.out.kept kk (by simp)).at j x hx
   injection e with e eN e2
   subst e e2
   clear eN
   obtain ⟨b',o',d',e',hcell'⟩:=(HR'.out.kept kk (by simp)).at j x hx
   injection e' with e' eN' e2'
   subst e' e2'
   clear eN'
   have HK:=Hid.mk kk
   clear hx kk HR HR'
   have hjI:(j:Int)<(N:Int):=by omega
   go_wp2_with fail
   go_quiet (fail)
   go_wp2
   go_roundw
   case rel=>exact ⟨j+1,by go_num,by omega,HK.out.drewN _⟩
   case measure=>simp [intOf]; omega
  ·obtain rfl:j=N:=by omega
   go_wp2
   go_ret
   exact ⟨rfl,kk⟩
end
section
variable {w0 w w':World} {tb p q:Nat} {V V':Nat→Prop} {ρ:Rho} {t:AT} {old:List Nat} {s s':St} {fr ct:Nat} {L:List Ent} {fl:List Nat}
def TV (db:Nat) (v:Value) (T:List KV) (b:Nat):Prop:=b=db∨(T≠[]∧v.ownBlock=some b)
theorem TV.lt {db:Nat} {v:Value} {T:List KV} (h:IsTab w db v T) {g:Nat} (hx:TV db v T g):g<w.heap.size:=by
 rcases hx with rfl|⟨hT,hg⟩
 ·exact (Array.getElem?_eq_some_iff.1 h.box).1
 ·have he:CT T≠[]:=fun e=>hT (by simpa [CT] using e)
  obtain ⟨a,cap,h1,h2,h3,h4,h5⟩:=h.row
  obtain ⟨b,o,rfl,hc⟩:=h5 he
  obtain ⟨r,rs,hr⟩:=List.exists_cons_of_ne_nil he
  have hw:=CT_wide T r (by rw [hr]; simp)
  obtain ⟨x,xs,rfl⟩:∃ x xs,r=x::xs:=by
   cases r with
   | nil=>simp at hw
   | cons x xs=>exact ⟨x,xs,rfl⟩
  have hcell:=hc 0 _ (by rw [hr]; rfl) 0 x rfl
  have hb:g=b:=by
   rw [h1] at hg
   simp [Value.ownBlock] at hg
   omega
  subst hb
  unfold World.cell? at hcell
  rcases Nat.lt_or_ge g w.heap.size with hlt|hge
  ·exact hlt
  ·rw [Array.getElem?_eq_none hge] at hcell
   simp at hcell
theorem IsTab.keptV {db:Nat} {v:Value} {T:List KV} (h:IsTab w db v T) {S:List Nat} (k:Kept S w w') (hS:∀ x,TV db v T x→x∉S):IsTab w' db v T:=by
 refine ⟨k.keeps h.box (hS db (.inl rfl)),?_,h.apart⟩
 by_cases he:T=[]
 ·obtain ⟨a,cap,h1,h2,h3,h4,_⟩:=h.row
  exact ⟨a,cap,h1,h2,h3,h4,fun hne=>absurd (by rw [he]; rfl) hne⟩
 ·exact h.row.kept k fun g hg=>hS g (.inr ⟨he,hg⟩)
theorem IsTab.kp {db:Nat} {v:Value} {T:List KV} (h:IsTab w db v T) (k:KP V w w') (hV:∀ x,TV db v T x→V x):IsTab w' db v T:=by
 obtain ⟨S,k,hS⟩:=k
 exact h.keptV k fun x hx=>hS x (hV x hx)
end
theorem perm_lift {α β:Type} (f:α→β) {ns ms:List β} (h:ns.Perm ms):∀ l:List α,ms=l.map f→∃ l':List α,l'.Perm l∧l'.map f=ns:=by
 induction h with
 | nil=>intro l e; exact ⟨l,List.Perm.refl _,e.symm⟩
 | cons x _ ih =>
  intro l e
  cases l with
  | nil=>cases e
  | cons a l =>
   rw [List.map_cons] at e
   injection e with e1 e2
   obtain ⟨l',h1,h2⟩:=ih l e2
   exact ⟨a::l',h1.cons a,by rw [List.map_cons,h2,e1]⟩
 | swap x y r =>
  intro l e
  match l,e with
  | a::b::l,e =>
   rw [List.map_cons,List.map_cons] at e
   injection e with e1 e2
   injection e2 with e2 e3
   exact ⟨b::a::l,List.Perm.swap a b l,by rw [List.map_cons,List.map_cons,e1,e2,e3]⟩
 | trans _ _ ih1 ih2 =>
  intro l e
  obtain ⟨l2,h1,h2⟩:=ih2 l e
  obtain ⟨l1,h3,h4⟩:=ih1 l2 h2.symm
  exact ⟨l1,h3.trans h1,h4⟩
def lw (i:Itm):Nat:=if lng i=true then 1 else 0
def lwK (x:KV):Nat:=if 236<3+x.1.length+x.2.length then 1 else 0
theorem lw_kv (l:List Itm):(l.map lw).sum=((l.map kv).map lwK).sum:=by
 rw [List.map_map]
 congr 1
 refine List.map_congr_left fun i _=>?_
 unfold lw lng
 show _=lwK (kv i)
 unfold lwK kv
 simp
theorem nms_len2 {w:World} {F:Nat→Prop} {ρ:Rho} (hs:∀ {i:Itm},IsI w F ρ i→lng i=false→(ρ i.ad).1=0):{k:Nat}→(n:Tr k)→IsN w F ρ n→(nms ρ n).length≤nn n+((its n).map lw).sum
 | 0,n,hN=>by
  have h1:=sum_le_sum (l:=n.2) (f:=fun i=>(pn ρ i.ad).length) (g:=lw) fun i hi=>by
   unfold lw
   split
   ·exact pn_len ρ i.ad
   ·rename_i hg
    have:=hs (hN.2 i hi) (by simpa using hg)
    simp [pn,this]
  have h2:=pn_len ρ n.1
  have h3:=len_flat (fun i:Itm=>pn ρ i.ad) n.2
  show ((n.2.flatMap fun i=>pn ρ i.ad)++pn ρ n.1).length≤1+(n.2.map lw).sum
  rw [List.length_append]
  omega
 | k+1,n,hN=>by
  have h1:=sum_le_sum (l:=n.2) (f:=fun u=>(nms ρ u).length) (g:=fun u=>nn u+((its u).map lw).sum) fun u hu=>nms_len2 hs u (hN.2 u hu)
  rw [sum_add] at h1
  have h2:=pn_len ρ n.1
  have h3:=len_flat (nms ρ) n.2
  have h4:=sum_flat lw (its (k:=k)) n.2
  have h5:nn n=1+(n.2.map nn).sum:=rfl
  have h6:its n=n.2.flatMap its:=rfl
  show (n.2.flatMap (nms ρ)++pn ρ n.1).length≤_
  rw [List.length_append,h6]
  omega
theorem lwK_le (x:KV) (h:x.1.length≤64):170 * lwK x≤x.2.length:=by
 unfold lwK
 split <;> omega
theorem TOk.longs {T:List KV} {n B:Nat} (h:TOk T n B) (hB:B≤60000):(T.map lwK).sum≤352:=by
 have h1:∀ l:List KV,(∀ x∈l,x.1.length≤64)→170 * (l.map lwK).sum≤(l.map fun x=>x.2.length).sum:=by
  intro l
  induction l with
  | nil=>simp
  | cons a l ih =>
   intro hl
   have h1:=ih (fun x hx=>hl x (List.mem_cons_of_mem _ hx))
   have h2:=lwK_le a (hl a (by simp))
   simp only [List.map_cons,List.sum_cons]
   omega
 have h2:=h1 T (fun x hx=>(h.each x hx).1)
 have h3:=h.sum
 omega
section
variable {w0 w:World} {tb p q:Nat} {V:Nat→Prop} {ρ:Rho} {t:AT} {s:St} {fr ct:Nat} {L:List Ent} {fl:List Nat}
theorem NI.none (h:NI ρ none [] L):L=[]:=by
 have:=h.names.length_eq
 rw [List.length_map] at this
 exact List.eq_nil_of_length_eq_zero this
theorem NI.few {F:Nat→Prop} (h:NI ρ t [] L) (hT:IsT w F ρ t) (hl:(itsT t).length≤500) {T:List KV} (he:(itsT t).map kv=T) {n B:Nat} (hO:TOk T n B) (hB:B≤60000):L.length≤912:=by
 have h1:=h.names.length_eq
 rw [List.length_map,List.append_nil] at h1
 cases t with
 | none=>rw [h1]; exact Nat.zero_le _
 | some n =>
  have h2:=nms_len2 (fun hI hg=>h.short hT.1 hI hg) n.2 hT.1
  have h3:=nn_le n.2 hT.2.1 hT.2.2 hl
  have h4:=hO.longs hB
  rw [← he,← lw_kv] at h4
  have h5:((itsT (some n)).map lw).sum=((its n.2).map lw).sum:=rfl
  have h6:(nmsT ρ (some n)).length=(nms ρ n.2).length:=rfl
  omega
theorem open_names (h:Tre w0 w tb p q V ρ t [] s fr ct L fl) (hd:s.down=false) (hLl:L.length≤1000) {v:Value} {ns:List Nat} (hr:ReadsI w v ns) (hri:Rises ns (L.map (·.1))) :
  Calls Tryz.prog 11 #[Pp q,.int .i64 (fr:Int),.int .i64 (ct:Int),v] w fun e w'=>∃ p2 L2 fl2,e=.returned (.tuple #[Pp p2,.int .i64 0])∧L2.Perm L∧SyP w0 w' q p2 s fr ct L2 fl2 (fun _=>False)∧Kept [] w w':=by
 obtain ⟨T,vo,h⟩:=h
 obtain ⟨L2,hp,rfl⟩:=perm_lift (·.1) hri.1 L rfl
 obtain ⟨a,c,rfl,_,_⟩:=hr.form
 obtain ⟨F,G,T',hD,hP,hT,hFG,hO,hK,hH⟩:=h.sy
 have hb:(bls L2).Perm (bls L):=hp.flatMap_right _
 refine (popen_texts (w0:=w0) (L:=L2) (X:=fun _=>False) hD hd hO.one hO.area (fun x hx=>hO.lies x (hp.mem_iff.1 hx)) ((hb.nodup_iff).2 (List.nodup_append.1 hO.nodup).1) (fun b hb'=>hO.mem (List.mem_append.2 (.inl (hb.mem_iff.1 hb')))) (by rw [hp.length_eq]; exact hLl) a _ c (by simp) hr hK (fun x hx=>⟨(hH x (.inl hx)).1,fun h=>h⟩) (fun x hx=>hx.elim)).mono ?_
 rintro e w' ⟨p2,fl2,rfl,hS,k⟩
 exact ⟨p2,L2,fl2,rfl,hp,hS,k⟩
theorem open_tree (h:Tre w0 w tb p q V ρ t [] s fr ct L fl) (hI:NI ρ t [] L) (hl:(itsT t).length≤500) {L2:List Ent} (hp:L2.Perm L) {w2:World} (k:Kept [] w w2) {p2:Nat} {fl2:List Nat} (hS:SyP w0 w2 q p2 s fr ct L2 fl2 (fun _=>False)) (hd:s.down=false) :
  Calls Tryz.prog 13 #[Pp p2,.int .i64 (rootN ρ t:Int)] w2 fun e w'=>∃ tb2 ρ2 t2,e=.returned (.tuple #[Pp tb2,.int .i64 0])∧Tre w0 w' tb2 p2 q (fun _=>False) ρ2 t2 [] s fr ct L2 fl2∧Kept [] w2 w'∧(itsT t2).map kv=(itsT t).map kv:=by
 obtain ⟨T,vo,h⟩:=h
 cases t with
 | none =>
  have:=hI.none
  subst this
  have:=hp.eq_nil
  subst this
  refine (open_new hS h.fr1 (fun b hb=>hb.elim) (fun b hb=>hb.elim)).mono ?_
  rintro e w' ⟨tb2,rfl,_,hT,k2⟩
  exact ⟨tb2,_,_,rfl,hT,k2,rfl⟩
 | some n =>
  have hI2:=hI.perm hp
  have ha:=(hI2.at hS.ok h.fr1 h.ok h.tree h.up h.sz hl).1
  refine (ha.tre h.tree.2.2 hS h.fr1 hd (fun b hb=>hb.elim) (fun b hb=>hb.elim)).mono ?_
  rintro e w' ⟨tb2,ρ2,t2,rfl,_,hT,k2,hk,_⟩
  exact ⟨tb2,ρ2,_,rfl,hT,k2,hk⟩
theorem tre_names (h:Tre w0 w tb p q V ρ t [] s fr ct L fl) (hI:NI ρ t [] L) (hl:(itsT t).length≤500) (hLl:L.length≤1000) (hd:s.down=false) :
  Calls Tryz.prog 24 #[Pp q,.int .i64 (fr:Int),.int .i64 (ct:Int),.int .i64 (rootN ρ t:Int)] w fun e w'=>∃ v ns,e=.returned (.tuple #[v,.int .i64 0])∧OwnsI w' v ns∧Rises ns (L.map (·.1))∧Kept [] w w'∧Fresh w v:=by
 obtain ⟨T,vo,h⟩:=h
 cases t with
 | none =>
  have:=hI.none
  subst this
  refine (names_zero h.sy h.fr1 hd h.lt).mono ?_
  rintro e w' ⟨v,rfl,ho,k,hf⟩
  exact ⟨v,[],rfl,ho,⟨List.Perm.refl _,List.Pairwise.nil⟩,k,hf⟩
 | some n =>
  obtain ⟨ha,hpm⟩:=hI.at h.sy.ok h.fr1 h.ok h.tree h.up h.sz hl
  refine (ha.names h.sy h.fr1 hd hLl h.lt (fun i hi=>?_)).mono ?_
  ·have:=h.sz i hi
   omega
  ·rintro e w' ⟨v,rfl,ns,ho,hri,k,hf⟩
   have h1:=hI.names
   rw [List.append_nil] at h1
   exact ⟨v,ns,rfl,ho,⟨hri.1.trans (hpm.symm.trans h1.symm),hri.2⟩,k,hf⟩
end
def StlO (q tb db rt:Nat) (an:Option Addr) (n cn:Nat) (I:World→Prop) (w:World):Prop :=
 Calls Tryz.prog 11 #[Pp q,.int .i64 7,.int .i64 2900,.slice an n cn] w fun e w1=>∃ p2,e=.returned (.tuple #[Pp p2,.int .i64 0])∧Calls Tryz.prog 25 #[Pp tb] w1 fun e w2=>e=.returned (.int .i64 (rt:Int))∧Calls Tryz.prog 13 #[Pp p2,.int .i64 (rt:Int)] w2 fun e w3=>∃ t2,e=.returned (.tuple #[Pp t2,.int .i64 0])∧Calls Tryz.prog 19 #[Pp t2,Pp db] w3 fun e w4=>e=.returned (.bool true)∧I w4
def StlS (p q tb db:Nat) (I:World→Prop) (w:World):Prop :=
 Calls Tryz.prog 18 #[Pp tb] w fun e w1=>e=.returned (.tuple #[])∧Calls Tryz.prog 25 #[Pp tb] w1 fun e w2=>∃ rt:Nat,rt<1000000∧e=.returned (.int .i64 (rt:Int))∧Calls Tryz.prog 24 #[Pp q,.int .i64 7,.int .i64 2900,.int .i64 (rt:Int)] w2 fun e w3=>∃ an n cn,e=.returned (.tuple #[.slice an n cn,.int .i64 0])∧Calls Tryz.prog 27 #[Pp p] w3 fun e w4=>∃ v,e=.returned v∧Calls Tryz.prog 26 #[.slice an n cn,v] w4 fun e w5=>e=.returned (.bool true)∧Calls Tryz.prog 25 #[Pp tb] w5 fun e w6=>e=.returned (.int .i64 (rt:Int))∧((rt=0∧n=0∧∃ aw cw,w6.cell? ⟨db,0,none⟩=some (.slice aw 0 cw)∧StlO q tb db rt an n cn I w6)∨(rt≠0∧StlO q tb db rt an n cn I w6))
def StlA (p q tb db:Nat) (ad:Addr) (v:Value) (I:World→Prop) (w:World):Prop :=
 Calls Tryz.prog 14 #[Pp tb,v] w fun e w1=>∃ er:Int,e=.returned (.int .i64 er)∧((er=0∧w1.cell? ad=some v∧Calls Tryz.prog 17 #[Pp db,v] w1 fun e w2=>e=.returned (.tuple #[])∧StlS p q tb db I w2)∨((er=1∨er=4∨er=6)∧StlS p q tb db I w1))
def StlF (I:Nat→Nat→Nat→Nat→Nat→World→Prop) (w:World):Prop :=
 Calls Tryz.prog 12 #[.int .i64 3000] w fun e w3=>∃ q,e=.returned (Pp q)∧Calls Tryz.prog 11 #[Pp q,.int .i64 7,.int .i64 2900,.slice none 0 0] w3 fun e w4=>∃ p,e=.returned (.tuple #[Pp p,.int .i64 0])∧Calls Tryz.prog 13 #[Pp p,.int .i64 0] w4 fun e w5=>∃ tb,e=.returned (.tuple #[Pp tb,.int .i64 0])∧I p q tb w5.heap.size 0 (w5.alloc (.cells #[.slice none 0 0] 38))
def StlB (I:Nat→Nat→Nat→Nat→Nat→World→Prop) (R:World→Prop) (w:World) (b:Bool):Prop :=
 (b=false∧Calls Tryz.prog 9 #[] w fun e w1=>e=.returned (.bool true)∧R w1)∨(b=true∧StlF I w)
section
variable {w:World}
set_option maxRecDepth 100000 in
set_option maxHeartbeats 4000000 in
theorem settles_walk {R:World→Prop} {I:Nat→Nat→Nat→Nat→Nat→World→Prop} {a0:Option Addr} {N c0:Nat} (hN:N≤140737488355328)
  (HC:Calls Tryz.prog 9 #[] w fun e w1=>e=.returned (.bool true)∧Calls Tryz.prog 10 #[.slice a0 N c0] w1 fun e w2=>∃ b:Bool,e=.returned (.bool b)∧StlB I R w2 b)
  (HI:Hid (∀ p q tb db j wr,I p q tb db j wr→(j<N→j<40∧∃ b o v,a0=some ⟨b,o,none⟩∧wr.cell? ⟨b,o+j,none⟩=some v∧StlA p q tb db ⟨b,o+j,none⟩ v (I p q tb db (j+1)) wr)∧(j=N→R wr))) :
  Calls Tryz.prog 4 #[.slice a0 N c0] w fun e w'=>e=.returned (.bool true)∧R w':=by
 go_enter Tryz.func4,Tryz.ntmps4
 go_wp2_with fail
 refine HC.mono ?_
 rintro e w1 ⟨rfl,HC⟩
 go_wp2_with fail
 refine HC.mono ?_
 rintro e w2 ⟨b,rfl,⟨rfl,HC⟩|⟨rfl,HC⟩⟩
 ·go_wp2_with fail
  refine HC.mono ?_
  rintro e w3 ⟨rfl,hR⟩
  have HR:=Hid.mk hR
  clear hR HC
  go_wp2
  go_ret
  exact ⟨rfl,HR.out⟩
 ·unfold StlF at HC
  go_wp2_with fail
  refine HC.mono ?_
  rintro e w3 ⟨q,rfl,HC⟩
  go_wp2_with fail
  refine HC.mono ?_
  rintro e w4 ⟨p,rfl,HC⟩
  go_wp2_with fail
  refine HC.mono ?_
  rintro e w5 ⟨tb,rfl,HC⟩
  have HS:=Hid.mk HC
  clear HC
  go_wp2_with fail
  generalize w5.heap.size=db at *
  obtain ⟨W5,hW5⟩:∃ W5,Hid (w5.alloc (.cells #[.slice none 0 0] 38)=W5):=⟨_,rfl⟩
  rw [hW5.out] at HS ⊢
  clear hW5
  go_loopw [39] (fun i wr=>∃ j:Nat,i=.int .i64 (j:Int)∧j≤N∧Hid (I p q tb db j wr)) (fun i _=>N - (intOf i).toNat)
  case atStart=>exact ⟨0,rfl,by omega,HS⟩
  case round =>
   obtain ⟨j,rfl,hj,hI⟩:=hrel
   by_cases hlt:j<N
   ·obtain ⟨hj40,b,o,v,rfl,d0,HC⟩:=(HI.out p q tb db j wr hI.out).1 hlt
    clear hI HS
    unfold StlA at HC
    go_wp2_with fail
    refine HC.mono ?_
    rintro e w6 ⟨er,rfl,⟨rfl,d1,HC⟩|⟨hr,HC⟩⟩
    ·clear d0
     go_wp2_with fail
     refine HC.mono ?_
     rintro e w7 ⟨rfl,HC⟩
     clear d1
     unfold StlS at HC
     go_wp2_with fail
     refine HC.mono ?_
     rintro e w8 ⟨rfl,HC⟩
     go_wp2_with fail
     refine HC.mono ?_
     rintro e w9 ⟨rt,hrt,rfl,HC⟩
     go_wp2_with fail
     refine HC.mono ?_
     rintro e w10 ⟨an,n,cn,rfl,HC⟩
     go_wp2_with fail
     refine HC.mono ?_
     rintro e w11 ⟨v11,rfl,HC⟩
     go_wp2_with fail
     refine HC.mono ?_
     rintro e w12 ⟨rfl,HC⟩
     go_wp2_with fail
     refine HC.mono ?_
     rintro e w13 ⟨rfl,⟨rfl,rfl,aw,cw,d3,HZ⟩|⟨hrz,HZ⟩⟩
     ·unfold StlO at HZ
      go_wp2_with fail
      refine HZ.mono ?_
      rintro e w20 ⟨p2,rfl,HZ⟩
      go_wp2_with fail
      refine HZ.mono ?_
      rintro e w21 ⟨rfl,HZ⟩
      go_wp2_with fail
      refine HZ.mono ?_
      rintro e w22 ⟨t2,rfl,HZ⟩
      go_wp2_with fail
      refine HZ.mono ?_
      rintro e w23 ⟨rfl,hI⟩
      have HI2:=Hid.mk hI
      clear HZ hI
      go_wp2
      go_roundw
      case rel=>exact ⟨j+1,by go_num,by omega,HI2⟩
      case measure=>simp [intOf]; omega
     ·unfold StlO at HZ
      go_wp2_with fail
      refine HZ.mono ?_
      rintro e w20 ⟨p2,rfl,HZ⟩
      go_wp2_with fail
      refine HZ.mono ?_
      rintro e w21 ⟨rfl,HZ⟩
      go_wp2_with fail
      refine HZ.mono ?_
      rintro e w22 ⟨t2,rfl,HZ⟩
      go_wp2_with fail
      refine HZ.mono ?_
      rintro e w23 ⟨rfl,hI⟩
      have HI2:=Hid.mk hI
      clear HZ hI
      go_wp2
      go_roundw
      case rel=>exact ⟨j+1,by go_num,by omega,HI2⟩
      case measure=>simp [intOf]; omega
    ·rcases hr with rfl|rfl|rfl
     ·clear d0
      unfold StlS at HC
      go_wp2_with fail
      refine HC.mono ?_
      rintro e w8 ⟨rfl,HC⟩
      go_wp2_with fail
      refine HC.mono ?_
      rintro e w9 ⟨rt,hrt,rfl,HC⟩
      go_wp2_with fail
      refine HC.mono ?_
      rintro e w10 ⟨an,n,cn,rfl,HC⟩
      go_wp2_with fail
      refine HC.mono ?_
      rintro e w11 ⟨v11,rfl,HC⟩
      go_wp2_with fail
      refine HC.mono ?_
      rintro e w12 ⟨rfl,HC⟩
      go_wp2_with fail
      refine HC.mono ?_
      rintro e w13 ⟨rfl,⟨rfl,rfl,aw,cw,d3,HZ⟩|⟨hrz,HZ⟩⟩
      ·unfold StlO at HZ
       go_wp2_with fail
       refine HZ.mono ?_
       rintro e w20 ⟨p2,rfl,HZ⟩
       go_wp2_with fail
       refine HZ.mono ?_
       rintro e w21 ⟨rfl,HZ⟩
       go_wp2_with fail
       refine HZ.mono ?_
       rintro e w22 ⟨t2,rfl,HZ⟩
       go_wp2_with fail
       refine HZ.mono ?_
       rintro e w23 ⟨rfl,hI⟩
       have HI2:=Hid.mk hI
       clear HZ hI
       go_wp2
       go_roundw
       case rel=>exact ⟨j+1,by go_num,by omega,HI2⟩
       case measure=>simp [intOf]; omega
      ·unfold StlO at HZ
       go_wp2_with fail
       refine HZ.mono ?_
       rintro e w20 ⟨p2,rfl,HZ⟩
       go_wp2_with fail
       refine HZ.mono ?_
       rintro e w21 ⟨rfl,HZ⟩
       go_wp2_with fail
       refine HZ.mono ?_
       rintro e w22 ⟨t2,rfl,HZ⟩
       go_wp2_with fail
       refine HZ.mono ?_
       rintro e w23 ⟨rfl,hI⟩
       have HI2:=Hid.mk hI
       clear HZ hI
       go_wp2
       go_roundw
       case rel=>exact ⟨j+1,by go_num,by omega,HI2⟩
       case measure=>simp [intOf]; omega
     ·clear d0
      unfold StlS at HC
      go_wp2_with fail
      refine HC.mono ?_
      rintro e w8 ⟨rfl,HC⟩
      go_wp2_with fail
      refine HC.mono ?_
      rintro e w9 ⟨rt,hrt,rfl,HC⟩
      go_wp2_with fail
      refine HC.mono ?_
      rintro e w10 ⟨an,n,cn,rfl,HC⟩
      go_wp2_with fail
      refine HC.mono ?_
      rintro e w11 ⟨v11,rfl,HC⟩
      go_wp2_with fail
      refine HC.mono ?_
      rintro e w12 ⟨rfl,HC⟩
      go_wp2_with fail
      refine HC.mono ?_
      rintro e w13 ⟨rfl,⟨rfl,rfl,aw,cw,d3,HZ⟩|⟨hrz,HZ⟩⟩
      ·unfold StlO at HZ
       go_wp2_with fail
       refine HZ.mono ?_
       rintro e w20 ⟨p2,rfl,HZ⟩
       go_wp2_with fail
       refine HZ.mono ?_
       rintro e w21 ⟨rfl,HZ⟩
       go_wp2_with fail
       refine HZ.mono ?_
       rintro e w22 ⟨t2,rfl,HZ⟩
       go_wp2_with fail
       refine HZ.mono ?_
       rintro e w23 ⟨rfl,hI⟩
       have HI2:=Hid.mk hI
       clear HZ hI
       go_wp2
       go_roundw
       case rel=>exact ⟨j+1,by go_num,by omega,HI2⟩
       case measure=>simp [intOf]; omega
      ·unfold StlO at HZ
       go_wp2_with fail
       refine HZ.mono ?_
       rintro e w20 ⟨p2,rfl,HZ⟩
       go_wp2_with fail
       refine HZ.mono ?_
       rintro e w21 ⟨rfl,HZ⟩
       go_wp2_with fail
       refine HZ.mono ?_
       rintro e w22 ⟨t2,rfl,HZ⟩
       go_wp2_with fail
       refine HZ.mono ?_
       rintro e w23 ⟨rfl,hI⟩
       have HI2:=Hid.mk hI
       clear HZ hI
       go_wp2
       go_roundw
       case rel=>exact ⟨j+1,by go_num,by omega,HI2⟩
       case measure=>simp [intOf]; omega
     ·clear d0
      unfold StlS at HC
      go_wp2_with fail
      refine HC.mono ?_
      rintro e w8 ⟨rfl,HC⟩
      go_wp2_with fail
      refine HC.mono ?_
      rintro e w9 ⟨rt,hrt,rfl,HC⟩
      go_wp2_with fail
      refine HC.mono ?_
      rintro e w10 ⟨an,n,cn,rfl,HC⟩
      go_wp2_with fail
      refine HC.mono ?_
      rintro e w11 ⟨v11,rfl,HC⟩
      go_wp2_with fail
      refine HC.mono ?_
      rintro e w12 ⟨rfl,HC⟩
      go_wp2_with fail
      refine HC.mono ?_
      rintro e w13 ⟨rfl,⟨rfl,rfl,aw,cw,d3,HZ⟩|⟨hrz,HZ⟩⟩
      ·unfold StlO at HZ
       go_wp2_with fail
       refine HZ.mono ?_
       rintro e w20 ⟨p2,rfl,HZ⟩
       go_wp2_with fail
       refine HZ.mono ?_
       rintro e w21 ⟨rfl,HZ⟩
       go_wp2_with fail
       refine HZ.mono ?_
       rintro e w22 ⟨t2,rfl,HZ⟩
       go_wp2_with fail
       refine HZ.mono ?_
       rintro e w23 ⟨rfl,hI⟩
       have HI2:=Hid.mk hI
       clear HZ hI
       go_wp2
       go_roundw
       case rel=>exact ⟨j+1,by go_num,by omega,HI2⟩
       case measure=>simp [intOf]; omega
      ·unfold StlO at HZ
       go_wp2_with fail
       refine HZ.mono ?_
       rintro e w20 ⟨p2,rfl,HZ⟩
       go_wp2_with fail
       refine HZ.mono ?_
       rintro e w21 ⟨rfl,HZ⟩
       go_wp2_with fail
       refine HZ.mono ?_
       rintro e w22 ⟨t2,rfl,HZ⟩
       go_wp2_with fail
       refine HZ.mono ?_
       rintro e w23 ⟨rfl,hI⟩
       have HI2:=Hid.mk hI
       clear HZ hI
       go_wp2
       go_roundw
       case rel=>exact ⟨j+1,by go_num,by omega,HI2⟩
       case measure=>simp [intOf]; omega
   ·obtain rfl:j=N:=by omega
    have hR:=(HI.out p q tb db j wr hI.out).2 rfl
    have HR:=Hid.mk hR
    clear hI HS HI hR
    go_wp2
    go_ret
    exact ⟨rfl,HR.out⟩
end
end Go.Proofs.YtgpbhlfdlkemjaaGreat
namespace Go.Proofs.YtgpbhlfdlkemjaaGreat
open Go.RowKit Go.Deep Go.ChangeShapes
set_option linter.unusedVariables false
set_option maxRecDepth 100000 in
theorem open_chss {H:Type} {enc:TypeId × Value→H} {W:World} {fuel:Nat} {cs:List Value} {x:DataW H × List MemPlace} (h:DataW.trod enc Tryz.prog W 0 (fun _=>true) true fuel 22 cs=some x) (hsz:∀ n∈x.1.weights Tryz.prog 22,n≤reachBytes) :
  ∃ v ls,cs=[v]∧RowL W v ls∧ls.length≤140737488355328∧∀ l∈ls,ValsQ W l.rs∧InQ l.rs:=by
 rcases open_slice Tryz.underlying22 h with ⟨h0,hx⟩|⟨a,len,cap,m,n,D,Pl,hcs,hb,hl,hm,hmm,hx,hel⟩
 ·exact ⟨_,[],h0,⟨ReadsR.nil 1 W,by simp⟩,by simp,by simp⟩
 ·have hm':m=cap:=by simpa using hmm
  subst hm'
  have hlen:len≤140737488355328:=by
   have:=hsz ((((List.range len).map D).length+((List.range (m - len)).map fun i=>D (len+i)).length) * Tryz.prog.bytesOf 40) (by
    rw [hx]
    simp only [DataW.weights,Tryz.underlying22,List.mem_cons]
    left
    simp)
   rw [show Tryz.prog.bytesOf 40=24 by kernel_rfl] at this
   unfold reachBytes at this
   simp at this
   omega
  have each:∀ i,i<len→∃ p:Lq,W.cell? (a.add i)=some (.slice p.ad p.rs.length p.cap)∧RowQ W (.slice p.ad p.rs.length p.cap) p.rs∧ValsQ W p.rs∧InQ p.rs:=by
   intro i hi
   obtain ⟨cs',h1,h2⟩:=hel i (by omega)
   have hwt:∀ z∈(D i).weights Tryz.prog 40,z≤reachBytes:=fun z hz=>hsz z (by
    rw [hx]
    simp only [DataW.weights,Tryz.underlying22,List.mem_cons,List.mem_append]
    exact .inr (.inl (weightsAll_mem (List.mem_map.2 ⟨i,List.mem_range.2 hi,rfl⟩) hz)))
   rw [show Tryz.prog.cellsOf 40=1 by kernel_rfl] at h1
   obtain ⟨_,hlen,hcell⟩:=World.cells?_some h1
   obtain ⟨v,l,rfl,hr,hv,hi2⟩:=open_chs h2 hwt
   have c0:=hcell 0 (by omega)
   rw [addr_add_add] at c0
   obtain ⟨a',c',rfl,_,_⟩:=hr.form
   exact ⟨⟨l,a',c'⟩,by simpa using c0,hr,hv,hi2⟩
  have hinh:Inhabited Lq:=⟨⟨[],none,0⟩⟩
  obtain ⟨f,hfp⟩:=choose_lt each
  have hll:((List.range len).map f).length=len:=by simp
  refine ⟨_,(List.range len).map f,hcs,⟨⟨some a,m,by rw [CL_length,hll],by rw [CL_length,hll]; omega,hm,by simp,fun hne=>?_⟩,fun l hl=>?_⟩,by rw [hll]; exact hlen,fun l hl=>?_⟩
  ·have hpos:0<len:=by
    rcases Nat.eq_zero_or_pos len with h|h
    ·subst h; simp [CL] at hne
    ·exact h
   obtain ⟨b,o,spot⟩:=a
   have hc:=(hfp 0 (by omega)).1
   have hspot:spot=none:=by simpa [Addr.add] using World.cell?_spot hc
   subst hspot
   refine ⟨b,o,rfl,fun j r hr i y hy=>?_⟩
   have hr':((List.range len).map f).map (fun l=>[l.sl])=CL ((List.range len).map f):=rfl
   rw [← hr',List.getElem?_map,Option.map_eq_some_iff] at hr
   obtain ⟨p,hp,rfl⟩:=hr
   have hj:j<len:=by
    have:=(List.getElem?_eq_some_iff.1 hp).1
    simpa using this
   rw [List.getElem?_map,List.getElem?_range hj] at hp
   simp at hp
   subst hp
   have c0:=(hfp j hj).1
   rw [add_at] at c0
   cases i with
   | zero=>simp at hy; subst hy; rw [Nat.mul_one,Nat.add_zero]; exact c0
   | succ i=>simp at hy
  ·simp only [List.mem_map,List.mem_range] at hl
   obtain ⟨i,hi,rfl⟩:=hl
   exact (hfp i hi).2.1
  ·simp only [List.mem_map,List.mem_range] at hl
   obtain ⟨i,hi,rfl⟩:=hl
   exact (hfp i hi).2.2
end Go.Proofs.YtgpbhlfdlkemjaaGreat
/-
 TreeSettles, whole.
-/
namespace Go.Proofs.YtgpbhlfdlkemjaaGreat
open Go.RowKit
set_option linter.unusedVariables false
structure StI (G:Prop) (w0:World) (C S:Nat→Nat) (p q tb db j:Nat) (w:World) (vT:Value) (T:List KV) (ρ:Rho) (t:AT) (old:List Nat) (s:St) (L:List Ent) (fl:List Nat):Prop where
 tre:Tre w0 w tb p q (TV db vT T) ρ t old s 7 2900 L fl
 ni:NI ρ t old L
 its:(itsT t).map kv=T
 tab:IsTab w db vT T
 ok:TOk T (C j) (S j)
 ge:w0.heap.size≤db
 olds:old.length≤1060
 ws:s.ws.length≤1460 * j
 down:s.down=false
 fuse:s.fuse<0
 few:G
def StH (G:Prop) (w0:World) (C S:Nat→Nat) (p q tb db j:Nat) (w:World):Prop:=∃ vT T ρ t s L fl,StI G w0 C S p q tb db j w vT T ρ t [] s L fl
section
variable {G:Prop} {w0 w:World} {C S:Nat→Nat} {p tb db j q:Nat} {V:Nat→Prop} {vT:Value} {T:List KV} {ρ:Rho} {t:AT} {old:List Nat} {s:St} {fr ct:Nat} {L:List Ent} {fl:List Nat}
theorem tre_pnames (h:Tre w0 w tb p q V ρ t old s fr ct L fl):Calls Tryz.prog 27 #[Pp p] w fun e w'=>∃ v ns,e=.returned v∧OwnsI w' v ns∧Rises ns (L.map (·.1))∧Kept [] w w'∧Fresh w v:=by
 obtain ⟨T,vo,h⟩:=h
 exact psy_names h.sy
theorem rootN_lt (h:Tre w0 w tb p q V ρ t [] s fr ct L fl) (hI:NI ρ t [] L):rootN ρ t<1000000:=by
 obtain ⟨T,vo,h⟩:=h
 cases t with
 | none=>exact Nat.zero_lt_succ _
 | some n =>
  obtain ⟨h0,bs,h1,h2⟩:=(hI.laid n rfl).own
  have:=(there_of h.sy.ok h.ok h1 h2).2.2.2.1
  show (ρ (adr n.2)).1<1000000
  omega
theorem StI.settle (h:StI G w0 C S p q tb db j w vT T ρ t old s L fl) (hC:C j≤500) (hS:S j≤60000):StlS p q tb db (StH G w0 C S p q tb db j) w:=by
 have hll:(itsT t).length≤500:=by
  have:=h.ok.len
  rw [← h.its,List.length_map] at this
  exact Nat.le_trans this hC
 refine (tre_settle2 h.tre h.ni (by have:=h.olds; omega)).mono ?_
 rintro e w1 ⟨rfl,L1,fl1,h1,k1,n1⟩
 have hD1:=h.tab.kp k1 (fun x hx=>hx)
 have hL1:L1.length≤1000:=by
  obtain ⟨T1,vo1,g1⟩:=h1
  exact Nat.le_trans (n1.few g1.tree hll h.its h.ok hS) (by omega)
 refine ⟨rfl,(tre_root h1).mono ?_⟩
 rintro e w2 ⟨rfl,rfl⟩
 refine ⟨rootN ρ t,rootN_lt h1 n1,rfl,(tre_names h1 n1 hll hL1 h.down).mono ?_⟩
 rintro e w3 ⟨v,ns,rfl,ho,hri,k3,hf⟩
 obtain ⟨a,c,rfl,_,_⟩:=ho.form
 refine ⟨a,ns.length,c,rfl,(tre_pnames (h1.kept k3)).mono ?_⟩
 rintro e w4 ⟨v4,ns4,rfl,ho4,hri4,k4,hf4⟩
 have e4:=rises_one hri hri4 (List.Perm.refl _)
 subst e4
 have hns:ns.length≤1000:=by
  rw [hri.1.length_eq,List.length_map]
  exact hL1
 have ho3:=ho.kept k4 (by simp)
 refine ⟨v4,rfl,(sameInts_any ho3.reads ho4.reads (by omega)).mono ?_⟩
 rintro e w5 ⟨rfl,k5⟩
 have k15:=(k3.trans k4 (by simp)).trans k5 (by simp)
 have h5:=h1.kept k15
 have hD5:=hD1.keptV k15 (by simp)
 have ho5:=ho3.kept k5 (by simp)
 refine ⟨rfl,(tre_root h5).mono ?_⟩
 rintro e w6 ⟨rfl,rfl⟩
 have HO:StlO q tb db (rootN ρ t) a ns.length c (StH G w0 C S p q tb db j) w5:=by
  refine (open_names h5 h.down hL1 ho5.reads hri).mono ?_
  rintro e w7 ⟨p2,L2,fl2,rfl,hp,hS2,k7⟩
  refine ⟨p2,rfl,(tre_root (h5.kept k7)).mono ?_⟩
  rintro e w8 ⟨rfl,rfl⟩
  refine ⟨rfl,(open_tree h5 n1 hll hp k7 hS2 h.down).mono ?_⟩
  rintro e w9 ⟨tb2,ρ2,t2,rfl,hT2,k9,hkv⟩
  have k79:=k7.trans k9 (by simp)
  refine ⟨tb2,rfl,(same_any hT2 (hkv.trans h.its) (hD5.keptV k79 (by simp)) (by have:=h.ok.len; omega) (fun x hx=>(h.ok.each x hx).2)).mono ?_⟩
  rintro e w10 ⟨rfl,k10⟩
  have kk:=k79.trans k10 (by simp)
  exact ⟨rfl,vT,T,ρ,t,s,L1,fl1,h5.kept kk,n1,h.its,hD5.keptV kk (by simp),h.ok,h.ge,by simp,h.ws,h.down,h.fuse,h.few⟩
 refine ⟨rfl,?_⟩
 by_cases ht:t=none
 ·subst ht
  have hTn:T=[]:=by rw [← h.its]; rfl
  subst hTn
  have e1:L1=[]:=n1.none
  subst e1
  obtain ⟨aw,cw,e2,_,_⟩:=hD5.form
  refine .inl ⟨rfl,hri.1.length_eq,aw,cw,?_,HO⟩
  have:=hD5.box
  rw [e2] at this
  simp [World.cell?,this]
 ·exact .inr ⟨h5.rootPos ht,HO⟩
theorem stl_step (h:StI G w0 C S p q tb db j w vT T ρ t [] s L fl) {l:Lq} (hr:RowQ w0 l.sl l.rs) (hv:ValsQ w0 l.rs) {ad:Addr} (had:∀ W,Kept [] w0 W→W.cell? ad=some l.sl) (hj:j<40) (hC1:C (j+1)=C j+l.rs.length) (hS1:S (j+1)=S j+wgL l) (hC:C (j+1)≤500) (hS:S (j+1)≤60000):StlA p q tb db ad l.sl (StH G w0 C S p q tb db (j+1)) w:=by
 have hw:=h.ws
 have hok:=h.ok
 have hlen:(itsT t).length≤C j:=by
  have:=hok.len
  rw [← h.its,List.length_map] at this
  exact this
 have hnew:WrongIs (l.rs.map Cq.c) 0→TOk (tapp T (l.rs.map Cq.c)) (C (j+1)) (S (j+1)):=fun hw0=>by
  have hvs:=hw0.vals
  unfold wgL at hS1
  exact (hok.app hw0).more (by rw [List.length_map]; omega) (by omega)
 have hlater:∀ w',Kept [] w w'→StlS p q tb db (StH G w0 C S p q tb db (j+1)) w':=fun w' k =>
  StI.settle (j:=j+1) ⟨h.tre.kept k,h.ni,h.its,h.tab.keptV k (by simp),hok.more (by omega) (by omega),h.ge,by simp,by omega,h.down,h.fuse,h.few⟩ hC hS
 refine (apply_all2 h.tre h.ni (hr.kept h.tre.k (by simp)) (hv.kept h.tre.k (by simp)) (by omega) (by omega) (fun hw0 is his=>?_) (by simp) (by omega) h.down).mono ?_
 ·rw [cst_kv,his,h.its]
  refine ⟨?_,(hnew hw0).cost (by omega)⟩
  have:=(hnew hw0).len
  rw [← List.length_map (f:=kv),his,h.its]
  omega
 rintro e w1 ⟨er,rfl,hap⟩
 refine ⟨er,rfl,?_⟩
 rcases hap with ⟨h0,hw0,k1⟩|⟨hw0,⟨rfl,ρ1,t1,old1,s1,L1,fl1,h1,k1,hkv,_,ho1,hs1,hd1,hf1,n1,_⟩|⟨rfl,_,k1⟩|⟨_,hf⟩⟩
 ·refine .inr ⟨?_,hlater _ k1⟩
  rcases hw0.lit h0 with h|h
  ·exact .inl h
  ·exact .inr (.inl h)
 ·refine .inl ⟨rfl,had w1 h1.k,?_⟩
  have hD1:=h.tab.kp k1 (fun x hx=>hx)
  have HK:∀ W,Kept [db] w1 W→Kept [] w0 W:=fun W kW=>h1.k.trans kW (fun x hx=>.inr (by simp at hx; rw [hx]; exact h.ge))
  refine (tabApply_any hD1 hok.up (Hid.mk rfl) (Hid.mk fun W kW=>hr.kept (HK W kW) (by simp)) (Hid.mk fun W kW=>hv.kept (HK W kW) (by simp)) (Hid.mk (by have:=hok.len; omega)) (by omega)).mono ?_
  rintro e w3 ⟨rfl,v3,hD3,k3,hN3⟩
  have h3:=h1.turn (V':=TV db v3 (tapp T (l.rs.map Cq.c))) k3 (fun x hx=>by simp at hx; rw [hx]; exact .inl rfl) (fun x hx=>by
   rcases hN3 with ⟨hz,rfl⟩|hf3
   ·have:l.rs=[]:=List.eq_nil_of_length_eq_zero hz
    rw [this] at hx
    exact .inl hx
   ·rcases hx with rfl|⟨_,hx⟩
    ·exact .inl (.inl rfl)
    ·exact .inr (hf3 x hx)) (fun x hx=>TV.lt hD3 hx)
  refine ⟨rfl,StI.settle (j:=j+1) (vT:=v3) (T:=tapp T (l.rs.map Cq.c)) (ρ:=ρ1) (t:=t1) (old:=old1) (s:=s1) (L:=L1) (fl:=fl1) ⟨h3,n1,by rw [hkv,h.its],hD3,hnew hw0,h.ge,by simpa using ho1,by omega,hd1,by rw [hf1 h.fuse]; exact h.fuse,h.few⟩ hC hS⟩
 ·exact .inr ⟨.inr (.inr rfl),hlater _ k1⟩
 ·have:=h.fuse
  omega
end
set_option maxRecDepth 100000 in
theorem settles_all (w:World) {a0:Option Addr} {c0:Nat} {ls:List Lq} (hr:RowL w (.slice a0 ls.length c0) ls) (hl:ls.length≤140737488355328) (hvi:∀ l∈ls,ValsQ w l.rs∧InQ l.rs) :
  Calls Tryz.prog 4 #[.slice a0 ls.length c0] w fun e w'=>e=.returned (.bool true)∧Kept [] w w':=by
 obtain ⟨C,hC⟩:∃ C:Nat→Nat,∀ j,C j=((ls.take j).map fun l=>l.rs.length).sum:=⟨_,fun _=>rfl⟩
 obtain ⟨S,hS⟩:∃ S:Nat→Nat,∀ j,S j=((ls.take j).map wgL).sum:=⟨_,fun _=>rfl⟩
 have hCs:∀ j l,ls[j]?=some l→C (j+1)=C j+l.rs.length:=fun j l h=>by rw [hC,hC,tsum_succ (fun l:Lq=>l.rs.length) ls j l h]
 have hSs:∀ j l,ls[j]?=some l→S (j+1)=S j+wgL l:=fun j l h=>by rw [hS,hS,tsum_succ wgL ls j l h]
 refine settles_walk (R:=Kept [] w) (I:=StH (FewOk ls) w C S) hl ((awake_any w).mono ?_) (Hid.mk fun p q tb db j wr hI=>?_)
 ·rintro e w1 ⟨rfl,k1⟩
  refine ⟨rfl,(few_any (Hid.mk rfl) hl (hr.kept k1 (by simp) (by simp)) (Hid.mk fun l hl=>(hvi l hl).2)).mono ?_⟩
  rintro e w2 ⟨b,rfl,k2,hfew⟩
  refine ⟨b,rfl,?_⟩
  have kk2:=k1.trans k2 (by simp)
  cases b with
  | false =>
   refine .inl ⟨rfl,(awake_any w2).mono ?_⟩
   rintro e w3 ⟨rfl,k3⟩
   exact ⟨rfl,kk2.trans k3 (by simp)⟩
  | true =>
   refine .inr ⟨rfl,?_⟩
   unfold StlF
   have e1:((2900:Nat):Int)=2900:=by omega
   have e2:((3000:Nat):Int)=3000:=by omega
   have e3:((7:Nat):Int)=7:=by omega
   have hnew:=psy_new (w0:=w) kk2 3000 7 2900 (by omega) (by omega) (by omega)
   rw [e1,e2,e3] at hnew
   refine hnew.mono ?_
   rintro e w3 ⟨q,rfl,k3,h11⟩
   refine ⟨q,rfl,(h11 w3 (Kept.refl [] w3)).mono ?_⟩
   rintro e w4 ⟨p,fl,rfl,hfl,hsy,k4⟩
   refine ⟨p,rfl,(open_new hsy (by omega) (fun b hb=>hb.elim) (fun b hb=>hb.elim)).mono ?_⟩
   rintro e w5 ⟨tb,rfl,htb,hT,k5⟩
   refine ⟨tb,rfl,?_⟩
   obtain ⟨W5,hW5⟩:∃ W5,w5.alloc (.cells #[.slice none 0 0] 38)=W5:=⟨_,rfl⟩
   have kW5:Kept [] w5 W5:=by rw [← hW5]; exact (Kept.refl [] w5).alloc _
   have hb5:W5.heap[w5.heap.size]?=some (.cells #[.slice none 0 0] 38 (0,0)):=by rw [← hW5]; exact heap_alloc_new w5 _
   rw [hW5]
   have hD5:IsTab W5 w5.heap.size (.slice none 0 0) []:=⟨hb5,ReadsR.nil 2 W5,by simp [Value.ownBlock]⟩
   have hT5:=hT.turn (V':=TV w5.heap.size (.slice none 0 0) []) kW5 (by simp) (fun x hx=>by
    rcases hx with rfl|⟨hx,_⟩
    ·exact .inr (Nat.le_refl _)
    ·exact absurd rfl hx) (fun x hx=>TV.lt hD5 hx)
   exact ⟨_,[],_,none,_,[],fl,hT5,⟨by simp [nmsT],fun n e=>(by cases e),fun b hb=>absurd rfl hb⟩,rfl,hD5,TOk.nil _ _,hT.k.size,by simp,by simp,rfl,by simp,hfew rfl⟩
 ·obtain ⟨vT,T,ρ,t,s,L,fl,h⟩:=hI
  obtain ⟨f1,f2,f3⟩:=h.few
  have top:∀ k,C k≤500∧S k≤60000:=fun k=>by
   rw [hC,hS]
   exact ⟨Nat.le_trans (tsum_le _ ls k) f2,Nat.le_trans (tsum_le _ ls k) f3⟩
  refine ⟨fun hlt=>?_,fun he=>h.tre.k⟩
  obtain ⟨l,hl⟩:∃ l,ls[j]?=some l:=⟨_,List.getElem?_eq_getElem hlt⟩
  have hm:=List.mem_of_getElem? hl
  obtain ⟨b,o,rfl,_⟩:=hr.at hl
  have had:∀ W,Kept [] w W→W.cell? ⟨b,o+j,none⟩=some l.sl:=fun W kW=>by
   obtain ⟨b',o',e',g0⟩:=(hr.kept kW (by simp) (by simp)).at hl
   injection e' with e'
   injection e' with e1 e2 _
   subst e1 e2
   exact g0
  refine ⟨by omega,b,o,l.sl,rfl,had wr h.tre.k,?_⟩
  exact stl_step h (hr.each l hm) (hvi l hm).1 had (by omega) (hCs j l hl) (hSs j l hl) (top (j+1)).1 (top (j+1)).2
end Go.Proofs.YtgpbhlfdlkemjaaGreat
