import Derived.Test.YtgpbhlfdlkemjaaGreatH52
import Derived.Test.YtgpbhlfdlkemjaaGreatH54
/-
 What a table weighs; a Tree's disk and free blocks; SameInts.
-/
namespace Go.Proofs.YtgpbhlfdlkemjaaGreat
open Go.RowKit
set_option linter.unusedVariables false
theorem sum_tset (f:KV→Nat) (T:List KV) (c:Cg):((tset T c).map f).sum≤(T.map f).sum+f (c.key,c.val):=by
 unfold tset
 have h:∀l:List KV,((l.filter (fun x=>decide (x.1<c.key))).map f).sum+((l.filter (fun x=>decide (c.key<x.1))).map f).sum≤(l.map f).sum:=by
  intro l
  induction l with
  | nil=>simp
  | cons a l ih =>
   by_cases h1:a.1<c.key
   ·have h2:=klt_asymm h1
    simp only [List.filter_cons,h1,h2,decide_true,decide_false,if_true,List.map_cons,List.sum_cons]
    simp
    omega
   ·by_cases h2:c.key<a.1
    ·simp only [List.filter_cons,h1,h2,decide_true,decide_false,if_true,List.map_cons,List.sum_cons]
     simp
     omega
    ·simp only [List.filter_cons,h1,h2,decide_false,List.map_cons,List.sum_cons]
     simp
     omega
 have h1:=h T
 have h2:((if c.gone then [] else [(c.key,c.val)]:List KV).map f).sum≤f (c.key,c.val):=by split<;>simp
 rw [List.map_append,List.map_append,List.sum_append,List.sum_append]
 omega
theorem sum_tapp (f:KV→Nat):∀(cs:List Cg) (T:List KV),((tapp T cs).map f).sum≤(T.map f).sum+(cs.map fun c=>f (c.key,c.val)).sum
 | [],T=>by simp [tapp]
 | c::cs,T=>by
  have h1:=sum_tapp f cs (tset T c)
  have h2:=sum_tset f T c
  rw [tapp_cons,List.map_cons,List.sum_cons]
  omega
structure TOk (T:List KV) (n B:Nat):Prop where
 up:UpK T
 each:∀x∈T,x.1.length≤64∧x.2.length≤20000
 len:T.length≤n
 sum:(T.map fun x=>x.2.length).sum≤B
theorem TOk.nil (n B:Nat):TOk [] n B:=⟨List.Pairwise.nil,by simp,by simp,by simp⟩
theorem each_tset {P:KV→Prop}{T:List KV}{c:Cg} (h:∀x∈T,P x) (hc:P (c.key,c.val)):∀x∈tset T c,P x:=fun x hx=>by
 rcases mem_tset.1 hx with ⟨_,rfl⟩|⟨h1,_⟩
 ·exact hc
 ·exact h x h1
theorem each_tapp {P:KV→Prop}:∀(cs:List Cg) {T:List KV},(∀x∈T,P x)→(∀c∈cs,P (c.key,c.val))→∀x∈tapp T cs,P x
 | [],_,h,_=>h
 | c::cs,_,h,hc=>each_tapp cs (each_tset h (hc c (by simp))) (fun d hd=>hc d (List.mem_cons_of_mem _ hd))
theorem TOk.app {T:List KV}{n B:Nat} (h:TOk T n B) {cs:List Cg} (hw:WrongIs cs 0):TOk (tapp T cs) (n+cs.length) (B+(cs.map fun c=>c.val.length).sum):=by
 obtain ⟨_,hz⟩:=hw.zero
 refine ⟨up_tapp _ h.up,each_tapp cs h.each (fun c hc=>⟨(hz c hc).2.1,(hz c hc).2.2⟩),?_,?_⟩
 ·have h1:=tapp_len cs T
  have h2:=h.len
  omega
 ·have h1:=sum_tapp (fun x=>x.2.length) cs T
  have h2:=h.sum
  simp only at h1
  omega
theorem cstK_le (x:KV) (h:x.1.length≤64):119*cstK x≤x.2.length:=by
 unfold cstK
 split<;>omega
theorem TOk.cost {T:List KV}{n B:Nat} (h:TOk T n B) (hB:B≤100000):(T.map cstK).sum≤900:=by
 have h1:∀l:List KV,(∀x∈l,x.1.length≤64)→119*(l.map cstK).sum≤(l.map fun x=>x.2.length).sum:=by
  intro l
  induction l with
  | nil=>simp
  | cons a l ih =>
   intro hl
   have h1:=ih (fun x hx=>hl x (List.mem_cons_of_mem _ hx))
   have h2:=cstK_le a (hl a (by simp))
   simp only [List.map_cons,List.sum_cons]
   omega
 have h2:=h1 T (fun x hx=>(h.each x hx).1)
 have h3:=h.sum
 omega
theorem vals_wgt {rs:List Cq} (h:∀x∈rs,x.c.val.length≤20000):((rs.map Cq.c).map fun c=>c.val.length).sum≤(rs.map wgt).sum:=by
 rw [List.map_map]
 induction rs with
 | nil=>simp
 | cons x rs ih =>
  have h1:=ih (fun y hy=>h y (List.mem_cons_of_mem _ hy))
  have h2:=h x (by simp)
  have h3:x.c.val.length≤wgt x:=by unfold wgt;omega
  simp only [List.map_cons,List.sum_cons]
  have h4:((fun c:Cg=>c.val.length)∘Cq.c) x=x.c.val.length:=rfl
  omega
theorem WrongIs.vals {rs:List Cq} (h:WrongIs (rs.map Cq.c) 0):((rs.map Cq.c).map fun c=>c.val.length).sum≤(rs.map wgt).sum:=vals_wgt fun x hx=>(h.zero.2 x.c (List.mem_map_of_mem hx)).2.2
section
variable {w:World}
end
section
variable {w0 w w':World}{tb p q:Nat}{V V':Nat→Prop}{ρ:Rho}{t:AT}{old:List Nat}{s s':St}{fr ct:Nat}{L:List Ent}{fl:List Nat}
def TV (db:Nat) (v:Value) (T:List KV) (b:Nat):Prop:=b=db∨(T≠[]∧v.ownBlock=some b)
theorem TV.lt {db:Nat}{v:Value}{T:List KV} (h:IsTab w db v T) {g:Nat} (hx:TV db v T g):g<w.heap.size:=by
 rcases hx with rfl|⟨hT,hg⟩
 ·exact (Array.getElem?_eq_some_iff.1 h.box).1
 ·have he:CT T≠[]:=fun e=>hT (by simpa [CT] using e)
  obtain ⟨a,cap,h1,h2,h3,h4,h5⟩:=h.row
  obtain ⟨b,o,rfl,hc⟩:=h5 he
  obtain ⟨r,rs,hr⟩:=List.exists_cons_of_ne_nil he
  have hw:=CT_wide T r (by rw [hr];simp)
  obtain ⟨x,xs,rfl⟩:∃x xs,r=x::xs:=by
   cases r with
   | nil=>simp at hw
   | cons x xs=>exact ⟨x,xs,rfl⟩
  have hcell:=hc 0 _ (by rw [hr];rfl) 0 x rfl
  have hb:g=b:=by
   rw [h1] at hg
   simp [Value.ownBlock] at hg
   omega
  subst hb
  unfold World.cell? at hcell
  rcases Nat.lt_or_ge g w.heap.size with hlt|hge
  ·exact hlt
  ·rw [Array.getElem?_eq_none hge] at hcell
   simp at hcell
theorem IsTab.keptV {db:Nat}{v:Value}{T:List KV} (h:IsTab w db v T) {S:List Nat} (k:Kept S w w') (hS:∀x,TV db v T x→x∉S):IsTab w' db v T:=by
 refine ⟨k.keeps h.box (hS db (.inl rfl)),?_,h.apart⟩
 by_cases he:T=[]
 ·obtain ⟨a,cap,h1,h2,h3,h4,_⟩:=h.row
  exact ⟨a,cap,h1,h2,h3,h4,fun hne=>absurd (by rw [he];rfl) hne⟩
 ·exact h.row.kept k fun g hg=>hS g (.inr ⟨he,hg⟩)
theorem IsTab.kp {db:Nat}{v:Value}{T:List KV} (h:IsTab w db v T) (k:KP V w w') (hV:∀x,TV db v T x→V x):IsTab w' db v T:=by
 obtain ⟨S,k,hS⟩:=k
 exact h.keptV k fun x hx=>hS x (hV x hx)
end
theorem perm_lift {α β:Type} (f:α→β) {ns ms:List β} (h:ns.Perm ms):∀l:List α,ms=l.map f→∃l':List α,l'.Perm l∧l'.map f=ns:=by
 induction h with
 | nil=>intro l e;exact ⟨l,List.Perm.refl _,e.symm⟩
 | cons x _ ih =>
  intro l e
  cases l with
  | nil=>cases e
  | cons a l =>
   rw [List.map_cons] at e
   injection e with e1 e2
   obtain ⟨l',h1,h2⟩:=ih l e2
   exact ⟨a::l',h1.cons a,by rw [List.map_cons,h2,e1]⟩
 | swap x y r =>
  intro l e
  match l,e with
  | a::b::l,e =>
   rw [List.map_cons,List.map_cons] at e
   injection e with e1 e2
   injection e2 with e2 e3
   exact ⟨b::a::l,List.Perm.swap a b l,by rw [List.map_cons,List.map_cons,e1,e2,e3]⟩
 | trans _ _ ih1 ih2 =>
  intro l e
  obtain ⟨l2,h1,h2⟩:=ih2 l e
  obtain ⟨l1,h3,h4⟩:=ih1 l2 h2.symm
  exact ⟨l1,h3.trans h1,h4⟩
def lw (i:Itm):Nat:=if lng i=true then 1 else 0
def lwK (x:KV):Nat:=if 236<3+x.1.length+x.2.length then 1 else 0
theorem lw_kv (l:List Itm):(l.map lw).sum=((l.map kv).map lwK).sum:=by
 rw [List.map_map]
 congr 1
 refine List.map_congr_left fun i _=>?_
 unfold lw lng
 show _=lwK (kv i)
 unfold lwK kv
 simp
theorem nms_len2 {w:World}{F:Nat→Prop}{ρ:Rho} (hs:∀{i:Itm},IsI w F ρ i→lng i=false→(ρ i.ad).1=0):{k:Nat}→(n:Tr k)→IsN w F ρ n→(nms ρ n).length≤nn n+((its n).map lw).sum
 | 0,n,hN=>by
  have h1:=sum_le_sum (l:=n.2) (f:=fun i=>(pn ρ i.ad).length) (g:=lw) fun i hi=>by
   unfold lw
   split
   ·exact pn_len ρ i.ad
   ·rename_i hg
    have:=hs (hN.2 i hi) (by simpa using hg)
    simp [pn,this]
  have h2:=pn_len ρ n.1
  have h3:=len_flat (fun i:Itm=>pn ρ i.ad) n.2
  show ((n.2.flatMap fun i=>pn ρ i.ad)++pn ρ n.1).length≤1+(n.2.map lw).sum
  rw [List.length_append]
  omega
 | k+1,n,hN=>by
  have h1:=sum_le_sum (l:=n.2) (f:=fun u=>(nms ρ u).length) (g:=fun u=>nn u+((its u).map lw).sum) fun u hu=>nms_len2 hs u (hN.2 u hu)
  rw [sum_add] at h1
  have h2:=pn_len ρ n.1
  have h3:=len_flat (nms ρ) n.2
  have h4:=sum_flat lw (its (k:=k)) n.2
  have h5:nn n=1+(n.2.map nn).sum:=rfl
  have h6:its n=n.2.flatMap its:=rfl
  show (n.2.flatMap (nms ρ)++pn ρ n.1).length≤_
  rw [List.length_append,h6]
  omega
theorem lwK_le (x:KV) (h:x.1.length≤64):170*lwK x≤x.2.length:=by
 unfold lwK
 split<;>omega
theorem TOk.longs {T:List KV}{n B:Nat} (h:TOk T n B) (hB:B≤60000):(T.map lwK).sum≤352:=by
 have h1:∀l:List KV,(∀x∈l,x.1.length≤64)→170*(l.map lwK).sum≤(l.map fun x=>x.2.length).sum:=by
  intro l
  induction l with
  | nil=>simp
  | cons a l ih =>
   intro hl
   have h1:=ih (fun x hx=>hl x (List.mem_cons_of_mem _ hx))
   have h2:=lwK_le a (hl a (by simp))
   simp only [List.map_cons,List.sum_cons]
   omega
 have h2:=h1 T (fun x hx=>(h.each x hx).1)
 have h3:=h.sum
 omega
section
variable {w0 w:World}{tb p q:Nat}{V:Nat→Prop}{ρ:Rho}{t:AT}{s:St}{fr ct:Nat}{L:List Ent}{fl:List Nat}
theorem NI.none (h:NI ρ none [] L):L=[]:=by
 have:=h.names.length_eq
 rw [List.length_map] at this
 exact List.eq_nil_of_length_eq_zero this
theorem NI.few {F:Nat→Prop} (h:NI ρ t [] L) (hT:IsT w F ρ t) (hl:(itsT t).length≤500) {T:List KV} (he:(itsT t).map kv=T) {n B:Nat} (hO:TOk T n B) (hB:B≤60000):L.length≤912:=by
 have h1:=h.names.length_eq
 rw [List.length_map,List.append_nil] at h1
 cases t with
 | none=>rw [h1];exact Nat.zero_le _
 | some n =>
  have h2:=nms_len2 (fun hI hg=>h.short hT.1 hI hg) n.2 hT.1
  have h3:=nn_le n.2 hT.2.1 hT.2.2 hl
  have h4:=hO.longs hB
  rw [←he,←lw_kv] at h4
  have h5:((itsT (some n)).map lw).sum=((its n.2).map lw).sum:=rfl
  have h6:(nmsT ρ (some n)).length=(nms ρ n.2).length:=rfl
  omega
end
def DkP (w0 w:World) (q:Nat) (s:St) (fr ct:Nat) (L:List Ent) (fl:List Nat):Prop :=
 ∃F,IsD w F q s∧Okp s fr ct L fl∧Kept [] w0 w∧∀x∈F,w0.heap.size≤x
theorem DkP.kept {w0 w w':World}{q fr ct:Nat}{s:St}{L:List Ent}{fl:List Nat} (h:DkP w0 w q s fr ct L fl) (k:Kept [] w w'):DkP w0 w' q s fr ct L fl:=by
 obtain ⟨F,hD,hO,hK,hH⟩:=h
 exact ⟨F,hD.kept k (by simp),hO,hK.trans k (by simp),hH⟩
theorem rdr_namesD {w0 w:World}{q g1 g2 g3 fr ct:Nat}{s:St}{L:List Ent}{fl:List Nat}{tx:Nat→List UInt8} (h:DkP w0 w q s fr ct L fl) (hd:s.down=false) (hLl:L.length≤1000) (hg1:w.heap[g1]?=some (.cells #[Pp q] 30 (0,0))) (hg2:w.heap[g2]?=some (.cells #[.int .i64 (fr:Int)] 3 (0,0))) (hg3:w.heap[g3]?=some (.cells #[.int .i64 (ct:Int)] 3 (0,0))) :
  Rdr (fun x=>x<w.heap.size) (fun n=>∃x∈L,x.1=n∧x.2.2=tx n) tx 59 #[Pp g1,Pp g2,Pp g3] w:=by
 refine ⟨fun args W=>by kernel_rfl,fun S w' v ns k hS hr hl hnd hn=>?_⟩
 have k0:Kept [] w w':=k.mono (fun x hx=>.inr (by have:=hS x hx;omega))
 have e1:=k0.keeps hg1 (by simp)
 have e2:=k0.keeps hg2 (by simp)
 have e3:=k0.keeps hg3 (by simp)
 obtain ⟨M,hM,hML⟩:=ents_of hn
 obtain ⟨F,hD,hO,hK,hH⟩:=h.kept k0
 obtain ⟨a,c,rfl,-,-⟩:=hr.form
 have hMn:M.Nodup:=by
  rw [←hM] at hnd
  exact (List.pairwise_map.1 hnd).imp fun hne e=>hne (by rw [e])
 have hMl:M.length≤1000:=by
  have h1:=sub_length hnd (ms:=L.map (·.1)) (fun n hn'=>by
   obtain ⟨x,hx,e,-⟩:=hn n hn'
   exact List.mem_map.2 ⟨x,hx,e⟩)
  rw [←hM,List.length_map,List.length_map] at h1
  omega
 have hlen:ns.length=M.length:=by rw [←hM,List.length_map]
 have hbn:=(List.nodup_append.1 hO.nodup).1
 have ho:=popen_texts (w0:=w0) (w:=w') (q:=q) (X:=fun _=>False) (L:=M) hD hd hO.one hO.area (fun x hx=>hO.lies x (hML x hx).1) (bls_sub hbn hMn (fun x hx=>(hML x hx).1)) (fun b hb=>by
  obtain ⟨x,hx,hxb⟩:=mem_bls.1 hb
  exact hO.mem (List.mem_append.2 (.inl (mem_bls.2 ⟨x,(hML x hx).1,hxb⟩)))) hMl a ns.length c hlen (by rw [hM];exact hr) hK (fun x hx=>⟨hH x hx,fun f=>f⟩) (fun x f=>f.elim)
 refine names1_walk (q:=q) (fr:=fr) (ct:=ct) (by simp [World.cell?,e1]) (by simp [World.cell?,e2]) (by simp [World.cell?,e3]) (ho.mono ?_)
 rintro e w1 ⟨p2,fl2,rfl,hS2,k2⟩
 refine ⟨p2,rfl,(textsOf_any (tx:=tx) (hr.kept k2 (by simp)) hl fun W n kW hm=>?_).mono ?_⟩
 ·rw [←hM] at hm
  obtain ⟨x,hx,rfl⟩:=List.mem_map.1 hm
  rw [←(hML x hx).2]
  exact psy_get (hS2.kept kW) hd x hx
 ·rintro e w2 ⟨vt,rfl,h1,h2⟩
  exact ⟨vt,rfl,h1.older k2.size,k2.trans h2 (by simp)⟩
section
variable {w0 w:World}{q:Nat}{s:St}{fr ct:Nat}{L:List Ent}{fl:List Nat}
theorem TreeAt.namesD {tx:Nat→List UInt8}{ρ:Rho}{K:Nat}{t:Tr K}{nm:Nat} (hT:TreeAt (fun n=>∃x∈L,x.1=n∧x.2.2=tx n) tx ρ t nm) (h:DkP w0 w q s fr ct L fl) (hfr:1≤fr) (hd:s.down=false) (hLl:L.length≤1000) (hsz:∀i∈its t,i.key.length≤1000∧i.val.length≤100000) :
  Calls Tryz.prog 24 #[Pp q,.int .i64 (fr:Int),.int .i64 (ct:Int),.int .i64 (nm:Int)] w fun e w'=>∃v,e=.returned (.tuple #[v,.int .i64 0])∧∃ns,OwnsI w' v ns∧Rises ns (nm::toRead ρ [t])∧Kept [] w w'∧Fresh w v:=by
 refine names_walk hfr ?_
 have ka:=(Kept.refl [] w).alloc (.cells #[Pp q] 30)
 have hb1:(w.alloc (.cells #[Pp q] 30)).heap[w.heap.size]?=some (.cells #[Pp q] 30 (0,0)):=heap_alloc_new w _
 obtain ⟨w1,e1⟩:∃w1,w.alloc (.cells #[Pp q] 30)=w1:=⟨_,rfl⟩
 rw [e1] at hb1 ka ⊢
 have hs1:w1.heap.size=w.heap.size+1:=by rw [←e1];simp
 have kb:=(Kept.refl [] w1).alloc (.cells #[.int .i64 (fr:Int)] 3)
 have hb2:(w1.alloc (.cells #[.int .i64 (fr:Int)] 3)).heap[w1.heap.size]?=some (.cells #[.int .i64 (fr:Int)] 3 (0,0)):=heap_alloc_new w1 _
 have hb12:=kb.keeps hb1 (by simp)
 obtain ⟨w2,e2⟩:∃w2,w1.alloc (.cells #[.int .i64 (fr:Int)] 3)=w2:=⟨_,rfl⟩
 rw [e2] at hb2 hb12 kb ⊢
 have hs2:w2.heap.size=w.heap.size+2:=by rw [←e2];simp [hs1]
 have kc:=(Kept.refl [] w2).alloc (.cells #[.int .i64 (ct:Int)] 3)
 have hb3:(w2.alloc (.cells #[.int .i64 (ct:Int)] 3)).heap[w2.heap.size]?=some (.cells #[.int .i64 (ct:Int)] 3 (0,0)):=heap_alloc_new w2 _
 have hb13:=kc.keeps hb12 (by simp)
 have hb23:=kc.keeps hb2 (by simp)
 obtain ⟨w3,e3⟩:∃w3,w2.alloc (.cells #[.int .i64 (ct:Int)] 3)=w3:=⟨_,rfl⟩
 rw [e3] at hb3 hb13 hb23 kc ⊢
 rw [hs1] at hb23
 rw [hs2] at hb3
 have k3:Kept [] w w3:=(ka.trans kb (by simp)).trans kc (by simp)
 have hz3:=k3.size
 have h3:=h.kept k3
 obtain ⟨F,hD,hO,hK,hH⟩:=h3
 refine (popen_texts (w0:=w0) (w:=w3) (q:=q) (X:=fun _=>False) (L:=[]) hD hd hO.one hO.area (by simp) (by simp [bls]) (by simp [bls]) (by simp) none 0 0 rfl (OwnsI.nil w3).reads hK (fun x hx=>⟨hH x hx,fun f=>f⟩) (fun x f=>f.elim)).mono ?_
 rintro e w4 ⟨p2,fl2,rfl,hS4,k4⟩
 have k04:Kept [] w w4:=k3.trans k4 (by simp)
 have h4:=h.kept k04
 refine ⟨p2,rfl,?_,?_⟩
 ·have:=k4.keeps hb13 (by simp)
  simp [World.cell?,this]
 have hD4:=hD.kept k4 (by simp)
 refine (down_any hD4).mono ?_
 rintro e w5 ⟨rfl,rfl⟩
 refine ⟨by rw [hd],?_⟩
 refine (load_any hT.lev (rdr_namesD (tx:=tx) h4 hd hLl (k4.keeps hb13 (by simp)) (k4.keeps hb23 (by simp)) (k4.keeps hb3 (by simp))) (fun x hx=>hx) hT.root hT.text hT.nm0 hT.nmb hT.len hT.laid (nodup_ints hT.nodup) hT.pos hT.few hT.small hT.up).mono ?_
 rintro e w6 ⟨top,rfl,hLP⟩
 obtain ⟨k6,ρ',t',rfl,hN,hits,hnm,hr,hf,hw,hnd⟩:=hLP.all hT
 refine ⟨_,rfl,?_⟩
 have hln:=hnm.length_eq
 refine (names_sorted hN (fun b hb=>hb.2) hnd hw (fun i hi=>?_) (by simp at hln;have:=hT.few;omega)).mono ?_
 ·have hm:(i.key,i.val)∈(its t').map fun i=>(i.key,i.val):=List.mem_map.2 ⟨i,hi,rfl⟩
  rw [hits] at hm
  obtain ⟨x,hx,e⟩:=List.mem_map.1 hm
  simp only [Prod.mk.injEq] at e
  rw [←e.1,←e.2]
  exact hsz x hx
 rintro e w7 ⟨f,rfl,h51⟩
 refine ⟨f,rfl,h51.mono ?_⟩
 rintro e w8 ⟨v,rfl,ho,k8,hfv⟩
 have k06:=k04.trans k6 (by simp)
 refine ⟨v,rfl,_,ho,?_,k06.trans k8 (by simp),fun g hg=>by have:=hfv g hg;have:=k06.size;omega⟩
 exact prises_of (hnm.map fun n:Nat=>(n:Int)) hT.nodup
theorem names_zeroD (h:DkP w0 w q s fr ct L fl) (hfr:1≤fr) (hd:s.down=false) :
  Calls Tryz.prog 24 #[Pp q,.int .i64 (fr:Int),.int .i64 (ct:Int),.int .i64 ((0:Nat):Int)] w fun e w'=>∃v,e=.returned (.tuple #[v,.int .i64 0])∧OwnsI w' v []∧Kept [] w w'∧Fresh w v:=by
 refine names_walkV hfr ?_
 have ka:=(Kept.refl [] w).alloc (.cells #[Pp q] 30)
 have hb1:(w.alloc (.cells #[Pp q] 30)).heap[w.heap.size]?=some (.cells #[Pp q] 30 (0,0)):=heap_alloc_new w _
 obtain ⟨w1,e1⟩:∃w1,w.alloc (.cells #[Pp q] 30)=w1:=⟨_,rfl⟩
 rw [e1] at hb1 ka ⊢
 have hs1:w1.heap.size=w.heap.size+1:=by rw [←e1];simp
 have kb:=(Kept.refl [] w1).alloc (.cells #[.int .i64 (fr:Int)] 3)
 have hb2:(w1.alloc (.cells #[.int .i64 (fr:Int)] 3)).heap[w1.heap.size]?=some (.cells #[.int .i64 (fr:Int)] 3 (0,0)):=heap_alloc_new w1 _
 have hb12:=kb.keeps hb1 (by simp)
 obtain ⟨w2,e2⟩:∃w2,w1.alloc (.cells #[.int .i64 (fr:Int)] 3)=w2:=⟨_,rfl⟩
 rw [e2] at hb2 hb12 kb ⊢
 have hs2:w2.heap.size=w.heap.size+2:=by rw [←e2];simp [hs1]
 have kc:=(Kept.refl [] w2).alloc (.cells #[.int .i64 (ct:Int)] 3)
 have hb3:(w2.alloc (.cells #[.int .i64 (ct:Int)] 3)).heap[w2.heap.size]?=some (.cells #[.int .i64 (ct:Int)] 3 (0,0)):=heap_alloc_new w2 _
 have hb13:=kc.keeps hb12 (by simp)
 have hb23:=kc.keeps hb2 (by simp)
 obtain ⟨w3,e3⟩:∃w3,w2.alloc (.cells #[.int .i64 (ct:Int)] 3)=w3:=⟨_,rfl⟩
 rw [e3] at hb3 hb13 hb23 kc ⊢
 rw [hs1] at hb23
 rw [hs2] at hb3
 have k3:Kept [] w w3:=(ka.trans kb (by simp)).trans kc (by simp)
 have hz3:=k3.size
 have h3:=h.kept k3
 obtain ⟨F,hD,hO,hK,hH⟩:=h3
 refine (popen_texts (w0:=w0) (w:=w3) (q:=q) (X:=fun _=>False) (L:=[]) hD hd hO.one hO.area (by simp) (by simp [bls]) (by simp [bls]) (by simp) none 0 0 rfl (OwnsI.nil w3).reads hK (fun x hx=>⟨hH x hx,fun f=>f⟩) (fun x f=>f.elim)).mono ?_
 rintro e w4 ⟨p2,fl2,rfl,hS4,k4⟩
 have k04:Kept [] w w4:=k3.trans k4 (by simp)
 have h4:=h.kept k04
 refine ⟨p2,rfl,?_,?_⟩
 ·have:=k4.keeps hb13 (by simp)
  simp [World.cell?,this]
 have hD4:=hD.kept k4 (by simp)
 refine (down_any hD4).mono ?_
 rintro e w5 ⟨rfl,rfl⟩
 refine ⟨by rw [hd],?_⟩
 refine (load_zero _ w4).mono ?_
 rintro e w6 ⟨rfl,rfl⟩
 refine ⟨_,rfl,?_⟩
 refine (names60_none w4).mono ?_
 rintro e w7 ⟨rfl,rfl⟩
 refine ⟨_,rfl,?_⟩
 have k5:=(Kept.refl [] w4).alloc (.cells #[.pointer none] 77)
 have hb5:(w4.alloc (.cells #[.pointer none] 77)).heap[w4.heap.size]?=some (.cells #[.pointer none] 77 (0,0)):=heap_alloc_new w4 _
 have hb6:=((Kept.refl [] (w4.alloc (.cells #[.pointer none] 77))).alloc (.cells #[.slice none 0 0] 41)).keeps hb5 (by simp)
 refine (sorted_of (gf:=92) (lb:=#[Pp w4.heap.size]) [] (by simp) (w4.alloc (.cells #[.pointer none] 77)) (enters_of Tryz.func92 (by kernel_rfl) rfl) (names_stops0 (by simp [World.cell?,hb6]))).mono ?_
 rintro e w8 ⟨v,rfl,ho,k8,hfv⟩
 have k06:=k04.trans k5 (by simp)
 exact ⟨v,rfl,(by simpa [srt] using ho),k06.trans k8 (by simp),fun g hg=>by have:=hfv g hg;have:=k06.size;omega⟩
end
section
variable {w0 w w1 v0:World}{tb p q c:Nat}{V:Nat→Prop}{ρ:Rho}{t:AT}{s s':St}{fr ct:Nat}{L:List Ent}{fl fl':List Nat}
theorem dk_names (h:Tre v0 w1 tb p q V ρ t [] s fr ct L fl) (hI:NI ρ t [] L) (hl:(itsT t).length≤500) (hLl:L.length≤1000) (hC:DkP w0 w c s' fr ct L fl') (hd:s'.down=false) :
  Calls Tryz.prog 24 #[Pp c,.int .i64 (fr:Int),.int .i64 (ct:Int),.int .i64 (rootN ρ t:Int)] w fun e w'=>∃v ns,e=.returned (.tuple #[v,.int .i64 0])∧OwnsI w' v ns∧Rises ns (L.map (·.1))∧Kept [] w w'∧Fresh w v:=by
 obtain ⟨T,vo,h⟩:=h
 cases t with
 | none =>
  have:=hI.none
  subst this
  refine (names_zeroD hC h.fr1 hd).mono ?_
  rintro e w' ⟨v,rfl,ho,k,hf⟩
  exact ⟨v,[],rfl,ho,⟨List.Perm.refl _,List.Pairwise.nil⟩,k,hf⟩
 | some n =>
  obtain ⟨ha,hpm⟩:=hI.at h.sy.ok h.fr1 h.ok h.tree h.up h.sz hl
  refine (ha.namesD hC h.fr1 hd hLl (fun i hi=>?_)).mono ?_
  ·have:=h.sz i hi
   omega
  ·rintro e w' ⟨v,rfl,ns,ho,hri,k,hf⟩
   have h1:=hI.names
   rw [List.append_nil] at h1
   exact ⟨v,ns,rfl,ho,⟨hri.1.trans (hpm.symm.trans h1.symm),hri.2⟩,k,hf⟩
theorem dk_open (hC:DkP w0 w c s' fr ct L fl') (hd:s'.down=false) (hLl:L.length≤1000) {v:Value}{ns:List Nat} (hr:ReadsI w v ns) (hri:Rises ns (L.map (·.1))) :
  Calls Tryz.prog 11 #[Pp c,.int .i64 (fr:Int),.int .i64 (ct:Int),v] w fun e w'=>∃p2 L2 fl2,e=.returned (.tuple #[Pp p2,.int .i64 0])∧L2.Perm L∧SyP w0 w' c p2 s' fr ct L2 fl2 (fun _=>False)∧Kept [] w w':=by
 obtain ⟨L2,hp,rfl⟩:=perm_lift (·.1) hri.1 L rfl
 obtain ⟨a,cp,rfl,_,_⟩:=hr.form
 obtain ⟨F,hD,hO,hK,hH⟩:=hC
 have hb:(bls L2).Perm (bls L):=hp.flatMap_right _
 refine (popen_texts (w0:=w0) (L:=L2) (X:=fun _=>False) hD hd hO.one hO.area (fun x hx=>hO.lies x (hp.mem_iff.1 hx)) ((hb.nodup_iff).2 (List.nodup_append.1 hO.nodup).1) (fun b hb'=>hO.mem (List.mem_append.2 (.inl (hb.mem_iff.1 hb')))) (by rw [hp.length_eq];exact hLl) a _ cp (by simp) hr hK (fun x hx=>⟨hH x hx,fun h=>h⟩) (fun x hx=>hx.elim)).mono ?_
 rintro e w' ⟨p2,fl2,rfl,hS,k⟩
 exact ⟨p2,L2,fl2,rfl,hp,hS,k⟩
theorem dk_tree (h:Tre v0 w1 tb p q V ρ t [] s fr ct L fl) (hI:NI ρ t [] L) (hl:(itsT t).length≤500) {L2:List Ent} (hp:L2.Perm L) {p2:Nat}{fl2:List Nat} (hS:SyP w0 w c p2 s' fr ct L2 fl2 (fun _=>False)) (hd:s'.down=false) :
  Calls Tryz.prog 13 #[Pp p2,.int .i64 (rootN ρ t:Int)] w fun e w'=>∃tb2 ρ2 t2,e=.returned (.tuple #[Pp tb2,.int .i64 0])∧Tre w0 w' tb2 p2 c (fun _=>False) ρ2 t2 [] s' fr ct L2 fl2∧Kept [] w w'∧(itsT t2).map kv=(itsT t).map kv:=by
 obtain ⟨T,vo,h⟩:=h
 cases t with
 | none =>
  have:=hI.none
  subst this
  have:=hp.eq_nil
  subst this
  refine (open_new hS h.fr1 (fun b hb=>hb.elim) (fun b hb=>hb.elim)).mono ?_
  rintro e w' ⟨tb2,rfl,_,hT,k2⟩
  exact ⟨tb2,_,_,rfl,hT,k2,rfl⟩
 | some n =>
  have hI2:=hI.perm hp
  have ha:=(hI2.at hS.ok h.fr1 h.ok h.tree h.up h.sz hl).1
  refine (ha.tre h.tree.2.2 hS h.fr1 hd (fun b hb=>hb.elim) (fun b hb=>hb.elim)).mono ?_
  rintro e w' ⟨tb2,ρ2,t2,rfl,_,hT,k2,hk,_⟩
  exact ⟨tb2,ρ2,_,rfl,hT,k2,hk⟩
theorem dk_cut {L':List Ent}{fl2:List Nat}{X:Nat→Prop} (h:SyP w0 w q p s' fr ct L' fl2 X) (hok:Okp s fr ct L fl) {vs:List Wr} (hws:s'.ws=s.ws++vs) (hvs:∀x∈vs,x.1∈fl) (hnb:s'.nb=s.nb) {i:Nat} (h1:s.ws.length≤i) (h2:i≤s'.ws.length) (hb:s'.ws.length≤100000) {W:World} (k:Kept [] w W) :
  Calls Tryz.prog 29 #[Pp q,.int .i64 (i:Int)] W fun e w'=>∃c,e=.returned (Pp c)∧Kept [] W w'∧∃s2,s2.down=false∧DkP w0 w' c s2 fr ct L fl:=by
 obtain ⟨F,G,T,hD,hP,hT,hFG,hO,hK,hH⟩:=h
 have hz:=(hK.trans k (by simp)).size
 refine (cut_any (hD.kept k (by simp)) (i:Int) hb).mono ?_
 rintro e w' ⟨c,rfl,G',hD',k',hG'⟩
 refine ⟨c,rfl,k',_,rfl,G',hD',?_,(hK.trans k (by simp)).trans k' (by simp),fun x hx=>Nat.le_trans hz (hG' x hx)⟩
 have h3:=hok.wrote (vs.take (i-s.ws.length)) (fun x hx=>hvs x (List.mem_of_mem_take hx)) (-1) false
 have e1:cutS s' (i:Int)={ s with ws:=s.ws++vs.take (i-s.ws.length),fuse:=-1,down:=false }:=by
  unfold cutS cutN
  rw [show (min (max (i:Int) 0) (s'.ws.length:Int)).toNat=i by omega,hws,hnb,List.take_append,List.take_of_length_le h1]
 rw [e1]
 exact h3
end
def OldC (q db rt j M:Nat) (I:World→Prop) (w:World):Prop :=
 Calls Tryz.prog 29 #[Pp q,.int .i64 (j:Int)] w fun e w1=>∃c,e=.returned (Pp c)∧Calls Tryz.prog 24 #[Pp c,.int .i64 1,.int .i64 2000,.int .i64 (rt:Int)] w1 fun e w2=>∃an n cn,e=.returned (.tuple #[.slice an n cn,.int .i64 0])∧Calls Tryz.prog 11 #[Pp c,.int .i64 1,.int .i64 2000,.slice an n cn] w2 fun e w3=>∃p2,e=.returned (.tuple #[Pp p2,.int .i64 0])∧Calls Tryz.prog 13 #[Pp p2,.int .i64 (rt:Int)] w3 fun e w4=>∃t2,e=.returned (.tuple #[Pp t2,.int .i64 0])∧Calls Tryz.prog 19 #[Pp t2,Pp db] w4 fun e w5=>e=.returned (.bool true)∧Calls Tryz.prog 28 #[Pp q] w5 fun e w6=>e=.returned (.int .i64 (M:Int))∧I w6
def OldI (q db rt n0:Nat) (R:World→Prop) (w:World):Prop :=
 ∃(M:Nat) (I:World→Prop),n0≤M∧M≤100000∧I w∧∀wr,I wr→Calls Tryz.prog 28 #[Pp q] wr fun e w1=>e=.returned (.int .i64 (M:Int))∧(∀j,n0≤j→j≤M→OldC q db rt j M I w1)∧R w1
def OldM (q tb db:Nat) (v1:Value) (R:World→Prop) (w:World):Prop :=
 Calls Tryz.prog 18 #[Pp tb] w fun e w1=>e=.returned (.tuple #[])∧Calls Tryz.prog 25 #[Pp tb] w1 fun e w2=>∃rt:Nat,e=.returned (.int .i64 (rt:Int))∧Calls Tryz.prog 28 #[Pp q] w2 fun e w3=>∃n0:Nat,e=.returned (.int .i64 (n0:Int))∧Calls Tryz.prog 14 #[Pp tb,v1] w3 fun e w4=>∃er:Int,e=.returned (.int .i64 er)∧OldI q db rt n0 R w4
def OldA (q tb db:Nat) (v0 v1:Value) (R:World→Prop) (w:World) (er:Int):Prop :=
 (er=0∧Calls Tryz.prog 17 #[Pp db,v0] w fun e w1=>e=.returned (.tuple #[])∧OldM q tb db v1 R w1)∨(er≠0∧OldM q tb db v1 R w)
def OldF (v0 v1:Value) (R:World→Prop) (w:World):Prop :=
 Calls Tryz.prog 12 #[.int .i64 2001] w fun e w3=>∃q,e=.returned (Pp q)∧Calls Tryz.prog 11 #[Pp q,.int .i64 1,.int .i64 2000,.slice none 0 0] w3 fun e w4=>∃p,e=.returned (.tuple #[Pp p,.int .i64 0])∧Calls Tryz.prog 13 #[Pp p,.int .i64 0] w4 fun e w5=>∃tb,e=.returned (.tuple #[Pp tb,.int .i64 0])∧Calls Tryz.prog 14 #[Pp tb,v0] (w5.alloc (.cells #[.slice none 0 0] 38)) fun e w6=>∃er:Int,e=.returned (.int .i64 er)∧OldA q tb w5.heap.size v0 v1 R w6 er
def OldB (v0 v1:Value) (R:World→Prop) (w:World) (b:Bool):Prop :=
 (b=false∧Calls Tryz.prog 9 #[] w fun e w1=>e=.returned (.bool true)∧R w1)∨(b=true∧OldF v0 v1 R w)
section
variable {w:World}
set_option maxRecDepth 100000 in
set_option maxHeartbeats 4000000 in
theorem old_walk {R:World→Prop}{a0 a1:Option Addr}{l0 c0 l1 c1 n2:Nat} (h2:n2<256)
  (HC:Calls Tryz.prog 9 #[] w fun e w1=>e=.returned (.bool true)∧Calls Tryz.prog 10 #[.slice (some ⟨w1.heap.size,0,none⟩) 2 2] (w1.alloc (.cells #[.slice a0 l0 c0,.slice a1 l1 c1] 40)) fun e w2=>∃b:Bool,e=.returned (.bool b)∧OldB (.slice a0 l0 c0) (.slice a1 l1 c1) R w2 b) :
  Calls Tryz.prog 5 #[.slice a0 l0 c0,.slice a1 l1 c1,.int .u8 (n2:Int)] w fun e w'=>e=.returned (.bool true)∧R w':=by
 go_enter Tryz.func5,Tryz.ntmps5
 go_wp2_with fail
 refine HC.mono ?_
 rintro e w1 ⟨rfl,HC⟩
 go_wp2_with fail
 refine HC.mono ?_
 rintro e w2 ⟨b,rfl,⟨rfl,HC⟩|⟨rfl,HC⟩⟩
 ·go_wp2_with fail
  refine HC.mono ?_
  rintro e w3 ⟨rfl,hR⟩
  have HR:=Hid.mk hR
  clear hR HC
  go_wp2
  go_ret
  exact ⟨rfl,HR.out⟩
 ·unfold OldF at HC
  go_wp2_with fail
  refine HC.mono ?_
  rintro e w3 ⟨q,rfl,HC⟩
  go_wp2_with fail
  refine HC.mono ?_
  rintro e w4 ⟨p,rfl,HC⟩
  go_wp2_with fail
  refine HC.mono ?_
  rintro e w5 ⟨tb,rfl,HC⟩
  go_wp2_with fail
  refine HC.mono ?_
  rintro e w6 ⟨er,rfl,⟨rfl,HC⟩|⟨he,HC⟩⟩
  case' inl =>
   go_wp2_with fail
   refine HC.mono ?_
   rintro e w7 ⟨rfl,HC⟩
  all_goals
   unfold OldM at HC
   go_wp2_with fail
   refine HC.mono ?_
   rintro e w8 ⟨rfl,HC⟩
   go_wp2_with fail
   refine HC.mono ?_
   rintro e w9 ⟨rt,rfl,HC⟩
   go_wp2_with fail
   refine HC.mono ?_
   rintro e w10 ⟨n0,rfl,HC⟩
   go_wp2_with fail
   refine HC.mono ?_
   rintro e w11 ⟨er2,rfl,M,I,hM,hM2,hI0,HI0⟩
   have HI:=Hid.mk HI0
   have HS:=Hid.mk hI0
   clear HC hI0 HI0
   generalize w5.heap.size=db at *
   go_wp2_with fail
   go_loopw [15] (fun i wr=>∃j:Nat,i=.int .i64 (j:Int)∧n0≤j∧j≤M+5000∧Hid (I wr)) (fun i _=>M+6000-(intOf i).toNat)
   case atStart=>exact ⟨n0,rfl,by omega,by omega,HS⟩
   case round =>
    obtain ⟨j,rfl,hj,hj2,hI⟩:=hrel
    have HC:=HI.out wr hI.out
    clear HS hI
    go_wp2_with fail
    refine HC.mono ?_
    rintro e w12 ⟨rfl,HC,hR⟩
    have HR:=Hid.mk hR
    have HK:=Hid.mk HC
    clear hR HC HI
    by_cases hlt:j≤M
    ·have HC:=HK.out j hj hlt
     clear HK HR
     unfold OldC at HC
     go_wp2_with fail
     refine HC.mono ?_
     rintro e w13 ⟨c,rfl,HC⟩
     go_wp2_with fail
     refine HC.mono ?_
     rintro e w14 ⟨an,n,cn,rfl,HC⟩
     go_wp2_with fail
     refine HC.mono ?_
     rintro e w15 ⟨p2,rfl,HC⟩
     go_wp2_with fail
     refine HC.mono ?_
     rintro e w16 ⟨t2,rfl,HC⟩
     go_wp2_with fail
     refine HC.mono ?_
     rintro e w17 ⟨rfl,HC⟩
     go_wp2_with fail
     refine HC.mono ?_
     rintro e w18 ⟨rfl,hI⟩
     have HI2:=Hid.mk hI
     clear HC hI
     go_wp2
     go_roundw
     case rel=>exact ⟨j+(1+(M-n0) / 50+n2%4),by go_num,by omega,by omega,HI2⟩
     case measure=>simp [intOf];omega
    ·go_wp2
     go_ret
     exact ⟨rfl,HR.out⟩
end
end Go.Proofs.YtgpbhlfdlkemjaaGreat
/-
 TreeOld, whole.
-/
namespace Go.Proofs.YtgpbhlfdlkemjaaGreat
open Go.RowKit
set_option linter.unusedVariables false
section
variable {w0 w:World}{tb p q:Nat}{V:Nat→Prop}{ρ:Rho}{t:AT}{old:List Nat}{s:St}{fr ct:Nat}{L:List Ent}{fl:List Nat}
theorem tre_sy (h:Tre w0 w tb p q V ρ t old s fr ct L fl):∃X,SyP w0 w q p s fr ct L fl X:=by
 obtain ⟨T,vo,h⟩:=h
 exact ⟨_,h.sy⟩
theorem old_m {db:Nat}{vT:Value}{T:List KV}{n0 B0:Nat}{a1:Option Addr}{c1:Nat}{rs1:List Cq} (h:Tre w0 w tb p q (TV db vT T) ρ t old s 1 2000 L fl) (hI:NI ρ t old L) (hT:(itsT t).map kv=T) (hD:IsTab w db vT T) (hok:TOk T n0 B0) (hr1:RowQ w0 (.slice a1 rs1.length c1) rs1) (hv1:ValsQ w0 rs1) (hn:n0+rs1.length≤500) (hB:B0+(rs1.map wgt).sum≤60000) (hold:old.length≤90000) (hws:s.ws.length≤88000) (hd:s.down=false) (hf:s.fuse<0):OldM q tb db (.slice a1 rs1.length c1) (Kept [] w0) w:=by
 have hlen:(itsT t).length≤n0:=by
  have:=hok.len
  rw [←hT,List.length_map] at this
  exact this
 refine (tre_settle2 h hI (by omega)).mono ?_
 rintro e w1 ⟨rfl,L1,fl1,h1,k1,n1⟩
 have hD1:=hD.kp k1 (fun x hx=>hx)
 have hL1:L1.length≤1000:=by
  obtain ⟨T1,vo1,g1⟩:=h1
  exact Nat.le_trans (n1.few g1.tree (by omega) hT hok (by omega)) (by omega)
 have hokp:Okp s 1 2000 L1 fl1:=by
  obtain ⟨X1,g1⟩:=tre_sy h1
  exact g1.ok
 refine ⟨rfl,(tre_root h1).mono ?_⟩
 rintro e w2 ⟨rfl,rfl⟩
 have hwr:Calls Tryz.prog 28 #[Pp q] w1 fun e w'=>e=.returned (.int .i64 (s.ws.length:Int))∧w1=w':=by
  obtain ⟨X1,g1⟩:=tre_sy h1
  exact psy_writes g1
 refine ⟨rootN ρ t,rfl,hwr.mono ?_⟩
 rintro e w3 ⟨rfl,rfl⟩
 refine ⟨s.ws.length,rfl,(apply_all2 h1 n1 (hr1.kept h1.k (by simp)) (hv1.kept h1.k (by simp)) (by omega) (by omega) (fun hw is his=>?_) (by simp) hws hd).mono ?_⟩
 ·rw [cst_kv,his,hT]
  have hvs:=hw.vals
  have ha:=hok.app hw
  refine ⟨?_,ha.cost (by omega)⟩
  have:=ha.len
  rw [←List.length_map (f:=kv),his,hT]
  rw [List.length_map] at this
  omega
 rintro e w4 ⟨er,rfl,hap⟩
 refine ⟨er,rfl,?_⟩
 have key:∃(s':St) (L':List Ent) (fl':List Nat) (X:Nat→Prop) (vs:List Wr),SyP w0 w4 q p s' 1 2000 L' fl' X∧s'.ws=s.ws++vs∧(∀x∈vs,x.1∈fl1)∧s'.nb=s.nb∧s'.ws.length≤100000∧IsTab w4 db vT T:=by
  rcases hap with ⟨_,_,k4⟩|⟨_,⟨rfl,ρ1,t1,old1,s1,L2,fl2,h2,k4,_,_,_,hs1,_,_,_,E,vs,_,e2,e3,e4⟩|⟨rfl,_,k4⟩|⟨_,hfu⟩⟩
  ·obtain ⟨X1,g1⟩:=tre_sy (h1.kept k4)
   exact ⟨s,L1,fl1,X1,[],g1,by simp,by simp,rfl,by omega,hD1.keptV k4 (by simp)⟩
  ·obtain ⟨X1,g1⟩:=tre_sy h2
   exact ⟨s1,L2,fl2,X1,vs,g1,e2,e3,e4,by omega,hD1.kp k4 (fun x hx=>hx)⟩
  ·obtain ⟨X1,g1⟩:=tre_sy (h1.kept k4)
   exact ⟨s,L1,fl1,X1,[],g1,by simp,by simp,rfl,by omega,hD1.keptV k4 (by simp)⟩
  ·omega
 obtain ⟨s',L',fl',X,vs,hS,e1,e2,e3,e4,hD4⟩:=key
 refine ⟨s'.ws.length,Kept [] w4,by rw [e1,List.length_append];omega,e4,Kept.refl _ _,fun wr kw=>?_⟩
 refine (psy_writes (hS.kept kw)).mono ?_
 rintro e w5 ⟨rfl,rfl⟩
 refine ⟨rfl,fun j hj1 hj2=>?_,hS.k.trans kw (by simp)⟩
 refine (dk_cut hS hokp e1 e2 e3 hj1 hj2 e4 kw).mono ?_
 rintro e w6 ⟨c,rfl,k6,s2,hd2,hC⟩
 refine ⟨c,rfl,(dk_names h1 n1 (by omega) hL1 hC hd2).mono ?_⟩
 rintro e w7 ⟨v,ns,rfl,ho,hri,k7,hf7⟩
 obtain ⟨a,cp,rfl,_,_⟩:=ho.form
 refine ⟨a,ns.length,cp,rfl,(dk_open (hC.kept k7) hd2 hL1 ho.reads hri).mono ?_⟩
 rintro e w8 ⟨p2,L2,fl2,rfl,hp,hS2,k8⟩
 refine ⟨p2,rfl,(dk_tree h1 n1 (by omega) hp hS2 hd2).mono ?_⟩
 rintro e w9 ⟨tb2,ρ2,t2,rfl,hT2,k9,hkv⟩
 have kk:=(((kw.trans k6 (by simp)).trans k7 (by simp)).trans k8 (by simp)).trans k9 (by simp)
 refine ⟨tb2,rfl,(same_any hT2 (hkv.trans hT) (hD4.keptV kk (by simp)) (by have:=hok.len;omega) (fun x hx=>(hok.each x hx).2)).mono ?_⟩
 rintro e w10 ⟨rfl,k10⟩
 have kk2:=kk.trans k10 (by simp)
 refine ⟨rfl,(psy_writes (hS.kept kk2)).mono ?_⟩
 rintro e w11 ⟨rfl,rfl⟩
 exact ⟨rfl,kk2⟩
end
set_option maxRecDepth 100000 in
theorem old_all (w:World) {a0 a1:Option Addr}{c0 c1:Nat}{rs0 rs1:List Cq}{n2:Nat} (h2:n2<256) (hr0:RowQ w (.slice a0 rs0.length c0) rs0) (hv0:ValsQ w rs0) (hi0:InQ rs0) (hr1:RowQ w (.slice a1 rs1.length c1) rs1) (hv1:ValsQ w rs1) (hi1:InQ rs1) :
  Calls Tryz.prog 5 #[.slice a0 rs0.length c0,.slice a1 rs1.length c1,.int .u8 (n2:Int)] w fun e w'=>e=.returned (.bool true)∧Kept [] w w':=by
 refine old_walk h2 ((awake_any w).mono ?_)
 rintro e w1 ⟨rfl,k1⟩
 obtain ⟨W1,hW1⟩:∃W1,w1.alloc (.cells #[.slice a0 rs0.length c0,.slice a1 rs1.length c1] 40)=W1:=⟨_,rfl⟩
 have kW:Kept [] w1 W1:=by rw [←hW1];exact (Kept.refl [] w1).alloc _
 have hb:W1.heap[w1.heap.size]?=some (.cells #[.slice a0 rs0.length c0,.slice a1 rs1.length c1] 40 (0,0)):=by rw [←hW1];exact heap_alloc_new w1 _
 have kk1:=k1.trans kW (by simp)
 rw [hW1]
 have hL:RowL W1 (.slice (some ⟨w1.heap.size,0,none⟩) 2 2) [⟨rs0,a0,c0⟩,⟨rs1,a1,c1⟩]:=by
  refine ⟨⟨_,2,rfl,by simp [CL],by unfold maxLen;omega,by simp,fun _=>⟨w1.heap.size,0,rfl,fun j r hj i x hx=>?_⟩⟩,fun l hl=>?_⟩
  ·have hj2:j<2:=by simpa [CL] using (List.getElem?_eq_some_iff.1 hj).1
   rcases (by omega:j=0∨j=1) with rfl|rfl
   ·simp [CL] at hj
    subst hj
    cases i with
    | zero=>simp at hx;subst hx;simp [World.cell?,hb]
    | succ i=>simp at hx
   ·simp [CL] at hj
    subst hj
    cases i with
    | zero=>simp at hx;subst hx;simp [World.cell?,hb]
    | succ i=>simp at hx
  ·simp at hl
   rcases hl with rfl|rfl
   ·exact hr0.kept kk1 (by simp)
   ·exact hr1.kept kk1 (by simp)
 have hin:∀l∈([⟨rs0,a0,c0⟩,⟨rs1,a1,c1⟩]:List Lq),l.rs.length≤4398046511104∧∀x∈l.rs,x.c.val.length≤140737488355328∧x.c.key.length≤140737488355328:=fun l hl=>by
  simp only [List.mem_cons,List.not_mem_nil,or_false] at hl
  rcases hl with rfl|rfl
  ·exact hi0
  ·exact hi1
 refine ⟨rfl,(few_any (N:=2) (ls:=[⟨rs0,a0,c0⟩,⟨rs1,a1,c1⟩]) (Hid.mk rfl) (by omega) hL (Hid.mk hin)).mono ?_⟩
 rintro e w2 ⟨b,rfl,k2,hfew⟩
 refine ⟨b,rfl,?_⟩
 have kk2:=kk1.trans k2 (by simp)
 cases b with
 | false =>
  refine .inl ⟨rfl,(awake_any w2).mono ?_⟩
  rintro e w3 ⟨rfl,k3⟩
  exact ⟨rfl,kk2.trans k3 (by simp)⟩
 | true =>
  obtain ⟨_,f2,f3⟩:=hfew rfl
  simp [wgL] at f2 f3
  refine .inr ⟨rfl,?_⟩
  unfold OldF
  have e1:((2000:Nat):Int)=2000:=by omega
  have e2:((2001:Nat):Int)=2001:=by omega
  have hnew:=psy_new (w0:=w) kk2 2001 1 2000 (by omega) (by omega) (by omega)
  rw [e1,e2] at hnew
  refine hnew.mono ?_
  rintro e w3 ⟨q,rfl,k3,h11⟩
  refine ⟨q,rfl,(h11 w3 (Kept.refl [] w3)).mono ?_⟩
  rintro e w4 ⟨p,fl,rfl,hfl,hsy,k4⟩
  refine ⟨p,rfl,(open_new hsy (by omega) (fun b hb=>hb.elim) (fun b hb=>hb.elim)).mono ?_⟩
  rintro e w5 ⟨tb,rfl,htb,hT,k5⟩
  refine ⟨tb,rfl,?_⟩
  obtain ⟨W5,hW5⟩:∃W5,w5.alloc (.cells #[.slice none 0 0] 38)=W5:=⟨_,rfl⟩
  have kW5:Kept [] w5 W5:=by rw [←hW5];exact (Kept.refl [] w5).alloc _
  have hb5:W5.heap[w5.heap.size]?=some (.cells #[.slice none 0 0] 38 (0,0)):=by rw [←hW5];exact heap_alloc_new w5 _
  have hdb:w.heap.size≤w5.heap.size:=hT.k.size
  rw [hW5]
  have hD5:IsTab W5 w5.heap.size (.slice none 0 0) []:=⟨hb5,ReadsR.nil 2 W5,by simp [Value.ownBlock]⟩
  have hT5:=hT.turn (V':=TV w5.heap.size (.slice none 0 0) []) kW5 (by simp) (fun x hx=>by
   rcases hx with rfl|⟨hx,_⟩
   ·exact .inr (Nat.le_refl _)
   ·exact absurd rfl hx) (fun x hx=>TV.lt hD5 hx)
  have hNI0:NI (fun _=>(0,0)) none [] []:=⟨by simp [nmsT],fun n e=>(by cases e),fun b hb=>absurd rfl hb⟩
  refine (apply_all2 hT5 hNI0 (hr0.kept hT5.k (by simp)) (hv0.kept hT5.k (by simp)) (by simp [itsT]) (by omega) (fun hw is his=>?_) (by simp) (by simp) rfl).mono ?_
  ·rw [cst_kv,his]
   have hvs:=hw.vals
   have ha:=(TOk.nil 0 0).app hw
   refine ⟨?_,ha.cost (by omega)⟩
   have:=ha.len
   rw [←List.length_map (f:=kv),his]
   rw [List.length_map] at this
   have e0:(itsT none).map kv=[]:=rfl
   rw [e0]
   omega
  rintro e w6 ⟨er,rfl,hap⟩
  refine ⟨er,rfl,?_⟩
  rcases hap with ⟨h0,hw,k6⟩|⟨hw,⟨rfl,ρ6,t6,old6,s6,L6,fl6,h6,k6,hkv,_,ho6,hs6,hd6,hf6,n6,_⟩|⟨rfl,_,k6⟩|⟨rfl,hfu⟩⟩
  ·exact .inr ⟨h0,old_m (hT5.kept k6) hNI0 rfl (hD5.keptV k6 (by simp)) (TOk.nil 0 0) hr1 hv1 (by omega) (by omega) (by simp) (by simp) rfl (by simp)⟩
  ·refine .inl ⟨rfl,?_⟩
   have hD6:=hD5.kp k6 (fun x hx=>hx)
   have HK:∀W,Kept [w5.heap.size] w6 W→Kept [] w W:=fun W kW=>h6.k.trans kW (fun x hx=>.inr (by simp at hx;rw [hx];exact hdb))
   refine (tabApply_any hD6 List.Pairwise.nil (Hid.mk rfl) (Hid.mk fun W kW=>hr0.kept (HK W kW) (by simp)) (Hid.mk fun W kW=>hv0.kept (HK W kW) (by simp)) (Hid.mk (by simp;omega)) (by omega)).mono ?_
   rintro e w7 ⟨rfl,v7,hD7,k7,hN7⟩
   have h7:=h6.turn (V':=TV w5.heap.size v7 (tapp [] (rs0.map Cq.c))) k7 (fun x hx=>by simp at hx;rw [hx];exact .inl rfl) (fun x hx=>by
    rcases hx with rfl|⟨_,hx⟩
    ·exact .inl (.inl rfl)
    ·rcases hN7 with ⟨_,rfl⟩|h
     ·simp [Value.ownBlock] at hx
     ·exact .inr (h x hx)) (fun x hx=>TV.lt hD7 hx)
   have hv:=hw.vals
   have hok7:=(TOk.nil 0 0).app hw
   rw [List.length_map] at hok7
   simp at ho6 hs6
   exact ⟨rfl,old_m h7 n6 hkv hD7 hok7 hr1 hv1 (by omega) (by omega) (by omega) (by omega) hd6 (by rw [hf6 (by simp)];simp)⟩
  ·exact .inr ⟨by omega,old_m (hT5.kept k6) hNI0 rfl (hD5.keptV k6 (by simp)) (TOk.nil 0 0) hr1 hv1 (by omega) (by omega) (by simp) (by simp) rfl (by simp)⟩
  ·simp at hfu
end Go.Proofs.YtgpbhlfdlkemjaaGreat
