import Derived.Test.YtgpbhlfdlkemjaaGreatH29
/-
 Root, Get: what a Tree tells.
-/
namespace Go.Proofs.YtgpbhlfdlkemjaaGreat
open Go.RowKit
set_option linter.unusedVariables false
def rootN (ρ:Rho):AT→Nat
 | none=>0
 | some n=>(ρ (adr n.2)).1
section
variable {w:World}{F:Nat→Prop}{ρ:Rho}
theorem findT {t:AT} (h:IsT w F ρ t) (hu:Up (itsT t)) (key:List UInt8):Calls Tryz.prog 56 #[ptrT t,Sv key] w fun e w'=>FoundAt (itsT t) key e∧∃q,w'=w.drewN q:=by
 match t,h,hu with
 | none,_,_ =>
  refine (find_nil key w).mono ?_
  rintro e w' ⟨rfl,rfl⟩
  exact ⟨.inr ⟨by simp [itsT],rfl⟩,0,rfl⟩
 | some n,h,hu=>exact find_any h.1 h.2.1 hu key
set_option maxRecDepth 100000 in
set_option maxHeartbeats 1000000 in
theorem root_any {tb:Nat}{t:AT} (c1:w.cell? ⟨tb,1,none⟩=some (ptrT t)) (h:IsT w F ρ t):Calls Tryz.prog 25 #[Pp tb] w fun e w'=>e=.returned (.int .i64 (rootN ρ t:Int))∧w=w':=by
 cases t with
 | none =>
  have c1':w.cell? ⟨tb,1,none⟩=some (.pointer none):=c1
  show Calls Tryz.prog 25 #[Pp tb] w fun e w'=>e=.returned (.int .i64 0)∧w=w'
  clear c1
  go_enter Tryz.func25,Tryz.ntmps25
  go_wp2
  go_ret
  exact ⟨rfl,rfl⟩
 | some n =>
  have c1':w.cell? ⟨tb,1,none⟩=some (Pp (adr n.2)):=c1
  clear c1
  have c0:=h.1.ref.1
  show Calls Tryz.prog 25 #[Pp tb] w fun e w'=>e=.returned (.int .i64 ((ρ (adr n.2)).1:Int))∧w=w'
  generalize adr n.2=A at *
  generalize (ρ A).1=r at *
  clear h
  go_enter Tryz.func25,Tryz.ntmps25
  go_wp2
  go_ret
  exact ⟨rfl,rfl⟩
set_option maxRecDepth 100000 in
set_option maxHeartbeats 1000000 in
theorem get_no {tb:Nat}{t:AT} (c1:w.cell? ⟨tb,1,none⟩=some (ptrT t)) (h:IsT w F ρ t) (hu:Up (itsT t)) (key:List UInt8) (hno:∀i∈itsT t,i.key≠key):Calls Tryz.prog 22 #[Pp tb,Sv key] w fun e w'=>e=.returned (.tuple #[.slice none 0 0,.bool false])∧∃q,w'=w.drewN q:=by
 have hf:Calls Tryz.prog 56 #[ptrT t,Sv key] w fun e w'=>e=.returned (.pointer none)∧∃q,w'=w.drewN q:=(findT h hu key).mono (by
  rintro e w' ⟨h1|h1,h2⟩
  ·obtain ⟨i,hi,hk,_⟩:=h1
   exact absurd hk (hno i hi)
  ·exact ⟨h1.2,h2⟩)
 clear h hno hu
 generalize ptrT t=P at *
 go_enter Tryz.func22,Tryz.ntmps22
 go_wp2_with fail
 refine hf.mono ?_
 rintro e w' ⟨rfl,q,rfl⟩
 go_wp2
 go_ret2
 exact ⟨rfl,q,rfl⟩
set_option maxRecDepth 100000 in
set_option maxHeartbeats 1000000 in
theorem get_yes {tb:Nat}{t:AT} (c1:w.cell? ⟨tb,1,none⟩=some (ptrT t)) (h:IsT w F ρ t) (hu:Up (itsT t)) (i:Itm) (hi:i∈itsT t) (hv:i.val.length≤100000):Calls Tryz.prog 22 #[Pp tb,Sv i.key] w fun e w'=>∃v,e=.returned (.tuple #[v,.bool true])∧Owns 5 w' v i.val∧Kept [] w w'∧Fresh w v:=by
 have hII:IsI w F ρ i:=by
  match t,h,hi with
  | some n,h,hi=>exact h.1.item i hi
 have hf:Calls Tryz.prog 56 #[ptrT t,Sv i.key] w fun e w'=>e=.returned (Pp i.ad)∧∃q,w'=w.drewN q:=(findT h hu i.key).mono (by
  rintro e w' ⟨h1|h1,h2⟩
  ·obtain ⟨j,hj,hk,h3⟩:=h1
   have:j=i:=by
    refine Classical.byContradiction fun hne=>?_
    obtain ⟨A,B,hAB⟩:=List.append_of_mem hi
    rw [hAB] at hu hj
    have h4:=Up.append.1 hu
    rcases List.mem_append.1 hj with h5|h5
    ·have:=h4.2.2 j h5 i (by simp)
     rw [hk] at this
     exact klt_irrefl _ this
    ·rcases List.mem_cons.1 h5 with h5|h5
     ·exact hne h5
     ·have:=(List.pairwise_cons.1 h4.2.1).1 j h5
      rw [hk] at this
      exact klt_irrefl _ this
   rw [this] at h3
   exact ⟨h3,h2⟩
  ·exact absurd rfl (h1.1 i hi))
 have HI:=Hid.mk fun q=>hII.kept ((Kept.refl [] w).drewN q) (by simp)
 clear h hu hi hII
 generalize ptrT t=P at *
 go_enter Tryz.func22,Tryz.ntmps22
 go_wp2_with fail
 refine hf.mono ?_
 rintro e w' ⟨rfl,q,rfl⟩
 obtain ⟨aV,cV,-,-,-,c3,hrd⟩:=(HI.out q).cells
 have hcl:=clone_any _ _ _ hrd (by omega)
 have kq:Kept [] w (w.drewN q):=(Kept.refl [] w).drewN q
 clear hf HI
 go_wp2_with fail
 refine hcl.mono ?_
 rintro e w2 ⟨v2,rfl,h1,h2,h3⟩
 have HD:Hid (Owns 5 w2 v2 i.val∧Kept [] w w2∧Fresh w v2):=Hid.mk ⟨h1,kq.trans h2 (by simp),h3⟩
 clear h1 h2 h3 hcl hrd
 go_wp2
 go_ret2
 exact ⟨v2,rfl,HD.out⟩
end
def updR (ρ:Rho) (b:Nat) (r:Nat × Nat):Rho:=fun x=>if x=b then r else ρ x
theorem updR_same (ρ:Rho) (b:Nat) (r:Nat × Nat):updR ρ b r b=r:=by simp [updR]
theorem updR_ne (ρ:Rho) {b x:Nat} (r:Nat × Nat) (h:x≠b):updR ρ b r x=ρ x:=by simp [updR,h]
def Odd (cs:List Value):Prop:=∀x∈cs,(∀u,x≠B8 u)∧∀a,x≠Pp a
def Turned (w w':World) (F:Nat→Prop) (b:Nat) (r:Nat × Nat):Prop :=
 ∃x0 x1 xs ty,w.heap[b]?=some (.cells (x0::x1::xs).toArray ty (0,0))∧w'.heap[b]?=some (.cells (.int .i64 (r.1:Int)::.int .u64 (r.2:Int)::xs).toArray ty (0,0))∧Odd (x0::x1::xs)∧∃S,Kept (b::S) w w'∧∀s∈S,¬F s
section
variable {w w':World}{F:Nat→Prop}{ρ:Rho}{b:Nat}{r:Nat × Nat}
theorem odd_cell {cs:List Value}{ty:TypeId} (h:w.heap[b]?=some (.cells cs.toArray ty (0,0))) (ho:Odd cs) {o:Nat}{x:Value} (hx:w.cell? ⟨b,o,none⟩=some x):(∀u,x≠B8 u)∧∀a,x≠Pp a:=by
 refine ho x ?_
 have h1:cs.toArray[o]?=some x:=by simpa [World.cell?,h] using hx
 rw [List.getElem?_toArray] at h1
 exact List.mem_of_getElem? h1
theorem IsI.turned {i:Itm} (h:IsI w F ρ i) (t:Turned w w' F b r):IsI w' F (updR ρ b r) i:=by
 obtain ⟨x0,x1,xs,ty,h1,h2,h3,S,k,hS⟩:=t
 obtain ⟨v,hb,hr,hF,hFv⟩:=h
 have hr':Reads w' v i.val:=hr.keptE k (fun hl g hg hm=>by
  rcases List.mem_cons.1 hm with rfl|hm
  ·obtain ⟨a,c,rfl,_,_,_,h5⟩:=hr
   obtain ⟨b',o,rfl,hc⟩:=h5 hl
   have e:b'=g:=by simpa [Value.ownBlock] using hg
   subst e
   obtain ⟨u,hu⟩:∃u,i.val[0]?=some u:=⟨_,List.getElem?_eq_getElem (List.length_pos_iff.2 hl)⟩
   exact (odd_cell h1 h3 (hc 0 u hu)).1 u rfl
  ·exact hS g hm (hFv hl g hg))
 by_cases e:i.ad=b
 ·refine ⟨v,?_,hr',hF,hFv⟩
  rw [e] at hb ⊢
  rw [hb] at h1
  injection h1 with h1
  injection h1 with h1 h1b _
  have h4:=congrArg Array.toList h1
  simp at h4
  obtain ⟨_,_,h5⟩:=h4
  rw [h2,updR_same,←h5,←h1b]
 ·refine ⟨v,?_,hr',hF,hFv⟩
  rw [updR_ne ρ r e]
  exact k.keeps hb (fun hm=>by
   rcases List.mem_cons.1 hm with h6|h6
   ·exact e h6
   ·exact hS _ h6 hF)
theorem IsB.turned {a lv:Nat}{is us:List Nat} (h:IsB w F a (ρ a) lv is us) (t:Turned w w' F b r):IsB w' F a (updR ρ b r a) lv is us:=by
 obtain ⟨x0,x1,xs,ty,h1,h2,h3,S,k,hS⟩:=t
 obtain ⟨vi,vu,hb,hri,hru,hF,hFi,hFu⟩:=h
 have key:∀(v:Value) (l:List Nat),ReadsP w v l→(l≠[]→∀g,v.ownBlock=some g→F g)→ReadsP w' v l:=fun v l hr hf=>hr.keptE k (fun hl g hg hm=>by
  rcases List.mem_cons.1 hm with rfl|hm
  ·obtain ⟨x,hx⟩:∃x,l[0]?=some x:=⟨_,List.getElem?_eq_getElem (List.length_pos_iff.2 hl)⟩
   obtain ⟨b',o,c,rfl,hc⟩:=hr.at 0 x hx
   have e:b'=g:=by simpa [Value.ownBlock] using hg
   subst e
   exact (odd_cell h1 h3 hc).2 x rfl
  ·exact hS g hm (hf hl g hg))
 by_cases e:a=b
 ·refine ⟨vi,vu,?_,key _ _ hri hFi,key _ _ hru hFu,hF,hFi,hFu⟩
  rw [e] at hb ⊢
  rw [hb] at h1
  injection h1 with h1
  injection h1 with h1 h1b _
  have h4:=congrArg Array.toList h1
  simp at h4
  obtain ⟨_,_,h5⟩:=h4
  rw [h2,updR_same,←h5,←h1b]
 ·refine ⟨vi,vu,?_,key _ _ hri hFi,key _ _ hru hFu,hF,hFi,hFu⟩
  rw [updR_ne ρ r e]
  exact k.keeps hb (fun hm=>by
   rcases List.mem_cons.1 hm with h6|h6
   ·exact e h6
   ·exact hS _ h6 hF)
theorem IsN.turned (t:Turned w w' F b r):{k:Nat}→{n:Tr k}→IsN w F ρ n→IsN w' F (updR ρ b r) n
 | 0,_,h=>⟨h.1.turned t,fun i hi=>(h.2 i hi).turned t⟩
 | _+1,_,h=>⟨h.1.turned t,fun u hu=>IsN.turned t (h.2 u hu)⟩
end
structure Ly (w0 w:World) (F:Nat→Prop) (lb p:Nat) (vn:Value) (names:List Nat) (q:Nat) (s:St) (fr ct:Nat) (L:List Ent) (fl:List Nat) (X:Nat→Prop):Prop where
 box:w.heap[lb]?=some (.cells #[Pp p,vn] 152 (0,0))
 own:OwnsI w vn names
 apart:vn.ownBlock≠some lb
 sy:SyP w0 w q p s fr ct L fl X
 low:∀x,X x→x<w.heap.size
 xl:X lb
 xn:∀g,vn.ownBlock=some g→X g
 xf:∀g,F g→g<w.heap.size→X g
 fl0:¬F lb
 fn:∀g,vn.ownBlock=some g→¬F g
 since:w0.heap.size≤lb∧∀g,vn.ownBlock=some g→w0.heap.size≤g
section
variable {w0 w w':World}{F:Nat→Prop}{ρ:Rho}{lb p:Nat}{vn:Value}{names:List Nat}{q:Nat}{s:St}{fr ct:Nat}{L:List Ent}{fl:List Nat}{X:Nat→Prop}
theorem Ly.kept (h:Ly w0 w F lb p vn names q s fr ct L fl X) (k:Kept [] w w') (hF:∀g,F g→g<w.heap.size):Ly w0 w' F lb p vn names q s fr ct L fl X :=
 ⟨k.keeps h.box (by simp),h.own.kept k (by simp),h.apart,h.sy.kept k,fun x hx=>Nat.lt_of_lt_of_le (h.low x hx) k.size,h.xl,h.xn,fun g hg _=>h.xf g hg (hF g hg),h.fl0,h.fn,h.since⟩
theorem ly_put (h:Ly w0 w F lb p vn names q s fr ct L fl X) (hF:∀g,F g→g<w.heap.size) (hFw:∀g,F g→w0.heap.size≤g) {ib:Nat}{x0 x1:Value}{xs:List Value}{ty:TypeId} (hib:w.heap[ib]?=some (.cells (x0::x1::xs).toArray ty (0,0))) (hodd:Odd (x0::x1::xs)) (hFi:F ib) (a:Option Addr) (n c:Nat) (l:List UInt8) (hn:n=l.length) (hr:Reads w (.slice a n c) l) (hX:∀g,(Value.slice a n c).ownBlock=some g→g≠lb∧vn.ownBlock≠some g) (hnl:names.length≤900000) (hl:n≤20000) (hk:bks n≤fl.length) (hd:s.down=false) (hf:s.fuse<0∨(bks n:Int)≤s.fuse) (hws:s.ws.length≤90000)
  (hsy:SyP w0 w q p s fr ct L fl (fun b=>(Value.slice a n c).ownBlock=some b∨X b)) (hvl:∀g,(Value.slice a n c).ownBlock=some g→g<w.heap.size) :
  Calls Tryz.prog 127 #[Pp lb,Pp ib,.slice a n c] w fun e w'=>e=.returned (.int .i64 0)∧∃(nm:Nat) (vs:List Wr) (fu:Int) (vn':Value),fl.head?=some nm∧vs.length=bks n∧(∀x∈vs,x.1∈fl.take (bks n))∧(s.fuse<0→fu=s.fuse)∧Turned w w' F ib (nm,fnv l)∧w.heap.size≤w'.heap.size ∧
   Ly w0 w' F lb p vn' (names++[nm]) q { s with ws:=s.ws++vs,fuse:=fu } fr ct (L++[(nm,fl.take (bks n),l)]) (fl.drop (bks n)) (fun b=>vn'.ownBlock=some b∨X b):=by
 have hne:ib≠lb:=fun e=>h.fl0 (by rw [←e];exact hFi)
 have hni:vn.ownBlock≠some ib:=fun e=>h.fn ib e hFi
 have c0:w.cell? ⟨lb,0,none⟩=some (Pp p):=by simp only [World.cell?,h.box];rfl
 have h152:=psy_put hsy a n c l hn hr (fun g hg=>.inl (.inl hg)) (fun x hx=>hx.elim (hvl x) (h.low x)) hl hk hd hf hws
 refine (lput_ok (l:=l) (vn:=vn) (names:=names) (ib:=ib) (x0:=x0) (x1:=x1) (xs:=xs) (ty:=ty) c0 hnl h.apart hne hni (Hid.mk hX) (R:=fun nm w1=>∃(vs:List Wr) (fu:Int),fl.head?=some nm∧vs.length=bks n∧(∀x∈vs,x.1∈fl.take (bks n))∧(s.fuse<0→fu=s.fuse)∧SyP w0 w1 q p { s with ws:=s.ws++vs,fuse:=fu } fr ct (L++[(nm,fl.take (bks n),l)]) (fl.drop (bks n)) (fun b=>(Value.slice a n c).ownBlock=some b∨X b)∧KP (fun b=>(Value.slice a n c).ownBlock=some b∨X b) w w1) (h152.mono ?_)).mono ?_
 ·rintro e w1 ⟨nm,vs,fu,rfl,g1,g2,g3,g4,g5,g6⟩
  obtain ⟨S,k,hS⟩:=id g6
  exact ⟨nm,rfl,k.keeps h.box (hS lb (.inr h.xl)),h.own.kept k (fun g hg=>hS g (.inr (h.xn g hg))),k.keeps hib (hS ib (.inr (h.xf ib hFi (hF ib hFi)))),hr.kept k (fun g hg=>hS g (.inl hg)),vs,fu,g1,g2,g3,g4,g5,g6⟩
 ·rintro e w' ⟨rfl,nm,w1,⟨vs,fu,g1,g2,g3,g4,g5,S,k,hS⟩,vn',d1,d2,d3,d4,d5⟩
  have hlt1:lb<w1.heap.size:=Nat.lt_of_lt_of_le (h.low lb h.xl) k.size
  have hvn':∀g,vn'.ownBlock=some g→vn.ownBlock=some g∨w1.heap.size≤g:=d3
  refine ⟨rfl,nm,vs,fu,vn',g1,g2,g3,g4,⟨x0,x1,xs,ty,hib,d4,hodd,S++lb::vn.ownBlock.toList,?_,fun x hx hFx=>?_⟩,Nat.le_trans k.size d5.size,⟨d1,d2,fun e=>?_,?_,fun x hx=>?_,.inr h.xl,fun g hg=>.inl hg,fun g hg _=>.inr (h.xf g hg (hF g hg)),h.fl0,fun g hg hFg=>?_,h.since.1,fun g hg=>?_⟩⟩
  ·refine (k.mono (fun x hx=>.inl (by simp [hx]))).trans d5 (fun b hb=>.inl ?_)
   simp at hb ⊢
   rcases hb with hb|hb|hb
   ·simp [hb]
   ·simp [hb]
   ·simp [hb]
  ·rcases List.mem_append.1 hx with h1|h1
   ·exact hS x (.inr (h.xf x hFx (hF x hFx))) h1
   ·rcases List.mem_cons.1 h1 with h2|h2
    ·exact h.fl0 (by rw [←h2];exact hFx)
    ·exact h.fn x (by simpa using h2) hFx
  ·rcases hvn' lb e with h1|h1
   ·exact h.apart h1
   ·omega
  ·have s1:=SyP.more (Y:=fun b=>w1.heap.size≤b) g5 (Kept.refl [] w1) (fun y hy=>hy)
   have s2:=s1.turn d5 (fun x hx=>by
    simp at hx
    rcases hx with hx|hx|hx
    ·exact .inl (.inr (.inr (by rw [hx];exact h.xl)))
    ·exact .inl (.inr (.inr (by rw [hx];exact h.xf ib hFi (hF ib hFi))))
    ·exact .inl (.inr (.inr (h.xn x hx)))) (fun x hx=>by
    simp at hx
    rcases hx with hx|hx|hx
    ·rw [hx];exact h.since.1
    ·rw [hx];exact hFw ib hFi
    ·exact h.since.2 x hx)
   refine s2.less fun y hy=>?_
   rcases hy with hy|hy
   ·rcases hvn' y hy with h1|h1
    ·exact .inr (.inr (h.xn y h1))
    ·exact .inl h1
   ·exact .inr (.inr hy)
  ·rcases hx with hx|hx
   ·exact d2.lt hx
   ·exact Nat.lt_of_lt_of_le (h.low x hx) (Nat.le_trans k.size d5.size)
  ·rcases hvn' g hg with h1|h1
   ·exact h.fn g h1 hFg
   ·have:=hF g hFg;have:=k.size;omega
  ·rcases hvn' g hg with h1|h1
   ·exact h.since.2 g h1
   ·exact Nat.le_trans h.sy.k.size (Nat.le_trans k.size h1)
theorem ly_lost (h:Ly w0 w F lb p vn names q s fr ct L fl X) (hF:∀g,F g→g<w.heap.size) {ib:Nat} (a:Option Addr) (n c:Nat) (l:List UInt8) (hn:n=l.length) (hr:Reads w (.slice a n c) l) (hl:n≤20000) (hk:bks n≤fl.length) (hd:s.down=false) (f:Nat) (hf:s.fuse=(f:Int)) (hfl:f<bks n) (hws:s.ws.length≤90000)
  (hsy:SyP w0 w q p s fr ct L fl (fun b=>(Value.slice a n c).ownBlock=some b∨X b)) (hvl:∀g,(Value.slice a n c).ownBlock=some g→g<w.heap.size) :
  Calls Tryz.prog 127 #[Pp lb,Pp ib,.slice a n c] w fun e w'=>e=.returned (.int .i64 9)∧∃vs:List Wr,vs.length=f∧Ly w0 w' F lb p vn names q { s with ws:=s.ws++vs,fuse:=0,down:=true } fr ct L fl X∧∃S,Kept S w w'∧∀x∈S,¬F x:=by
 have c0:w.cell? ⟨lb,0,none⟩=some (Pp p):=by simp only [World.cell?,h.box];rfl
 have h152:=psy_put_lost hsy a n c l hn hr (fun g hg=>.inl (.inl hg)) (fun x hx=>hx.elim (hvl x) (h.low x)) hl hk hd f hf hfl hws
 refine lput_err (vn:=vn) (ib:=ib) c0 9 (by omega) (h152.mono ?_)
 rintro e w' ⟨rfl,vs,g1,g2,S,k,hS⟩
 refine ⟨rfl,vs,g1,⟨k.keeps h.box (hS lb (.inr h.xl)),h.own.kept k (fun g hg=>hS g (.inr (h.xn g hg))),h.apart,g2.less fun y hy=>.inr hy,fun x hx=>Nat.lt_of_lt_of_le (h.low x hx) k.size,h.xl,h.xn,fun g hg _=>h.xf g hg (hF g hg),h.fl0,h.fn,h.since⟩,S,k,fun x hx hFx=>hS x (.inr (h.xf x hFx (hF x hFx))) hx⟩
end
section
variable {w:World}{F:Nat→Prop}{ρ:Rho}
theorem odd_int (k:IntKind) (z:Int) (hk:k≠.u8):(∀u,Value.int k z≠B8 u)∧∀a,Value.int k z≠Pp a:=⟨fun u e=>by simp only [B8] at e;injection e with e _;exact hk e,fun a e=>by injection e⟩
theorem odd_slice (a:Option Addr) (n c:Nat):(∀u,Value.slice a n c≠B8 u)∧∀b,Value.slice a n c≠Pp b:=⟨fun u e=>by simp only [B8] at e;injection e,fun b e=>by injection e⟩
theorem odd_string (x:ByteArray):(∀u,Value.string x≠B8 u)∧∀b,Value.string x≠Pp b:=⟨fun u e=>by simp only [B8] at e;injection e,fun b e=>by injection e⟩
theorem IsI.odd {i:Itm} (h:IsI w F ρ i):∃x0 x1 xs ty,w.heap[i.ad]?=some (.cells (x0::x1::xs).toArray ty (0,0))∧Odd (x0::x1::xs):=by
 obtain ⟨v,h1,h2,_⟩:=h
 obtain ⟨a,c,rfl,_⟩:=h2
 refine ⟨_,_,[.string ⟨i.key.toArray⟩,.slice a i.val.length c],104,h1,fun x hx=>?_⟩
 simp at hx
 rcases hx with rfl|rfl|rfl|rfl
 ·exact odd_int _ _ (by decide)
 ·exact odd_int _ _ (by decide)
 ·exact odd_string _
 ·exact odd_slice _ _ _
theorem IsN.odd {k:Nat}{n:Tr k} (h:IsN w F ρ n):∃x0 x1 xs ty,w.heap[adr n]?=some (.cells (x0::x1::xs).toArray ty (0,0))∧Odd (x0::x1::xs):=by
 obtain ⟨vi,vu,h1,h2,h3,_⟩:=h.isB
 obtain ⟨a,c,rfl,_⟩:=h2.form
 obtain ⟨a',c',rfl,_⟩:=h3.form
 refine ⟨_,_,[.int .i64 (k:Int),.slice a (ia n).length c,.slice a' (ua n).length c'],114,h1,fun x hx=>?_⟩
 simp at hx
 rcases hx with rfl|rfl|rfl|rfl|rfl
 ·exact odd_int _ _ (by decide)
 ·exact odd_int _ _ (by decide)
 ·exact odd_int _ _ (by decide)
 ·exact odd_slice _ _ _
 ·exact odd_slice _ _ _
end
def remE (L:List Ent) (ns:List Nat):List Ent:=L.filter fun x=>decide (x.1∉ns)
theorem remE_nil (L:List Ent):remE L []=L:=by unfold remE;exact List.filter_eq_self.2 (by simp)
theorem remE_step {L:List Ent}{ns:List Nat}{y:Nat} (hn:(L.map (·.1)).Nodup) (hy:y∉ns) (hm:y∈L.map (·.1)):∃A x B,x.1=y∧remE L ns=A++x::B∧remE L (ns++[y])=A++B:=by
 obtain ⟨x,hx,e⟩:=List.mem_map.1 hm
 have hxr:x∈remE L ns:=List.mem_filter.2 ⟨hx,by rw [e];simpa using hy⟩
 obtain ⟨A,B,hAB⟩:=List.append_of_mem hxr
 refine ⟨A,x,B,e,hAB,?_⟩
 have h1:remE L (ns++[y])=(remE L ns).filter fun z=>decide (z.1≠y):=by
  unfold remE
  rw [List.filter_filter]
  refine List.filter_congr fun z _=>?_
  simp [and_comm]
 have hnr:((remE L ns).map (·.1)).Nodup:=List.Nodup.sublist (List.Sublist.map _ List.filter_sublist) hn
 rw [hAB,List.map_append,List.map_cons] at hnr
 obtain ⟨_,h3,h4⟩:=List.nodup_append.1 hnr
 have h5:=(List.nodup_cons.1 h3).1
 rw [h1,hAB,List.filter_append,List.filter_cons]
 have hA:A.filter (fun z=>decide (z.1≠y))=A:=List.filter_eq_self.2 fun z hz=>by
  simp
  intro e2
  exact h4 z.1 (List.mem_map_of_mem hz) x.1 (by simp) (by rw [e2,e])
 have hB:B.filter (fun z=>decide (z.1≠y))=B:=List.filter_eq_self.2 fun z hz=>by
  simp
  intro e2
  exact h5 (by rw [e,←e2];exact List.mem_map_of_mem hz)
 rw [hA,hB,if_neg (by simp [e])]
theorem KP.trans {X:Nat→Prop}{w w1 w2:World} (h:KP X w w1) (h':KP X w1 w2):KP X w w2:=by
 obtain ⟨S,k,hS⟩:=h
 obtain ⟨S',k',hS'⟩:=h'
 exact ⟨S++S',(k.mono (fun x hx=>.inl (by simp [hx]))).trans k' (fun b hb=>.inl (by simp [hb])),fun x hx hm=>by
  rcases List.mem_append.1 hm with h|h
  ·exact hS x hx h
  ·exact hS' x hx h⟩
section
variable {w0 w:World}{q p:Nat}{s:St}{fr ct:Nat}{L:List Ent}{fl:List Nat}{X:Nat→Prop}
end
end Go.Proofs.YtgpbhlfdlkemjaaGreat
