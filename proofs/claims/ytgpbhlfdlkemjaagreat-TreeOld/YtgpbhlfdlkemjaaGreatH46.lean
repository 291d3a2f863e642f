import Derived.Test.YtgpbhlfdlkemjaaGreatH14
import Derived.Test.YtgpbhlfdlkemjaaGreatH15
import Derived.Test.YtgpbhlfdlkemjaaGreatH19
import Derived.Test.YtgpbhlfdlkemjaaGreatH28
import Derived.Test.YtgpbhlfdlkemjaaGreatH38
import Derived.Test.YtgpbhlfdlkemjaaGreatH42
import Derived.Test.YtgpbhlfdlkemjaaGreatH44
import Derived.Test.YtgpbhlfdlkemjaaGreatH45
/-
 load, whole: of a tree whose texts lie there, a tree of the same keys and values is made.
-/
namespace Go.Proofs.YtgpbhlfdlkemjaaGreat
open Go.RowKit
set_option linter.unusedVariables false
def aim (ρ:Rho) {K:Nat} (t:Tr K) (nm sm lo:Nat):Goal:=((nm:Int)::(toRead ρ [t]).map fun n:Nat=>(n:Int),fun ρ' s=>∀t':Tr K,s=⟨K,t'⟩→ρ' (adr t')=(nm,sm)∧form ρ' t'=formR ρ t,lo)
def Jl (A:Goal) (w0:World) (X D:Nat→Prop) (tx:Nat→List UInt8) (f:FuncId) (cap:Array Value) (ρ:Rho) {K:Nat} (t:Tr K) (top lb:Nat) (v:Value):Nat→World→Prop
 | 0,wr=>Kept [] w0 wr∧∃mb,w0.heap.size≤mb∧∃w1 U R N Ss ρ' m,LevL A X D tx f cap ρ (its t) top lb mb K v wr w1 U R N Ss ρ' m∧w0.heap.size≤w1.heap.size
 | l+1,wr=>Kept [] w0 wr∧∃mb,w0.heap.size≤mb∧l≤251∧∃w1 U R N Us ρ' m,LevB A X D tx f cap ρ (its t) top lb mb K l v wr w1 U R N Us ρ' m∧w0.heap.size≤w1.heap.size
def LoadP (A:Goal) (w:World) {K:Nat} (t:Tr K) (top:Nat) (w':World):Prop :=
 Kept [] w w'∧∃(ρ':Rho) (t':Tr K),adr t'=top∧IsN w' (fun x=>A.2.2≤x∧x<w'.heap.size) ρ' t'∧(its t').map (fun i=>(i.key,i.val))=(its t).map (fun i=>(i.key,i.val))∧((nms ρ' t').map fun n:Nat=>(n:Int)).Perm A.1∧A.2.1 ρ' ⟨K,t'⟩
theorem readsI_one (w:World) (n:Nat):ReadsI (w.alloc (.cells #[.int .i64 (n:Int)] 3)) (.slice (some ⟨w.heap.size,0,none⟩) 1 1) [n]:=by
 refine ⟨_,1,rfl,by simp,by decide,by simp,fun _=>⟨_,0,rfl,fun k m hm=>?_⟩⟩
 cases k with
 | zero =>
  simp at hm
  subst hm
  have hb:=heap_alloc_new w (.cells #[.int .i64 (n:Int)] 3)
  show (w.alloc (.cells #[.int .i64 (n:Int)] 3)).cell? ⟨w.heap.size,0,none⟩=_
  unfold World.cell?
  rw [hb]
  rfl
 | succ k=>simp at hm
theorem readsP_one (w:World) (p:Nat) (t:TypeId):ReadsP (w.alloc (.cells #[Pp p] t)) (.slice (some ⟨w.heap.size,0,none⟩) 1 1) [p]:=by
 refine ⟨_,1,rfl,by simp [CP],by decide,by simp,fun _=>⟨_,0,rfl,fun j r hj i x hx=>?_⟩⟩
 cases j with
 | zero =>
  simp [CP] at hj
  subst hj
  cases i with
  | zero =>
   simp at hx
   subst hx
   have hb:=heap_alloc_new w (.cells #[Pp p] t)
   show (w.alloc (.cells #[Pp p] t)).cell? ⟨w.heap.size,0,none⟩=_
   unfold World.cell?
   rw [hb]
   rfl
  | succ i=>simp at hx
 | succ j=>simp [CP] at hj
section
variable {A:Goal}{w:World}{X D:Nat→Prop}{tx:Nat→List UInt8}{f:FuncId}{cap:Array Value}{ρ:Rho}
theorem jl_step {K:Nat}{t:Tr K} (hT:(its t).length≤100000) (hup:(([]:List UInt8)::(its t).map Itm.key).Pairwise (·<·)):∀top lb v lv wr,Jl A w X D tx f cap ρ t top lb v lv wr→∃b o n c p,v=.slice (some ⟨b,o,none⟩) n c∧0<n∧wr.cell? ⟨b,o,none⟩=some (Pp p)∧wr.cell? ⟨p,2,none⟩=some (.int .i64 (lv:Int))∧(∀l,lv=l+1→Calls Tryz.prog 70 #[Pp lb,v] wr fun e w'=>∃v',e=.returned (.tuple #[v',.int .i64 0])∧Jl A w X D tx f cap ρ t top lb v' l w')∧(lv=0→Calls Tryz.prog 71 #[Pp lb,v] wr fun e w1=>e=.returned (.int .i64 0)∧Calls Tryz.prog 72 #[v] w1 fun e w2=>e=.returned (.bool true)∧LoadP A w t top w2):=by
 intro top lb v lv wr hj
 cases lv with
 | zero =>
  obtain ⟨hK0,mb,hmb,w1,U,R,N,Ss,ρ',m,h,hz⟩:=hj
  have hUl:0<U.length:=List.length_pos_iff.2 h.ne
  obtain ⟨u0,hu0⟩:∃u,U[0]?=some u:=⟨_,List.getElem?_eq_getElem hUl⟩
  obtain ⟨r0,hr0⟩:∃r,R[0]?=some r:=⟨_,List.getElem?_eq_getElem (by rw [h.rlen];exact hUl)⟩
  obtain ⟨sp0,hs0⟩:∃s,Ss[0]?=some s:=⟨_,List.getElem?_eq_getElem (by rw [h.lvs.len];exact hUl)⟩
  obtain ⟨b,o,c,rfl,hc⟩:=h.row.at 0 u0 hu0
  obtain ⟨vi,e1,-,-⟩:=h.lvs.done 0 u0 r0 sp0 hu0 hr0 hs0
  refine ⟨b,o,_,c,u0,rfl,hUl,hc,by simp [World.cell?,e1],fun l hl=>absurd hl (by omega),fun _=>?_⟩
  refine (h.values hT).mono ?_
  rintro e w5 ⟨rfl,hall,S,k,hS⟩
  refine ⟨rfl,(h.rising hT hup k hS hall).mono ?_⟩
  rintro e w6 ⟨rfl,k6⟩
  obtain ⟨t',ht,hN,hits,hnm⟩:=levL_tree h (k.trans k6 (by simp)) hS (fun z hz=>(hall z hz).kept k6 (by simp))
  refine ⟨rfl,(hK0.trans k (fun x hx=>.inr ?_)).trans k6 (by simp),_,t',ht,hN,?_,hnm⟩
  ·rcases List.mem_cons.1 hx with rfl|hx
   ·exact hmb
   ·obtain ⟨s,hs,h1,h2⟩:=hS x hx
    have:=(h.lvs.new s hs).1
    omega
  ·rw [hits,List.map_map]
   conv=>rhs;rw [←zipZ_snd h.length,List.map_map]
   rfl
 | succ l =>
  obtain ⟨hK0,mb,hmb,hl,w1,U,R,N,Us,ρ',m,h,hz⟩:=hj
  have hUl:0<U.length:=List.length_pos_iff.2 h.ne
  obtain ⟨u0,hu0⟩:∃u,U[0]?=some u:=⟨_,List.getElem?_eq_getElem hUl⟩
  obtain ⟨r0,hr0⟩:∃r,R[0]?=some r:=⟨_,List.getElem?_eq_getElem (by rw [h.rlen];exact hUl)⟩
  obtain ⟨us0,hs0⟩:∃s,Us[0]?=some s:=⟨_,List.getElem?_eq_getElem (by rw [h.brs.len];exact hUl)⟩
  obtain ⟨b,o,c,rfl,hc⟩:=h.row.at 0 u0 hu0
  obtain ⟨vu,e1,-,-⟩:=h.brs.done 0 u0 r0 us0 hu0 hr0 hs0
  have hnew:∀x∈mb::Us.flatten,w.heap.size≤x:=fun x hx=>by
   rcases List.mem_cons.1 hx with rfl|hx
   ·exact hmb
   ·have:=(h.brs.new x hx).1
    omega
  have hwr:=hK0.size
  refine ⟨b,o,_,c,u0,rfl,hUl,hc,by simp [World.cell?,e1],fun l' hl'=>?_,fun h0=>absurd h0 (by omega)⟩
  obtain rfl:l=l':=by omega
  cases l with
  | zero =>
   refine h.leaves.mono ?_
   rintro e w' ⟨v6,rfl,kall,w2,Us',hw2,hL⟩
   exact ⟨v6,rfl,hK0.trans kall (fun x hx=>.inr (hnew x hx)),mb,hmb,w2,_,_,_,_,_,_,hL,by omega⟩
  | succ k =>
   refine (h.down (by omega)).mono ?_
   rintro e w' ⟨v6,rfl,kall,w2,Us',hw2,hL⟩
   exact ⟨v6,rfl,hK0.trans kall (fun x hx=>.inr (hnew x hx)),mb,hmb,by omega,w2,_,_,_,_,_,_,hL,by omega⟩
theorem load_any {K:Nat}{t:Tr K} (hK:K≤250) (hR:Rdr X D tx f cap w) (hX:∀x,X x→x<w.heap.size) {nm:Nat} (hD:D nm) (htx:tx nm=encNode 2 ρ t) (hnm0:nm≠0) (hnb:nm<65536) (hlen:(encNode 2 ρ t).length≤238) (hl:LaidN D tx ρ t) (hnd:(((nm:Int))::(toRead ρ [t]).map fun n:Nat=>(n:Int)).Nodup) (hpos:∀n∈toRead ρ [t],n≠0) (hfew:(toRead ρ [t]).length≤90000) (hT:(its t).length≤100000) (hup:(([]:List UInt8)::(its t).map Itm.key).Pairwise (·<·)) :
  Calls Tryz.prog 41 #[.func (.func f) #[] cap,.int .i64 (nm:Int)] w fun e w'=>∃top,e=.returned (.tuple #[Pp top,.int .i64 0])∧LoadP (aim ρ t nm (fnv (tx nm)) w.heap.size) w t top w':=by
 refine load_walk (J:=Jl (aim ρ t nm (fnv (tx nm)) w.heap.size) w X D tx f cap ρ t) hnm0 hnb hR.ent ?_ (jl_step hT hup)
 refine (hR.ask [] (w.alloc (.cells #[.int .i64 (nm:Int)] 3)) (.slice (some ⟨w.heap.size,0,none⟩) 1 1) [nm] ((Kept.refl [] w).alloc _) (by simp) (readsI_one w nm) (by simp) (by simp) (by simpa using hD)).mono ?_
 rintro e w1 ⟨vt,rfl,hTx,k1⟩
 obtain ⟨bt,ot,ct,v,rfl,hc,hr,hv⟩:=hTx.at 0 (tx nm) rfl
 refine ⟨bt,ot,ct,_,v,rfl,by simp,hc,?_⟩
 refine (refTo_any nm hr).mono ?_
 rintro e w2 ⟨rfl,k2⟩
 obtain ⟨W,eW⟩:∃W,w2.alloc (.cells #[.int .i64 (nm:Int),.int .u64 ((fnv (tx nm):Nat):Int),.int .i64 0,.slice none 0 0,.slice none 0 0] 114)=W:=⟨_,rfl⟩
 have kW:Kept [] w2 W:=by rw [←eW];exact (Kept.refl [] w2).alloc _
 have hzW:W.heap.size=w2.heap.size+1:=by rw [←eW];simp
 have hb:Bare W w2.heap.size (nm,fnv (tx nm)):=by rw [←eW];exact heap_alloc_new w2 _
 have hz1:=k1.size
 have hz2:=k2.size
 have hzA:(w.alloc (.cells #[.int .i64 (nm:Int)] 3)).heap.size=w.heap.size+1:=by simp
 have k0W:Kept [] w W:=(((Kept.refl [] w).alloc _).trans k1 (by simp)).trans (k2.trans kW (by simp)) (by simp)
 refine ⟨fnv (tx nm),rfl,?_,?_⟩
 ·rw [eW]
  exact ((k2.trans kW (by simp)).cell (World.block_lt_of_cell? _ _ hc) (by simp)).trans hc
 rw [eW]
 have hrW:Reads W v (encNode 2 ρ t):=by rw [←htx];exact hr.kept (k2.trans kW (by simp)) (by simp)
 have hva:∀g,v.ownBlock=some g→g≠w2.heap.size:=fun g hg=>by have:=(hv g hg).2;omega
 have hld:∀(w3 w4:World) (hM:Mp w4 w3.heap.size [((nm:Int),unit0)]) (k4:Kept [] w3 w4) (k3:Kept [w2.heap.size] W w3),Ldr X D tx f cap w4.heap.size w3.heap.size [((nm:Int),unit0)] ((w4.alloc (.cells #[.func (.func f) #[] cap,.map (some w3.heap.size)] 135)).alloc (.cells #[Pp w2.heap.size] 77))∧Kept [] w3 ((w4.alloc (.cells #[.func (.func f) #[] cap,.map (some w3.heap.size)] 135)).alloc (.cells #[Pp w2.heap.size] 77))∧Kept [] w ((w4.alloc (.cells #[.func (.func f) #[] cap,.map (some w3.heap.size)] 135)).alloc (.cells #[Pp w2.heap.size] 77)):=fun w3 w4 hM k4 k3=>by
  have q1:Kept [] w4 (w4.alloc (.cells #[.func (.func f) #[] cap,.map (some w3.heap.size)] 135)):=(Kept.refl [] w4).alloc _
  have q2:Kept [] (w4.alloc (.cells #[.func (.func f) #[] cap,.map (some w3.heap.size)] 135)) ((w4.alloc (.cells #[.func (.func f) #[] cap,.map (some w3.heap.size)] 135)).alloc (.cells #[Pp w2.heap.size] 77)):=(Kept.refl [] _).alloc _
  have q3:=k4.trans (q1.trans q2 (by simp)) (by simp)
  have q0:=(k0W.trans k3 (fun x hx=>.inr (by simp at hx;omega))).trans q3 (by simp)
  have hz3:=k3.size
  have hm4:=hM.lt
  refine ⟨⟨q2.keeps (heap_alloc_new w4 _) (by simp),(hM.kept q1 (by simp)).kept q2 (by simp),by omega,fun hx=>by have:=hX _ hx;omega,hR.later q0 (by simp)⟩,q3,q0⟩
 have hrow:∀(w3 w4:World),ReadsP ((w4.alloc (.cells #[.func (.func f) #[] cap,.map (some w3.heap.size)] 135)).alloc (.cells #[Pp w2.heap.size] 77)) (.slice (some ⟨w4.heap.size+1,0,none⟩) 1 1) [w2.heap.size]:=fun w3 w4=>by
  have:=readsP_one (w4.alloc (.cells #[.func (.func f) #[] cap,.map (some w3.heap.size)] 135)) w2.heap.size 77
  rwa [show (w4.alloc (.cells #[.func (.func f) #[] cap,.map (some w3.heap.size)] 135)).heap.size=w4.heap.size+1 by simp] at this
 cases K with
 | zero =>
  refine (fill_leaf (kd:=2) hb hva hrW (fun i hi=>(hl.1.1 i hi).1) hl.1.2 hlen hl.2.2).mono ?_
  rintro e w3 ⟨rfl,sp,vi,hLf⟩
  refine ⟨rfl,fun w4 hM k4=>⟨0,?_⟩⟩
  obtain ⟨hL,q3,q0⟩:=hld w3 w4 hM k4 hLf.kept
  have hz3:=hLf.kept.size
  have hz4:=k4.size
  have hLs0:Lvs W W ρ [w2.heap.size] [(nm,fnv (tx nm))] [t] 0 []:=Lvs.start fun j u r hu hr=>by
   cases j with
   | zero=>simp at hu hr;subst hu hr;exact hb
   | succ j=>simp at hu
  have hLs:=hLs0.next (i:=0) (by simp) (by simp;omega) rfl rfl rfl hLf
  have hLs:Lvs W w3 ρ [w2.heap.size] [(nm,fnv (tx nm))] [t] [w2.heap.size].length [sp]:=hLs
  have hnp:∀x,w3.heap.size≤x→¬InPl [sp] x:=fun x hx hm=>by
   obtain ⟨s,hs,h1,h2⟩:=hm
   have:=(hLs.new s hs).2
   omega
  refine ⟨q0,w3.heap.size,by have:=k0W.size;omega,W,[w2.heap.size],[(nm,fnv (tx nm))],[t],[sp],fun _=>(nm,fnv (tx nm)),_,⟨hLs.later q3,rfl,rfl,hnp _ (Nat.le_refl _),hLs.norow_late q3 (Nat.le_refl _),by simp;omega,by simp;omega,by simp,hrow w3 w4,fun g hg=>?_,hL,fun x hx=>by have:=hX x hx;have:=k0W.size;omega,fun j u r hu hr=>?_,⟨[],WandN.start _ _ _ _ _ (fun ρ' t' h1 h2=>fun t2 e=>by cases e;exact ⟨h1,h2⟩),by simp⟩,by simp,by simpa using hl,hnd,rfl,by simpa using hnm0,hpos,by simp;omega,by simp,k0W.size,fun u hu=>by simp at hu;subst hu;show w.heap.size≤_;omega⟩,k0W.size⟩
  ·simp [Value.ownBlock] at hg
   subst hg
   exact ⟨hnp _ (by omega),by omega⟩
  ·cases j with
   | zero=>simp at hr;exact hr
   | succ j=>simp at hr
 | succ k =>
  refine (fill_branch (kd:=2) hb hva hrW (fun u hu=>⟨(hl.1.1 u hu).1.2.2.2.1,(hl.1.1 u hu).1.2.2.2.2⟩) hlen hl.2.2 (by omega)).mono ?_
  rintro e w3 ⟨rfl,us,vu,hUn⟩
  refine ⟨rfl,fun w4 hM k4=>⟨k+1,?_⟩⟩
  obtain ⟨hL,q3,q0⟩:=hld w3 w4 hM k4 hUn.kept
  have hz3:=hUn.kept.size
  have hz4:=k4.size
  have hBs0:Brs W W ρ k [w2.heap.size] [(nm,fnv (tx nm))] [t] 0 []:=Brs.start fun j u r hu hr=>by
   cases j with
   | zero=>simp at hu hr;subst hu hr;exact hb
   | succ j=>simp at hu
  have hBs:=hBs0.next (i:=0) (by simp) (by simp;omega) rfl rfl rfl hUn
  have hBs:Brs W w3 ρ k [w2.heap.size] [(nm,fnv (tx nm))] [t] [w2.heap.size].length [us]:=hBs
  have hnu:∀x,w3.heap.size≤x→x∉[us].flatten:=fun x hx hm=>by
   have:=(hBs.new x hm).2
   omega
  refine ⟨q0,w3.heap.size,by have:=k0W.size;omega,by omega,W,[w2.heap.size],[(nm,fnv (tx nm))],[t],[us],fun _=>(nm,fnv (tx nm)),_,⟨hBs.later q3,rfl,rfl,hnu _ (Nat.le_refl _),hnu _ (by omega),hBs.norow_late q3 (Nat.le_refl _),by simp;omega,by simp;omega,by simp,hrow w3 w4,fun g hg=>?_,hL,fun x hx=>by have:=hX x hx;have:=k0W.size;omega,fun j u r hu hr=>?_,⟨[],WandN.start _ _ _ _ _ (fun ρ' t' h1 h2=>fun t2 e=>by cases e;exact ⟨h1,h2⟩),by simp⟩,by simp,by simpa using hl,hnd,rfl,by simpa using hnm0,hpos,by simp;omega,by simp,k0W.size,fun u hu=>by simp at hu;subst hu;show w.heap.size≤_;omega⟩,k0W.size⟩
  ·simp [Value.ownBlock] at hg
   subst hg
   exact ⟨hnu _ (by omega),by omega⟩
  ·cases j with
   | zero=>simp at hr;exact hr
   | succ j=>simp at hr
end
section
variable {w0 w:World}{q p:Nat}{s:St}{fr ct:Nat}{L:List Ent}{fl:List Nat}{X:Nat→Prop}
set_option maxRecDepth 100000 in
set_option maxHeartbeats 1000000 in
theorem open_load {R:World→Prop}{nm:Nat}{Q:Nat→World→Prop} (HC:Calls Tryz.prog 38 #[Pp p] (w.alloc (.cells #[Pp p] 26)) fun e w1=>e=.returned (.bool true)∧w1.cell? ⟨w.heap.size,0,none⟩=some (Pp p)∧R w1)
  (HL:∀w1,R w1→Calls Tryz.prog 41 #[.func (.func 39) #[] #[Pp w.heap.size],.int .i64 (nm:Int)] w1 fun e w2=>∃top,e=.returned (.tuple #[Pp top,.int .i64 0])∧w2.cell? ⟨w.heap.size,0,none⟩=some (Pp p)∧Q top w2) :
  Calls Tryz.prog 13 #[Pp p,.int .i64 (nm:Int)] w fun e w'=>∃top w2,e=.returned (.tuple #[Pp w2.heap.size,.int .i64 0])∧Q top w2∧w'=w2.alloc (.cells #[Pp p,Pp top,.slice none 0 0] 81):=by
 have c0:(w.alloc (.cells #[Pp p] 26)).cell? ⟨w.heap.size,0,none⟩=some (Pp p):=by unfold World.cell?;rw [heap_alloc_new];rfl
 have HL:=Hid.mk HL
 go_enter Tryz.func13,Tryz.ntmps13
 go_wp2_with fail
 refine HC.mono ?_
 rintro e w1 ⟨rfl,c1,hR⟩
 have hl:=HL.out w1 hR
 clear HC hR c0 HL
 go_wp2_with fail
 refine hl.mono ?_
 rintro e w2 ⟨top,rfl,c2,hq⟩
 have HQ:=Hid.mk hq
 clear hl hq c1
 go_wp2
 refine bodyPost_ret (by simp [results,Tryz.results13,go_sem];try rfl) rfl ?_
 exact ⟨_,_,rfl,HQ.out,rfl⟩
theorem topen_any (h:SyP w0 w q p s fr ct L fl X) (hfr:1≤fr) (hd:s.down=false) (hlt:∀b,X b→b<w.heap.size) {tx:Nat→List UInt8}{ρ:Rho}{K:Nat}{t:Tr K} (hK:K≤250) {nm:Nat} (hD:∃x∈L,x.1=nm∧x.2.2=tx nm) (htx:tx nm=encNode 2 ρ t) (hnm0:nm≠0) (hnb:nm<65536) (hlen:(encNode 2 ρ t).length≤238) (hl:LaidN (fun n=>∃x∈L,x.1=n∧x.2.2=tx n) tx ρ t) (hnd:(((nm:Int))::(toRead ρ [t]).map fun n:Nat=>(n:Int)).Nodup) (hpos:∀n∈toRead ρ [t],n≠0) (hfew:(toRead ρ [t]).length≤90000) (hT:(its t).length≤100000) (hup:(([]:List UInt8)::(its t).map Itm.key).Pairwise (·<·)) :
  Calls Tryz.prog 13 #[Pp p,.int .i64 (nm:Int)] w fun e w'=>∃top w1 w2,e=.returned (.tuple #[Pp w2.heap.size,.int .i64 0])∧(Kept [] w w1∧LoadP (aim ρ t nm (fnv (tx nm)) w1.heap.size) w1 t top w2)∧w'=w2.alloc (.cells #[Pp p,Pp top,.slice none 0 0] 81):=by
 have k0:Kept [] w (w.alloc (.cells #[Pp p] 26)):=(Kept.refl [] w).alloc _
 have hb0:(w.alloc (.cells #[Pp p] 26)).heap[w.heap.size]?=some (.cells #[Pp p] 26 (0,0)):=heap_alloc_new w _
 refine (open_load (R:=fun w1=>Kept [] w w1∧w1.heap[w.heap.size]?=some (.cells #[Pp p] 26 (0,0))) (Q:=fun top w2=>∃w1,Kept [] w w1∧LoadP (aim ρ t nm (fnv (tx nm)) w1.heap.size) w1 t top w2) ((forTrees_any (h.kept k0) hfr).mono ?_) ?_).mono ?_
 ·rintro e w1 ⟨rfl,k1⟩
  have hb:=k1.keeps hb0 (by simp)
  exact ⟨rfl,by simp [World.cell?,hb],k0.trans k1 (by simp),hb⟩
 ·rintro w1 ⟨k1,hb⟩
  refine (load_any hK (rdr_pages (tx:=tx) (h.kept k1) hd hb) (fun x hx=>hx) hD htx hnm0 hnb hlen hl hnd hpos hfew hT hup).mono ?_
  rintro e w2 ⟨top,rfl,hP⟩
  have hb2:=hP.1.keeps hb (by simp)
  exact ⟨top,rfl,by simp [World.cell?,hb2],w1,k1,hP⟩
 ·rintro e w' ⟨top,w2,rfl,⟨w1,hq⟩,rfl⟩
  exact ⟨top,w1,w2,rfl,hq,rfl⟩
end
def PutN (ρ:Rho):{k:Nat}→List (Tr k)→Prop
 | 0,N=>∀i∈N.flatMap (fun n=>n.2),(lng i=true→(ρ i.ad).1≠0)∧(lng i=false→(ρ i.ad).1=0)
 | k+1,N=>(∀u∈below N,(ρ (adr u)).1≠0)∧PutN ρ (k:=k) (below N)
theorem split_perm {α:Type} (A B:α→List Nat):∀l:List α,(l.flatMap fun x=>A x++B x).Perm (l.flatMap A++l.flatMap B)
 | []=>List.Perm.refl _
 | x::l=>by
  rw [List.flatMap_cons,List.flatMap_cons,List.flatMap_cons]
  refine (List.Perm.append_left _ (split_perm A B l)).trans ?_
  rw [List.append_assoc,List.append_assoc]
  refine List.Perm.append_left _ ?_
  rw [←List.append_assoc,←List.append_assoc]
  exact List.Perm.append_right _ List.perm_append_comm
theorem pn_put {ρ:Rho}{α:Type} (g:α→Nat):∀l:List α,(∀x∈l,(ρ (g x)).1≠0)→(l.flatMap fun x=>pn ρ (g x))=l.map fun x=>(ρ (g x)).1
 | [],_=>rfl
 | x::l,h=>by
  rw [List.flatMap_cons,List.map_cons,pn_put g l fun y hy=>h y (by simp [hy])]
  simp [pn,h x (by simp)]
theorem pn_long {ρ:Rho}:∀l:List Itm,(∀i∈l,(lng i=true→(ρ i.ad).1≠0)∧(lng i=false→(ρ i.ad).1=0))→(l.flatMap fun i=>pn ρ i.ad)=(l.filter lng).map fun i=>(ρ i.ad).1
 | [],_=>rfl
 | i::l,h=>by
  rw [List.flatMap_cons,List.filter_cons,pn_long l fun y hy=>h y (by simp [hy])]
  cases hl:lng i with
  | true=>simp [pn,(h i (by simp)).1 hl]
  | false=>simp [pn,(h i (by simp)).2 hl]
theorem toRead_perm (ρ:Rho):∀{k:Nat} (N:List (Tr k)),PutN ρ N→(N.flatMap (nms ρ)).Perm ((N.flatMap fun n=>pn ρ (adr n))++toRead ρ N):=by
 intro k
 induction k with
 | zero =>
  intro N h
  refine (split_perm (fun n:Tr 0=>n.2.flatMap fun i=>pn ρ i.ad) (fun n:Tr 0=>pn ρ n.1) N).trans (List.perm_append_comm.trans (List.Perm.of_eq ?_))
  rw [←List.flatMap_assoc,pn_long _ h]
  rfl
 | succ k ih =>
  intro N h
  refine (split_perm (fun n:Tr (k+1)=>n.2.flatMap (nms ρ (k:=k))) (fun n:Tr (k+1)=>pn ρ n.1) N).trans (List.perm_append_comm.trans ?_)
  refine List.Perm.append_left _ ?_
  rw [←List.flatMap_assoc]
  have h2:=ih (below N) h.2
  rw [pn_put (fun u:Tr k=>adr u) (below N) h.1] at h2
  exact h2
theorem toRead_one {ρ:Rho}{k:Nat}{t:Tr k} (h0:(ρ (adr t)).1≠0) (h:PutN ρ [t]):(nms ρ t).Perm ((ρ (adr t)).1::toRead ρ [t]):=by
 have h1:=toRead_perm ρ [t] h
 simpa [pn,h0] using h1
theorem putN_names {ρ:Rho}:∀{k:Nat} (N:List (Tr k)),PutN ρ N→∀n∈toRead ρ N,n≠0:=by
 intro k
 induction k with
 | zero =>
  intro N h n hn
  obtain ⟨i,hi,rfl⟩:=List.mem_map.1 hn
  obtain ⟨hi,hl⟩:=List.mem_filter.1 hi
  exact (h i hi).1 hl
 | succ k ih =>
  intro N h n hn
  rcases List.mem_append.1 hn with hm|hm
  ·obtain ⟨u,hu,rfl⟩:=List.mem_map.1 hm
   exact h.1 u hu
  ·exact ih (below N) h.2 n hm
end Go.Proofs.YtgpbhlfdlkemjaaGreat
namespace Go.Proofs.YtgpbhlfdlkemjaaGreat
open Go.RowKit
set_option linter.unusedVariables false
attribute [local go_sem] Oper.semAt_some
def StopsN (gf:Nat) (lb:Array Value) (zs:List Nat) (w:World) (n₀:Nat):Prop:=SeqStopsK Fence.wide 2 Tryz.prog gf lb (fun x:Nat=>#[Value.int .i64 (x:Int)]) (Below n₀) (fun ys=>ys=zs) (fun pre=>pre <+: zs) zs.length w
set_option maxRecDepth 100000 in
set_option maxHeartbeats 2000000 in
theorem appendSeq_of {gf:Nat}{lb:Array Value} (zs:List Nat) (hbig:zs.length≤100000) (w:World) (hent:∀args w,(callFunc gf args).run Tryz.prog w=.ok (.enter gf args) w) (hst0:StopsN gf lb zs (w.alloc (.cells #[.slice none 0 0] 41)) w.heap.size) :
  CallsIn Fence.wide 3 Tryz.prog 130 #[.slice none 0 0,.func (.func gf) #[] lb] w fun e w'=>∃v,e=.returned v∧OwnsI w' v zs∧Kept [] w w'∧Fresh w v:=by
 have kB:=kept_alloc w (.cells #[.slice none 0 0] 41)
 have b2:B1 (w.alloc (.cells #[.slice none 0 0] 41)) w.heap.size 41 (.slice none 0 0):=heap_alloc_new w _
 have hst:Col w w.heap.size [] (w.alloc (.cells #[.slice none 0 0] 41)):=⟨none,0,b2,OwnsI.nil _,by intro g hg;simp [Value.ownBlock] at hg,by simp [Value.ownBlock],kB⟩
 have hI:OwnFrom (w.alloc (.cells #[.slice none 0 0] 41)).heap.size (fun (pre:List Nat) W=>Col w w.heap.size pre W):=fun pre A B row h hg hr'=>h.own hg (fun r e=>⟨by have:=(hr' r e).1;simp at this;omega,(hr' r e).2⟩)
 refine callsIn_of_wp_marks Tryz.func130 rfl trivial ?_ rfl
 simp only [Tryz.ntmps130,List.size_toArray,List.length_cons,List.length_nil,Nat.reduceAdd,Nat.reduceSub,Array.replicate_succ,Array.replicate_zero,List.push_toArray,List.append_toArray,List.nil_append,List.cons_append]
 gi_wp2_with fail
 refine wpIn_rangeFunc_ownG rfl (by omega) (gf:=gf) (lb:=lb) rfl trivial hent hst0 belowK_t (belowK_b (by simp)) (Below.refl _ _) (fun _=>rfl)
  (fun (pre:List Nat) W=>Col w w.heap.size pre W) (fun _ _ _=>False) hI (fun _ _ _ _ _ h _ _=>h) hst ?a1 ?assign ?body ?done ?stop
 case assign =>
  intro l' x W K hK
  gi_wp2
  exact hK
 case body =>
  rintro l' pre x W ⟨ad,c,b2,hO,hF,hne,kk⟩ hlt
  obtain ⟨ad2,c2,w3,hrun,hO3,k3,hN3⟩:=append_int hO x (by omega)
  have hlen:(pre++[x]).length=pre.length+1:=by simp
  have b3:=b2.kept k3 (by rw [Option.mem_toList];exact hne)
  have kk3:Kept [] w w3:=kk.trans k3 (fun y hy=>.inr (hF y (by rw [Option.mem_toList] at hy;exact hy)))
  have hF3:Fresh w (.slice ad2 (pre.length+1) c2):=fun g hg=>by
   rcases hN3 g hg with h|h
   ·exact hF g h
   ·have:=kk.size;omega
  have hne3:(Value.slice ad2 (pre.length+1) c2).ownBlock≠some w.heap.size:=fun e=>by
   rcases hN3 _ e with h|h
   ·exact hne h
   ·have:=b2.lt;omega
  obtain ⟨b4,k4⟩:=b3.set (.slice ad2 (pre.length+1) c2)
  have kk4:Kept [] w (w3.setCell ⟨w.heap.size,0,none⟩ (.slice ad2 (pre.length+1) c2)):=kk3.trans k4 (fun y hy=>.inr (by simp at hy;omega))
  have hO4:=hO3.kept k4 (fun g hg=>by simp;rintro rfl;exact hne3 hg)
  have kW:Kept (w.heap.size::(Value.slice ad pre.length c).ownBlock.toList) W (w3.setCell ⟨w.heap.size,0,none⟩ (.slice ad2 (pre.length+1) c2)):=(k3.mono (fun y hy=>.inl (by simp [hy]))).trans k4 (fun y hy=>.inl (by simp at hy;simp [hy]))
  have hcells:∀y∈w.heap.size::(Value.slice ad pre.length c).ownBlock.toList,∃cs ty fr,W.heap[y]?=some (.cells cs ty fr):=fun y hy=>by
   rcases List.mem_cons.1 hy with rfl|hy
   ·exact ⟨_,_,_,b2⟩
   ·rw [Option.mem_toList] at hy
    rcases hO.2 with ⟨h,_⟩|⟨g',cap',cur,h,_,hg',_⟩
    ·injection h with h;subst h;simp [Value.ownBlock] at hy
    ·injection h with h
     subst h
     simp [Value.ownBlock] at hy
     subst hy
     exact ⟨_,_,_,hg'⟩
  have hfin:Hid (KeepsFrom (w.alloc (.cells #[.slice none 0 0] 41)).heap.size W (w3.setCell ⟨w.heap.size,0,none⟩ (.slice ad2 (pre.length+1) c2))∧Below w.heap.size W (w3.setCell ⟨w.heap.size,0,none⟩ (.slice ad2 (pre.length+1) c2))∧Col w w.heap.size (pre++[x]) (w3.setCell ⟨w.heap.size,0,none⟩ (.slice ad2 (pre.length+1) c2))):=by
   refine ⟨⟨kW.size,fun y o _ hy ho=>kW.keeps hy (fun hm=>?_)⟩,⟨kW.os,kW.tape,kW.output,kW.size,fun y hy=>?_⟩,ad2,c2,?_⟩
   ·obtain ⟨cs,ty,fr,hc⟩:=hcells y hm
    rw [hc] at hy
    cases hy
    cases ho
   ·refine kW.block y (Nat.lt_of_lt_of_le hy kk.size) (fun hm=>?_)
    rcases List.mem_cons.1 hm with rfl|hm
    ·omega
    ·rw [Option.mem_toList] at hm;have:=hF y hm;omega
   ·rw [hlen]
    exact ⟨b4,hO4,hF3,hne3,kk4⟩
  have c2':=b2.cell
  have c3':=b3.cell
  have f3':=b3.free
  clear b4 k4 kk4 hO4 kW hcells hO3 k3 hN3 b3 kk3 hF3 hne3 hO hF hne kk hlen
  generalize pre.length=L at hrun hfin c2' c3' b2 hlt
  gi_wp2_with (gi_at_builtin;refine wpListIn_append_run 41 (.tmp 8) (.tmp 10) rfl rfl _ _ rfl rfl _ _ hrun ?_)
  exact hfin.out
 case done =>
  rintro D ys W hDz rfl ⟨ad,c,b2,hO,hF,hne,kk⟩ hK
  have hgp:=grownBy_putObj' W D (.deferred none)
  have kp:Kept [D] W (W.putObj D (.deferred none)):=(Kept.refl _ _).grown hgp (fun x hx=>.inl (by simp at hx;simp [hx]))
  have hDv:∀g,(Value.slice ad ys.length c).ownBlock=some g→g∉[D]:=fun g hg hm=>by
   simp at hm
   subst hm
   rcases hO.2 with ⟨h,_⟩|⟨g',cap',cur,h,_,hg',_⟩
   ·injection h with h;subst h;simp [Value.ownBlock] at hg
   ·injection h with h
    subst h
    simp [Value.ownBlock] at hg
    subst hg
    rw [hK] at hg'
    cases hg'
  have Hf:=Hid.mk (And.intro (hO.kept kp hDv) (And.intro (kk.trans kp (fun x hx=>.inr (by simp at hx hDz;omega))) hF))
  have c2':=b2.cell
  gi_wp2
  refine ⟨by simp,.inl ⟨_,_,rfl,run_takeDeferred hK,?_⟩⟩
  exact ⟨_,results_tmp rfl _ _ _,.slice ad ys.length c,rfl,Hf.out⟩
 case stop=>exact fun D c pre W _ _ h _=>h.elim
section
variable {gf:Nat}{lb:Array Value} (zs:List Nat) (hbig:zs.length≤100000) (w:World) (hent:∀args w,(callFunc gf args).run Tryz.prog w=.ok (.enter gf args) w) (hst0:StopsN gf lb zs (w.alloc (.cells #[.slice none 0 0] 41)) w.heap.size)
include hbig hent hst0
set_option maxRecDepth 100000 in
set_option maxHeartbeats 1000000 in
theorem collect_of:Calls Tryz.prog 85 #[.func (.func gf) #[] lb] w fun e w'=>∃v,e=.returned v∧OwnsI w' v zs∧Kept [] w w'∧Fresh w v:=by
 have h:=(callsIn_wide (n:=3)).1 (appendSeq_of zs hbig w hent hst0)
 clear hst0
 go_enter Tryz.func85,Tryz.ntmps85
 go_wp2_with fail
 refine h.mono ?_
 rintro e w1 ⟨v,rfl,h1⟩
 go_wp2
 go_ret
 exact ⟨_,rfl,h1⟩
set_option maxRecDepth 100000 in
set_option maxHeartbeats 1000000 in
theorem sorted_of:Calls Tryz.prog 51 #[.func (.func gf) #[] lb] w fun e w'=>∃v,e=.returned v∧OwnsI w' v (srt zs)∧Kept [] w w'∧Fresh w v:=by
 have h:=collect_of zs hbig w hent hst0
 clear hst0
 go_enter Tryz.func51,Tryz.ntmps51
 go_wp2_with fail
 refine h.mono ?_
 rintro e w1 ⟨v,rfl,h1,k1,f1⟩
 have hs:=sort_int h1 hbig
 go_wp2_with fail
 refine hs.mono ?_
 rintro e w2 ⟨rfl,h2,k2⟩
 have hf:=Hid.mk (And.intro h2 (And.intro (k1.trans k2 (fun x hx=>.inr (f1 x (by rw [Option.mem_toList] at hx;exact hx)))) f1))
 go_wp2
 go_ret
 exact ⟨_,rfl,hf.out⟩
end
end Go.Proofs.YtgpbhlfdlkemjaaGreat
