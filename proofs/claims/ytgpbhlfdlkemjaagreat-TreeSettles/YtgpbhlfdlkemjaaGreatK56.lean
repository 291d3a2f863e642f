import Derived.Test.YtgpbhlfdlkemjaaGreatK54
import Derived.Test.YtgpbhlfdlkemjaaGreatK55
/-
 TreeSettles, whole.
-/
namespace Go.Proofs.YtgpbhlfdlkemjaaGreat
open Go.RowKit
set_option linter.unusedVariables false
structure StI (G:Prop) (w0:World) (C S:Nat→Nat) (p q tb db j:Nat) (w:World) (vT:Value) (T:List KV) (ρ:Rho) (t:AT) (old:List Nat) (s:St) (L:List Ent) (fl:List Nat):Prop where
 tre:Tre w0 w tb p q (TV db vT T) ρ t old s 7 2900 L fl
 ni:NI ρ t old L
 its:(itsT t).map kv=T
 tab:IsTab w db vT T
 ok:TOk T (C j) (S j)
 ge:w0.heap.size≤db
 olds:old.length≤1060
 ws:s.ws.length≤1460 * j
 down:s.down=false
 fuse:s.fuse<0
 few:G
def StH (G:Prop) (w0:World) (C S:Nat→Nat) (p q tb db j:Nat) (w:World):Prop:=∃ vT T ρ t s L fl,StI G w0 C S p q tb db j w vT T ρ t [] s L fl
section
variable {G:Prop} {w0 w:World} {C S:Nat→Nat} {p tb db j q:Nat} {V:Nat→Prop} {vT:Value} {T:List KV} {ρ:Rho} {t:AT} {old:List Nat} {s:St} {fr ct:Nat} {L:List Ent} {fl:List Nat}
theorem tre_pnames (h:Tre w0 w tb p q V ρ t old s fr ct L fl):Calls Tryz.prog 27 #[Pp p] w fun e w'=>∃ v ns,e=.returned v∧OwnsI w' v ns∧Rises ns (L.map (·.1))∧Kept [] w w'∧Fresh w v:=by
 obtain ⟨T,vo,h⟩:=h
 exact psy_names h.sy
theorem rootN_lt (h:Tre w0 w tb p q V ρ t [] s fr ct L fl) (hI:NI ρ t [] L):rootN ρ t<1000000:=by
 obtain ⟨T,vo,h⟩:=h
 cases t with
 | none=>exact Nat.zero_lt_succ _
 | some n =>
  obtain ⟨h0,bs,h1,h2⟩:=(hI.laid n rfl).own
  have:=(there_of h.sy.ok h.ok h1 h2).2.2.2.1
  show (ρ (adr n.2)).1<1000000
  omega
theorem StI.settle (h:StI G w0 C S p q tb db j w vT T ρ t old s L fl) (hC:C j≤500) (hS:S j≤60000):StlS p q tb db (StH G w0 C S p q tb db j) w:=by
 have hll:(itsT t).length≤500:=by
  have:=h.ok.len
  rw [← h.its,List.length_map] at this
  exact Nat.le_trans this hC
 refine (tre_settle2 h.tre h.ni (by have:=h.olds; omega)).mono ?_
 rintro e w1 ⟨rfl,L1,fl1,h1,k1,n1⟩
 have hD1:=h.tab.kp k1 (fun x hx=>hx)
 have hL1:L1.length≤1000:=by
  obtain ⟨T1,vo1,g1⟩:=h1
  exact Nat.le_trans (n1.few g1.tree hll h.its h.ok hS) (by omega)
 refine ⟨rfl,(tre_root h1).mono ?_⟩
 rintro e w2 ⟨rfl,rfl⟩
 refine ⟨rootN ρ t,rootN_lt h1 n1,rfl,(tre_names h1 n1 hll hL1 h.down).mono ?_⟩
 rintro e w3 ⟨v,ns,rfl,ho,hri,k3,hf⟩
 obtain ⟨a,c,rfl,_,_⟩:=ho.form
 refine ⟨a,ns.length,c,rfl,(tre_pnames (h1.kept k3)).mono ?_⟩
 rintro e w4 ⟨v4,ns4,rfl,ho4,hri4,k4,hf4⟩
 have e4:=rises_one hri hri4 (List.Perm.refl _)
 subst e4
 have hns:ns.length≤1000:=by
  rw [hri.1.length_eq,List.length_map]
  exact hL1
 have ho3:=ho.kept k4 (by simp)
 refine ⟨v4,rfl,(sameInts_any ho3.reads ho4.reads (by omega)).mono ?_⟩
 rintro e w5 ⟨rfl,k5⟩
 have k15:=(k3.trans k4 (by simp)).trans k5 (by simp)
 have h5:=h1.kept k15
 have hD5:=hD1.keptV k15 (by simp)
 have ho5:=ho3.kept k5 (by simp)
 refine ⟨rfl,(tre_root h5).mono ?_⟩
 rintro e w6 ⟨rfl,rfl⟩
 have HO:StlO q tb db (rootN ρ t) a ns.length c (StH G w0 C S p q tb db j) w5:=by
  refine (open_names h5 h.down hL1 ho5.reads hri).mono ?_
  rintro e w7 ⟨p2,L2,fl2,rfl,hp,hS2,k7⟩
  refine ⟨p2,rfl,(tre_root (h5.kept k7)).mono ?_⟩
  rintro e w8 ⟨rfl,rfl⟩
  refine ⟨rfl,(open_tree h5 n1 hll hp k7 hS2 h.down).mono ?_⟩
  rintro e w9 ⟨tb2,ρ2,t2,rfl,hT2,k9,hkv⟩
  have k79:=k7.trans k9 (by simp)
  refine ⟨tb2,rfl,(same_any hT2 (hkv.trans h.its) (hD5.keptV k79 (by simp)) (by have:=h.ok.len; omega) (fun x hx=>(h.ok.each x hx).2)).mono ?_⟩
  rintro e w10 ⟨rfl,k10⟩
  have kk:=k79.trans k10 (by simp)
  exact ⟨rfl,vT,T,ρ,t,s,L1,fl1,h5.kept kk,n1,h.its,hD5.keptV kk (by simp),h.ok,h.ge,by simp,h.ws,h.down,h.fuse,h.few⟩
 refine ⟨rfl,?_⟩
 by_cases ht:t=none
 ·subst ht
  have hTn:T=[]:=by rw [← h.its]; rfl
  subst hTn
  have e1:L1=[]:=n1.none
  subst e1
  obtain ⟨aw,cw,e2,_,_⟩:=hD5.form
  refine .inl ⟨rfl,hri.1.length_eq,aw,cw,?_,HO⟩
  have:=hD5.box
  rw [e2] at this
  simp [World.cell?,this]
 ·exact .inr ⟨h5.rootPos ht,HO⟩
theorem stl_step (h:StI G w0 C S p q tb db j w vT T ρ t [] s L fl) {l:Lq} (hr:RowQ w0 l.sl l.rs) (hv:ValsQ w0 l.rs) {ad:Addr} (had:∀ W,Kept [] w0 W→W.cell? ad=some l.sl) (hj:j<40) (hC1:C (j+1)=C j+l.rs.length) (hS1:S (j+1)=S j+wgL l) (hC:C (j+1)≤500) (hS:S (j+1)≤60000):StlA p q tb db ad l.sl (StH G w0 C S p q tb db (j+1)) w:=by
 have hw:=h.ws
 have hok:=h.ok
 have hlen:(itsT t).length≤C j:=by
  have:=hok.len
  rw [← h.its,List.length_map] at this
  exact this
 have hnew:WrongIs (l.rs.map Cq.c) 0→TOk (tapp T (l.rs.map Cq.c)) (C (j+1)) (S (j+1)):=fun hw0=>by
  have hvs:=hw0.vals
  unfold wgL at hS1
  exact (hok.app hw0).more (by rw [List.length_map]; omega) (by omega)
 have hlater:∀ w',Kept [] w w'→StlS p q tb db (StH G w0 C S p q tb db (j+1)) w':=fun w' k =>
  StI.settle (j:=j+1) ⟨h.tre.kept k,h.ni,h.its,h.tab.keptV k (by simp),hok.more (by omega) (by omega),h.ge,by simp,by omega,h.down,h.fuse,h.few⟩ hC hS
 refine (apply_all2 h.tre h.ni (hr.kept h.tre.k (by simp)) (hv.kept h.tre.k (by simp)) (by omega) (by omega) (fun hw0 is his=>?_) (by simp) (by omega) h.down).mono ?_
 ·rw [cst_kv,his,h.its]
  refine ⟨?_,(hnew hw0).cost (by omega)⟩
  have:=(hnew hw0).len
  rw [← List.length_map (f:=kv),his,h.its]
  omega
 rintro e w1 ⟨er,rfl,hap⟩
 refine ⟨er,rfl,?_⟩
 rcases hap with ⟨h0,hw0,k1⟩|⟨hw0,⟨rfl,ρ1,t1,old1,s1,L1,fl1,h1,k1,hkv,_,ho1,hs1,hd1,hf1,n1,_⟩|⟨rfl,_,k1⟩|⟨_,hf⟩⟩
 ·refine .inr ⟨?_,hlater _ k1⟩
  rcases hw0.lit h0 with h|h
  ·exact .inl h
  ·exact .inr (.inl h)
 ·refine .inl ⟨rfl,had w1 h1.k,?_⟩
  have hD1:=h.tab.kp k1 (fun x hx=>hx)
  have HK:∀ W,Kept [db] w1 W→Kept [] w0 W:=fun W kW=>h1.k.trans kW (fun x hx=>.inr (by simp at hx; rw [hx]; exact h.ge))
  refine (tabApply_any hD1 hok.up (Hid.mk rfl) (Hid.mk fun W kW=>hr.kept (HK W kW) (by simp)) (Hid.mk fun W kW=>hv.kept (HK W kW) (by simp)) (Hid.mk (by have:=hok.len; omega)) (by omega)).mono ?_
  rintro e w3 ⟨rfl,v3,hD3,k3,hN3⟩
  have h3:=h1.turn (V':=TV db v3 (tapp T (l.rs.map Cq.c))) k3 (fun x hx=>by simp at hx; rw [hx]; exact .inl rfl) (fun x hx=>by
   rcases hN3 with ⟨hz,rfl⟩|hf3
   ·have:l.rs=[]:=List.eq_nil_of_length_eq_zero hz
    rw [this] at hx
    exact .inl hx
   ·rcases hx with rfl|⟨_,hx⟩
    ·exact .inl (.inl rfl)
    ·exact .inr (hf3 x hx)) (fun x hx=>TV.lt hD3 hx)
  refine ⟨rfl,StI.settle (j:=j+1) (vT:=v3) (T:=tapp T (l.rs.map Cq.c)) (ρ:=ρ1) (t:=t1) (old:=old1) (s:=s1) (L:=L1) (fl:=fl1) ⟨h3,n1,by rw [hkv,h.its],hD3,hnew hw0,h.ge,by simpa using ho1,by omega,hd1,by rw [hf1 h.fuse]; exact h.fuse,h.few⟩ hC hS⟩
 ·exact .inr ⟨.inr (.inr rfl),hlater _ k1⟩
 ·have:=h.fuse
  omega
end
set_option maxRecDepth 100000 in
theorem settles_all (w:World) {a0:Option Addr} {c0:Nat} {ls:List Lq} (hr:RowL w (.slice a0 ls.length c0) ls) (hl:ls.length≤140737488355328) (hvi:∀ l∈ls,ValsQ w l.rs∧InQ l.rs) :
  Calls Tryz.prog 4 #[.slice a0 ls.length c0] w fun e w'=>e=.returned (.bool true)∧Kept [] w w':=by
 obtain ⟨C,hC⟩:∃ C:Nat→Nat,∀ j,C j=((ls.take j).map fun l=>l.rs.length).sum:=⟨_,fun _=>rfl⟩
 obtain ⟨S,hS⟩:∃ S:Nat→Nat,∀ j,S j=((ls.take j).map wgL).sum:=⟨_,fun _=>rfl⟩
 have hCs:∀ j l,ls[j]?=some l→C (j+1)=C j+l.rs.length:=fun j l h=>by rw [hC,hC,tsum_succ (fun l:Lq=>l.rs.length) ls j l h]
 have hSs:∀ j l,ls[j]?=some l→S (j+1)=S j+wgL l:=fun j l h=>by rw [hS,hS,tsum_succ wgL ls j l h]
 refine settles_walk (R:=Kept [] w) (I:=StH (FewOk ls) w C S) hl ((awake_any w).mono ?_) (Hid.mk fun p q tb db j wr hI=>?_)
 ·rintro e w1 ⟨rfl,k1⟩
  refine ⟨rfl,(few_any (Hid.mk rfl) hl (hr.kept k1 (by simp) (by simp)) (Hid.mk fun l hl=>(hvi l hl).2)).mono ?_⟩
  rintro e w2 ⟨b,rfl,k2,hfew⟩
  refine ⟨b,rfl,?_⟩
  have kk2:=k1.trans k2 (by simp)
  cases b with
  | false =>
   refine .inl ⟨rfl,(awake_any w2).mono ?_⟩
   rintro e w3 ⟨rfl,k3⟩
   exact ⟨rfl,kk2.trans k3 (by simp)⟩
  | true =>
   refine .inr ⟨rfl,?_⟩
   unfold StlF
   have e1:((2900:Nat):Int)=2900:=by omega
   have e2:((3000:Nat):Int)=3000:=by omega
   have e3:((7:Nat):Int)=7:=by omega
   have hnew:=psy_new (w0:=w) kk2 3000 7 2900 (by omega) (by omega) (by omega)
   rw [e1,e2,e3] at hnew
   refine hnew.mono ?_
   rintro e w3 ⟨q,rfl,k3,h11⟩
   refine ⟨q,rfl,(h11 w3 (Kept.refl [] w3)).mono ?_⟩
   rintro e w4 ⟨p,fl,rfl,hfl,hsy,k4⟩
   refine ⟨p,rfl,(open_new hsy (by omega) (fun b hb=>hb.elim) (fun b hb=>hb.elim)).mono ?_⟩
   rintro e w5 ⟨tb,rfl,htb,hT,k5⟩
   refine ⟨tb,rfl,?_⟩
   obtain ⟨W5,hW5⟩:∃ W5,w5.alloc (.cells #[.slice none 0 0] 38)=W5:=⟨_,rfl⟩
   have kW5:Kept [] w5 W5:=by rw [← hW5]; exact (Kept.refl [] w5).alloc _
   have hb5:W5.heap[w5.heap.size]?=some (.cells #[.slice none 0 0] 38 (0,0)):=by rw [← hW5]; exact heap_alloc_new w5 _
   rw [hW5]
   have hD5:IsTab W5 w5.heap.size (.slice none 0 0) []:=⟨hb5,ReadsR.nil 2 W5,by simp [Value.ownBlock]⟩
   have hT5:=hT.turn (V':=TV w5.heap.size (.slice none 0 0) []) kW5 (by simp) (fun x hx=>by
    rcases hx with rfl|⟨hx,_⟩
    ·exact .inr (Nat.le_refl _)
    ·exact absurd rfl hx) (fun x hx=>TV.lt hD5 hx)
   exact ⟨_,[],_,none,_,[],fl,hT5,⟨by simp [nmsT],fun n e=>(by cases e),fun b hb=>absurd rfl hb⟩,rfl,hD5,TOk.nil _ _,hT.k.size,by simp,by simp,rfl,by simp,hfew rfl⟩
 ·obtain ⟨vT,T,ρ,t,s,L,fl,h⟩:=hI
  obtain ⟨f1,f2,f3⟩:=h.few
  have top:∀ k,C k≤500∧S k≤60000:=fun k=>by
   rw [hC,hS]
   exact ⟨Nat.le_trans (tsum_le _ ls k) f2,Nat.le_trans (tsum_le _ ls k) f3⟩
  refine ⟨fun hlt=>?_,fun he=>h.tre.k⟩
  obtain ⟨l,hl⟩:∃ l,ls[j]?=some l:=⟨_,List.getElem?_eq_getElem hlt⟩
  have hm:=List.mem_of_getElem? hl
  obtain ⟨b,o,rfl,_⟩:=hr.at hl
  have had:∀ W,Kept [] w W→W.cell? ⟨b,o+j,none⟩=some l.sl:=fun W kW=>by
   obtain ⟨b',o',e',g0⟩:=(hr.kept kW (by simp) (by simp)).at hl
   injection e' with e'
   injection e' with e1 e2 _
   subst e1 e2
   exact g0
  refine ⟨by omega,b,o,l.sl,rfl,had wr h.tre.k,?_⟩
  exact stl_step h (hr.each l hm) (hvi l hm).1 had (by omega) (hCs j l hl) (hSs j l hl) (top (j+1)).1 (top (j+1)).2
end Go.Proofs.YtgpbhlfdlkemjaaGreat
