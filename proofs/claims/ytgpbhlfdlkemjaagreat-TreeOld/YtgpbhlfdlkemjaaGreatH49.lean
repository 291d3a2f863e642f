import Derived.Test.YtgpbhlfdlkemjaaGreatH36
import Derived.Test.YtgpbhlfdlkemjaaGreatH37
import Derived.Test.YtgpbhlfdlkemjaaGreatH48
/-
 The names' invariant: what stands ahead of lay, and behind it.
-/
namespace Go.Proofs.YtgpbhlfdlkemjaaGreat
open Go.RowKit
set_option linter.unusedVariables false
structure NI (ρ:Rho) (t:AT) (old:List Nat) (L:List Ent):Prop where
 names:(L.map (·.1)).Perm (nmsT ρ t++old)
 laid:∀n,t=some n→LaidT L ρ 2 n.2
 sup:∀b,(ρ b).1≠0→∃n,t=some n∧b∈pbl n.2
theorem Kids.agree {ρ ρ2:Rho}:{k:Nat}→{n:Tr k}→(∀b∈blks n,ρ2 b=ρ b)→Kids ρ n→Kids ρ2 n
 | 0,n,h,hk=>fun i hi hl=>by rw [h i.ad (List.mem_cons_of_mem _ (List.mem_map.2 ⟨i,hi,rfl⟩))];exact hk i hi hl
 | k+1,n,h,hk=>fun u hu=>by rw [h (adr u) (List.mem_cons_of_mem _ (List.mem_flatMap.2 ⟨u,hu,blks_self u⟩))];exact hk u hu
def kapOf (L:List Ent) (ρ:Rho) (a:Nat):Kap:=⟨fun b=>if b=a then 2 else 3,fun x=>x∈L.map (·.1),fun b=>(ρ b).1≠0⟩
theorem inner_of {w:World}{F:Nat→Prop}{ρ:Rho}{L:List Ent}{r:Rho}{a:Nat}:{k:Nat}→{n:Tr k}→IsN w F ρ n→(∀b∈blks n,b≠adr n→b≠a)→(∀u:Nat,True)→Inner (kapOf L r a) n
 | 0,_,_,_,_=>trivial
 | k+1,n,h,hb,t=>fun u hu=>by
  have h1:∀b∈blks u,b≠a:=fun b hm=>hb b (List.mem_cons_of_mem _ (List.mem_flatMap.2 ⟨u,hu,hm⟩)) (fun e=>blks_below h hu (by have e':b=n.1:=e;rw [←e'];exact hm))
  refine ⟨?_,inner_of (h.2 u hu) (fun b hm _=>h1 b hm) t⟩
  show (if adr u=a then (2:UInt8) else 3)=3
  rw [if_neg (h1 _ (blks_self u))]
section
variable {w w':World}{T:Nat→Prop}{ρ ρ':Rho}{L E:List Ent}{old:List Nat}
theorem NI.start {t:AT} (hI:NI ρ t old L) (hnd:(L.map (·.1)).Nodup) (hT:IsT w T ρ t) {k:Nat}{n:Tr k} (hN:IsN w T ρ n) (hw:Wf n) (h0:(ρ (adr n)).1=0) (hroot:∀m,t=some m→adr m.2∉blks n):GI w T (kapOf L ρ (adr n)) (cutR (blks n) ρ) L:=by
 have hcut:∀{b},(cutR (blks n) ρ b).1≠0→b∈blks n∧(ρ b).1≠0∧cutR (blks n) ρ b=ρ b:=fun {b} hb=>by
  by_cases hm:b∈blks n
  ·rw [cutR_in hm] at hb ⊢
   exact ⟨hm,hb,rfl⟩
  ·rw [cutR_out hm] at hb
   exact absurd rfl hb
 refine ⟨fun b hb=>?_,fun a b ha e=>?_,fun e he=>.inl (List.mem_map.2 ⟨e,he,rfl⟩),fun b hb=>.inl (hcut hb).2.1,fun x hx=>hx⟩
 ·obtain ⟨hm,hp,hc⟩:=hcut hb
  obtain ⟨m0,e0,hb0⟩:=hI.sup b hp
  subst e0
  have hne:b≠adr m0.2:=fun e=>hroot m0 rfl (e▸hm)
  have hna:b≠adr n:=fun e=>hp (e▸h0)
  rw [hc]
  rcases (hI.laid m0 rfl).find hT.1 hb0 with ⟨i,hi,a1,a2,a3,bs,a4,a5⟩|⟨j,m,kd',a1,a2,a3,a4,bs,a5,a6⟩
  ·refine ⟨bs,_,a4,a5,.inl ⟨i,?_,a2,a3,rfl⟩⟩
   unfold IsI
   rw [a2,hc,←a2]
   exact a1
  ·have hk:kd'=3:=by
    rcases a4 with h|h
    ·exact absurd h.1 hne
    ·exact h
   subst hk
   have hag:∀x∈blks m,cutR (blks n) ρ x=ρ x:=by
    rcases blks_sub hN hw hm with ⟨i,hi,b1,b2⟩|⟨j',m',b1,b2,b3,b4,b5⟩
    ·exact absurd (a2.trans b2.symm) (a1.noItem b1)
    ·have e:=a1.lev b1 (a2.trans b3.symm)
     subst e
     have:=a1.det b1 (a2.trans b3.symm)
     subst this
     exact fun x hx=>cutR_in (b4 x hx)
   refine ⟨bs,_,a5,a6,.inr ⟨j,m,(rho_agree hag).1 a1,a2,a3.agree hag,?_⟩⟩
   have:(kapOf L ρ (adr n)).kd b=3:=by
    show (if b=adr n then (2:UInt8) else 3)=3
    rw [if_neg hna]
   rw [this,encNode_agree 3 hag]
 ·obtain ⟨ha1,ha2,ha3⟩:=hcut ha
  obtain ⟨hb1,hb2,hb3⟩:=hcut (b:=b) (by rw [←e];exact ha)
  rw [ha3,hb3] at e
  obtain ⟨m0,e0,ha0⟩:=hI.sup a ha2
  obtain ⟨m1,e1,hb0⟩:=hI.sup b hb2
  rw [e0] at e1
  injection e1 with e1
  subst e1
  have hnn:(nms ρ m0.2).Nodup:=by
   have:=(hI.names.nodup_iff).1 hnd
   rw [List.nodup_append] at this
   rw [e0] at this
   exact this.1
  exact nms_inj hnn (pbl_blks a ha0) (pbl_blks b hb0) ha2 e
theorem NI.behind {t:AT} (hI:NI ρ t old L) {k:Nat}{n:Tr k}{dl:List Nat} (hperm:(nmsT ρ t).Perm (nms ρ n++dl)) (hG:GI w' T (kapOf L ρ (adr n)) ρ' (L++E)) (hnd:((L++E).map (·.1)).Nodup) (hx:Ext (cutR (blks n) ρ) ρ') (ho:∀b,¬b∈blks n→ρ' b=cutR (blks n) ρ b) (hN:IsN w' T ρ' n) (hw:Wf n) (hup:Up (its n)) (hp:(ρ' (adr n)).1≠0):NI ρ' (some ⟨k,n⟩) (old++dl) (L++E):=by
 have hnd2:=hnd
 rw [List.map_append,List.nodup_append] at hnd2
 obtain ⟨nL,nE,nLE⟩:=hnd2
 have hold:=(hI.names.nodup_iff).1 nL
 rw [List.nodup_append] at hold
 have hpn:=(hperm.nodup_iff).1 hold.1
 rw [List.nodup_append] at hpn
 have hin:∀b,(ρ' b).1≠0→b∈blks n:=fun b hb=>by
  by_cases hm:b∈blks n
  ·exact hm
  ·rw [ho b hm,cutR_out hm] at hb
   exact absurd rfl hb
 have hsame:∀b∈blks n,(ρ b).1≠0→ρ' b=ρ b:=fun b hm hb=>by
  have:=hx b (by rw [cutR_in hm];exact hb)
  rw [cutR_in hm] at this
  exact this
 have hsub:∀x∈nms ρ n,x∈L.map (·.1):=fun x hm=>hI.names.mem_iff.2 (List.mem_append_left _ (hperm.mem_iff.2 (List.mem_append_left _ hm)))
 have hP:(nms ρ' n).Perm (nms ρ n++E.map (·.1)):=by
  refine (List.perm_ext_iff_of_nodup ?_ ?_).2 fun x=>?_
  ·refine ((nms_blks ρ' n).nodup_iff).2 (nodup_flat (blks_nodup hN hw hup) (fun a _=>pn_nodup ρ' a) fun a _ b _ x h1 h2=>?_)
   obtain ⟨h1,h3⟩:=mem_pn.1 h1
   obtain ⟨h2,h4⟩:=mem_pn.1 h2
   exact hG.inj a b h1 (by rw [←h3,h4])
  ·rw [List.nodup_append]
   exact ⟨hpn.1,nE,fun a ha b hb=>nLE a (hsub a ha) b hb⟩
  ·rw [List.mem_append,mem_nms,mem_nms]
   constructor
   ·rintro ⟨b,hb,h1,rfl⟩
    by_cases hb0:(ρ b).1=0
    ·right
     have hm:=hG.name h1
     rw [List.map_append] at hm
     rcases List.mem_append.1 hm with hm|hm
     ·rcases hG.fresh b h1 with h2|h2
      ·exact absurd hb0 h2
      ·exact absurd hm h2
     ·exact hm
    ·left
     rw [hsame b hb hb0]
     exact ⟨b,hb,hb0,rfl⟩
   ·rintro (⟨b,hb,h1,rfl⟩|hm)
    ·refine ⟨b,hb,?_,?_⟩
     ·rw [hsame b hb h1];exact h1
     ·rw [hsame b hb h1]
    ·obtain ⟨e,he,rfl⟩:=List.mem_map.1 hm
     rcases hG.back e (List.mem_append_right _ he) with h1|⟨b,h1,h2⟩
     ·exact absurd rfl (nLE e.1 h1 e.1 hm)
     ·exact ⟨b,hin b h1,h1,h2.symm⟩
 refine ⟨?_,fun m e=>?_,fun b hb=>⟨_,rfl,hG.sup hN hw (hin b hb) hb⟩⟩
 ·rw [List.map_append]
  refine ((hI.names.trans (hperm.append_right old)).append_right _).trans ?_
  have h1:((nms ρ n++dl)++old++E.map (·.1)).Perm ((nms ρ n++E.map (·.1))++(old++dl)):=by
   rw [List.append_assoc,List.append_assoc,List.append_assoc]
   refine List.Perm.append_left _ ?_
   have h2:(dl++(old++E.map (·.1))).Perm ((old++E.map (·.1))++dl):=List.perm_append_comm
   refine h2.trans ?_
   refine (List.Perm.append_right dl (List.perm_append_comm (l₁:=old) (l₂:=E.map (·.1)))).trans ?_
   rw [List.append_assoc]
  refine h1.trans (List.Perm.append_right _ ?_)
  exact hP.symm
 ·injection e with e
  subst e
  exact hG.laidT hN hp (by show (if adr n=adr n then (2:UInt8) else 3)=2;rw [if_pos rfl]) (inner_of hN (fun b _ h=>h) (fun _=>trivial))
theorem NI.gone {t:AT} (hI:NI ρ t old L) {dl:List Nat} (hperm:(nmsT ρ t).Perm dl):NI (fun _=>(0,0)) none (old++dl) L :=
 ⟨hI.names.trans ((hperm.append_right old).trans List.perm_append_comm),fun n e=>(by cases e),fun b hb=>absurd rfl hb⟩
theorem bl_agree {ρ ρ2:Rho}:{k:Nat}→{n:Tr k}→(∀b∈blks n,ρ2 b=ρ b)→bl ρ2 n=bl ρ n
 | 0,n,h=>by
  have h0:ρ2 n.1=ρ n.1:=h n.1 List.mem_cons_self
  have e:n.2.map (ib ρ2)=n.2.map (ib ρ):=List.map_congr_left fun i hi=>by unfold ib;rw [h i.ad (List.mem_cons_of_mem _ (List.mem_map.2 ⟨i,hi,rfl⟩))]
  simp only [bl,h0,e]
 | k+1,n,h=>by
  have h0:ρ2 n.1=ρ n.1:=h n.1 List.mem_cons_self
  have e:n.2.map (bl (k:=k) ρ2)=n.2.map (bl (k:=k) ρ):=List.map_congr_left fun u hu=>bl_agree fun b hb=>h b (List.mem_cons_of_mem _ (List.mem_flatMap.2 ⟨u,hu,hb⟩))
  simp only [bl,h0,e]
end
def TreePost2 (F:Nat→Prop) (ρ:Rho) (w:World) (ub:Nat) (vl:Value) (left:List Nat) (t:AT) (cs:List Chg) (e:Ending) (w':World):Prop :=
 ∃(vl':Value) (dl:List Nat) (t':AT),e=.returned (ptrT t')∧IsT w' (Fw F w [vl']) ρ t'∧itsT t'=mrg (itsT t) cs∧(nmsT ρ t).Perm (nmsT ρ t'++dl)∧IsU w' ub vl' (left++dl)∧Kept (uf ub vl) w w'∧New w vl vl'∧(∀n,t'=some n→w.heap.size≤adr n.2) ∧
  ((nmsT ρ t).Nodup→(∀m,t=some m→(ρ (adr m.2)).1≠0)→∀n,t'=some n→∀m,t=some m→adr m.2∉blks n.2)
section
variable {w:World}{F:Nat→Prop}{ρ:Rho}
theorem tree_any2 (hB:Blank ρ w) {ub:Nat}{vl:Value}{left:List Nat} (hU:IsU w ub vl left) (hFu:∀x∈uf ub vl,¬F x) (t:AT) (hT:IsT w F ρ t) (hk:∀n,t=some n→n.1≤1000) (hUp:Up (itsT t)) (hSz:Sized (itsT t)) (cs:List Chg) (hne:cs≠[]) (a:Option Addr) (m c:Nat) (hm:m=cs.length) (hC:HoldsC w (.slice a m c) cs) (hFc:∀g,(Value.slice a m c).ownBlock=some g→g∉uf ub vl) (hcs:ChsOk w F ρ cs) (hlen:(itsT t).length+m≤50000) (hll:left.length+(nmsT ρ t).length≤90000) :
  Calls Tryz.prog 48 #[Pp ub,ptrT t,.slice a m c] w fun e w'=>TreePost2 F ρ w ub vl left t cs e w':=by
 cases t with
 | none =>
  refine (tree_any hB hU hFu none hT hk hUp hSz cs hne a m c hm hC hFc hcs hlen hll).mono ?_
  rintro e w' ⟨vl',dl,t',h1,h2,h3,h4,h5,h6,h7,h8⟩
  exact ⟨vl',dl,t',h1,h2,h3,h4,h5,h6,h7,h8,fun _ _ _ _ _ e=>by cases e⟩
 | some n =>
  refine (tree_top hB hU hFu n hT (hk n rfl) hUp hSz cs hne a m c hm hC hFc hcs hlen hll).mono ?_
  rintro e w' ⟨vl',dl,t',h1,h2,h3,h4,h5,h6,h7,h8⟩
  refine ⟨vl',pn ρ (adr n.2)++dl,t',h1,h2,h3,?_,by rw [←List.append_assoc];exact h5,h6,h7,h8,fun hnd hp n' en m em hmem=>?_⟩
  ·show (nms ρ n.2).Perm _
   rw [nms_kid]
   refine (h4.append_right _).trans ?_
   rw [List.append_assoc]
   exact List.Perm.append_left _ List.perm_append_comm
  ·injection em with em
   subst em
   subst en
   have hx:(ρ (adr n.2)).1∈nms ρ n'.2:=mem_nms.2 ⟨_,hmem,hp n rfl,rfl⟩
   have hx2:(ρ (adr n.2)).1∈kidN ρ n.2:=h4.mem_iff.2 (List.mem_append_left _ hx)
   have hnd:(nms ρ n.2).Nodup:=hnd
   rw [nms_kid,List.nodup_append] at hnd
   exact hnd.2.2 _ hx2 _ (mem_pn.2 ⟨hp n rfl,rfl⟩) rfl
end
def Applied2 (w0 w:World) (tb p q:Nat) (V:Nat→Prop) (ρ:Rho) (t:AT) (old:List Nat) (s:St) (fr ct:Nat) (L:List Ent) (fl:List Nat) (list:List Cg) (er:Int) (w':World):Prop :=
 (er≠0∧WrongIs list er∧Kept [] w w') ∨
 (WrongIs list 0 ∧
  ((er=0∧∃ρ' t' old' s' L' fl',Tre w0 w' tb p q V ρ' t' old' s' fr ct L' fl'∧KP V w w'∧(itsT t').map kv=tapp ((itsT t).map kv) list∧(itsT t').length≤(itsT t).length+list.length∧old'.length≤old.length+1060∧s'.ws.length≤s.ws.length+1460∧s'.down=false∧(s.fuse<0→s'.fuse=s.fuse)∧NI ρ' t' old' L'∧∃(E:List Ent) (vs:List Wr),L'=L++E∧s'.ws=s.ws++vs∧(∀x∈vs,x.1∈fl)∧s'.nb=s.nb) ∨
    (er=6∧(∃(w2:World) (F2:Nat→Prop) (ρ2:Rho) (t2:AT),IsT w2 F2 ρ2 t2∧(itsT t2).map kv=tapp ((itsT t).map kv) list∧fl.length<blT ρ2 t2)∧Kept [] w w') ∨
    (er=9∧0≤s.fuse)))
section
variable {w0 w:World}{tb p q:Nat}{V:Nat→Prop}{ρ:Rho}{t:AT}{old:List Nat}{s:St}{fr ct:Nat}{L:List Ent}{fl:List Nat}
theorem apply_tree2 {T:Nat→Prop}{vo:Value} (h:IsTree w0 w tb p q T V ρ t vo old s fr ct L fl) (hNI:NI ρ t old L) {w3 w4:World} (kw3:Kept [] w w3) {l:List Cq}{v4:Value}{cs:List Chg} (hA:ChAt ρ w3 (itsT t) l l.length w4 v4 cs) {a4:Option Addr}{c4:Nat} (e4:v4=.slice a4 cs.length c4) (hup:ChUp cs) (hok:ChOk cs) {list:List Cg} (hw:WrongIs list 0) (hcs:∀c∈cs,∀i,c.2=some i→1≤i.key.length∧i.key.length≤64∧i.val.length≤20000) (hmr:(mrg (itsT t) cs).map kv=tapp ((itsT t).map kv) list) (hn:(itsT t).length≤500) (hn2:cs.length≤2000) (hn3:(mrg (itsT t) cs).length≤500) (hnl:cs.length≤list.length) (hcost:((mrg (itsT t) cs).map cst).sum≤900) (hold:old.length≤90000) (hws:s.ws.length≤88000) (hd:s.down=false) (hne:cs≠[]) :
  (w4.alloc (.cells #[.slice none 0 0] 89)).cell? ⟨tb,1,none⟩=some (ptrT t) ∧
   Calls Tryz.prog 48 #[Pp w4.heap.size,ptrT t,.slice a4 cs.length c4] (w4.alloc (.cells #[.slice none 0 0] 89)) fun e w6=>∃(pp:Option Addr) (B FL:Nat),e=.returned (.pointer pp)∧B≤1000000∧FL≤1000000 ∧
    Hid (∀W,Kept [] w6 W→W.cell? ⟨tb,0,none⟩=some (Pp p))∧Hid (∀W,Kept [] w6 W→Calls Tryz.prog 49 #[.pointer pp] W fun e w'=>e=.returned (.int .i64 (B:Int))∧Kept [] W w')∧Hid (∀W,Kept [] w6 W→Calls Tryz.prog 16 #[Pp p] W fun e w'=>∃a c,e=.returned (.slice a FL c)∧Kept [] W w') ∧
    ∀w7,Kept [] w6 w7→(FL<B∧Applied2 w0 w tb p q V ρ t old s fr ct L fl list 6 w7)∨(¬FL<B∧Calls Tryz.prog 50 #[Pp p,.pointer pp] w7 fun e w8=>∃er:Int,e=.returned (.int .i64 er)∧((er=9∧Applied2 w0 w tb p q V ρ t old s fr ct L fl list 9 w8)∨(er=0∧∃(vl:Value) (an:Option Addr) (ln cn:Nat) (w9:World),w8.heap[tb]?=some (.cells #[Pp p,ptrT t,vo] 81 (0,0))∧(w8.setCell ⟨tb,1,none⟩ (.pointer pp)).cell? ⟨w4.heap.size,0,none⟩=some vl∧w9.heap[tb]?=some (.cells #[Pp p,.pointer pp,vo] 81 (0,0))∧(Builtin.append_ #[41,41] 41 #[vo,vl]).run Tryz.prog (w8.setCell ⟨tb,1,none⟩ (.pointer pp)).drew=.ok (.slice an ln cn) w9∧Applied2 w0 w tb p q V ρ t old s fr ct L fl list 0 (w9.setCell ⟨tb,2,none⟩ (.slice an ln cn))))):=by
 have kw4:=kw3.trans hA.kept (by simp)
 obtain ⟨w5,hw5⟩:∃w5,w4.alloc (.cells #[.slice none 0 0] 89)=w5:=⟨_,rfl⟩
 have k45:Kept [] w4 w5:=by rw [←hw5];exact (Kept.refl [] w4).alloc _
 have kw5:=kw4.trans k45 (by simp)
 have hz5:w5.heap.size=w4.heap.size+1:=by rw [←hw5];simp
 have hb5:w5.heap[w4.heap.size]?=some (.cells #[.slice none 0 0] 89 (0,0)):=by rw [←hw5];exact heap_alloc_new w4 _
 rw [hw5]
 have h5:=h.kept kw5
 have hz3:=kw3.size
 have hz34:=hA.kept.size
 have hv4:∀g,v4.ownBlock=some g→w3.heap.size≤g∧g<w4.heap.size:=fun g hg=>⟨hA.fresh g hg,hA.own.lt hg⟩
 obtain ⟨F5,hF5⟩:∃F5:Nat→Prop,F5=fun b=>T b∨(w3.heap.size≤b∧b<w4.heap.size∧v4.ownBlock≠some b):=⟨_,rfl⟩
 have hTlt:∀b,T b→b<w.heap.size:=fun b hb=>h.lt b (.inl hb)
 have hub:¬F5 w4.heap.size:=by
  rw [hF5]
  rintro (hb|hb)
  ·have:=hTlt _ hb;have:=kw4.size;omega
  ·omega
 have hU5:IsU w5 w4.heap.size (.slice none 0 0) []:=⟨hb5,OwnsI.nil _,by simp [Value.ownBlock]⟩
 have hT5:IsT w5 F5 ρ t:=h5.tree.monoS fun b _ hb=>by rw [hF5];exact .inl hb
 have hC5:HoldsC w5 (.slice a4 cs.length c4) cs:=by rw [←e4];exact (hA.own.reads (CC_wide cs)).kept k45 (by simp)
 have hbl3:∀b,w3.heap.size≤b→ρ b=(0,0):=fun b hb=>h.blank b (by omega)
 have hcs5:ChsOk w5 F5 ρ cs:=⟨hup,hok,fun c hc i e=>by
  obtain ⟨g1,g2,g3⟩:=hA.items c hc i e
  refine ⟨((g1.monoS (F':=F5) fun b hb hf=>by rw [hF5];exact .inr ⟨hf.1,hb,hf.2⟩).kept k45 (by simp)),pn_blank (hbl3 _ g3),hcs c hc i e⟩⟩
 refine ⟨by simp only [World.cell?,h5.box];rfl,(tree_any2 h5.blank hU5 (fun x hx=>by simp [uf,Value.ownBlock] at hx;subst hx;exact hub) t hT5 (fun n e=>by subst e;have:=level_le n.2 h.tree.2.1 h.tree.2.2 (by show (its n.2).length≤500;have:(itsT (some n)).length=(its n.2).length:=rfl;omega);omega) h.up h.sz cs hne a4 cs.length c4 rfl hC5 (fun g hg=>by rw [←e4] at hg;simp [uf,Value.ownBlock];have:=(hv4 g hg).2;omega) hcs5 (by omega) (by have:=nmsT_le h.tree (by omega);simp;omega)).mono ?_⟩
 rintro e w6 ⟨vl6,dl,t',rfl,hT',hits,hperm',hU',k6,hN6,hadr,hrt⟩
 obtain ⟨pp,hpp⟩:=ptrT_form t'
 have k56:Kept [] w w6:=kw5.trans k6 (fun b hb=>.inr (by simp [uf,Value.ownBlock] at hb;subst hb;exact kw4.size))
 have hz6:=k6.size
 have hl':(itsT t').length≤500:=by rw [hits];exact hn3
 have hB:blT ρ t'≤1460:=blT_le hT' hl' (by rw [hits];exact hcost)
 have hsz':Sized (itsT t'):=by rw [hits];exact sized_mrg hcs5 h.sz
 have hup':Up (itsT t'):=by rw [hits];exact up_mrg cs _ hup hok h.up
 have h6:=h.kept k56
 have hvl6:∀g,vl6.ownBlock=some g→w5.heap.size≤g∧g<w6.heap.size:=fun g hg=>⟨by
  rcases hN6 g hg with h1|h1
  ·simp [Value.ownBlock] at h1
  ·exact h1,hU'.own.lt hg⟩
 have hfew:=h.sy.ok.few
 have har:=h.sy.ok.area
 have hnb:=h.sy.ok.nb
 refine ⟨pp,blT ρ t',fl.length,by rw [hpp],by omega,by omega,Hid.mk fun W kW=>?_,Hid.mk fun W kW=>?_,Hid.mk fun W kW=>?_,fun w7 k7=>?_⟩
 ·have:=(h6.kept kW).box
  simp only [World.cell?,this]
  rfl
 ·rw [←hpp]
  cases t' with
  | none=>exact blk_nil W
  | some n=>exact nblocks_any n.2 (hT'.1.kept kW (by simp)) hT'.2.1 hsz' (by show bl ρ n.2≤1000000;have:blT ρ (some n)=bl ρ n.2:=rfl;omega)
 ·refine (psy_free (h6.kept kW).sy).mono ?_
  rintro e w' ⟨v',ns,rfl,ho',hri,k',hf'⟩
  obtain ⟨a',c',rfl,_⟩:=ho'.form
  exact ⟨a',c',by rw [hri.1.length_eq],k'⟩
 ·have kw7:=k56.trans k7 (by simp)
  have hz7:=k7.size
  by_cases hfull:fl.length<blT ρ t'
  ·exact .inl ⟨hfull,.inr ⟨hw,.inr (.inl ⟨rfl,⟨w6,_,ρ,t',hT',by rw [hits];exact hmr,hfull⟩,kw7⟩)⟩⟩
  refine .inr ⟨hfull,?_⟩
  have h7:=h.kept kw7
  have hUb7:w7.heap[w4.heap.size]?=some (.cells #[vl6] 89 (0,0)):=k7.keeps hU'.box (by simp)
  have hUo7:OwnsI w7 vl6 dl:=by have:=hU'.own.kept k7 (by simp);rwa [List.nil_append] at this
  have hdl:dl.length≤1060:=by
   have h1:=hperm'.length_eq
   have h2:=nmsT_le h.tree (by omega)
   rw [List.length_append] at h1
   omega
  obtain ⟨T6,hT6⟩:∃T6:Nat→Prop,T6=fun b=>Fw F5 w5 [vl6] b∧b<w7.heap.size:=⟨_,rfl⟩
  have hF5w:∀b,F5 b→(T b∨w3.heap.size≤b)∧b<w4.heap.size:=fun b hb=>by
   rw [hF5] at hb
   rcases hb with hb|hb
   ·exact ⟨.inl hb,by have:=hTlt b hb;have:=kw4.size;omega⟩
   ·exact ⟨.inr hb.1,hb.2.1⟩
  have hlow:∀b,(b=tb∨vo.ownBlock=some b∨V b)→b<w.heap.size:=fun b hb=>h.lt b (.inr hb)
  have hT6w:∀b,T6 b→T b∨w3.heap.size≤b:=fun b hb=>by
   rw [hT6] at hb
   rcases hb.1.1 with h1|h1
   ·exact (hF5w b h1).1
   ·exact .inr (by omega)
  have htz:∀b,T6 b→¬(b=tb∨vo.ownBlock=some b∨V b∨b=w4.heap.size∨vl6.ownBlock=some b):=fun b hb hz=>by
   have h0:=hb
   rw [hT6] at h0
   have hz4:=kw4.size
   rcases hz with hz|hz|hz|hz|hz
   ·rcases hT6w b hb with h1|h1
    ·exact (h.tt b h1).1 hz
    ·have:=hlow b (.inl hz);omega
   ·rcases hT6w b hb with h1|h1
    ·exact (h.tt b h1).2.1 hz
    ·have:=hlow b (.inr (.inl hz));omega
   ·rcases hT6w b hb with h1|h1
    ·exact (h.tt b h1).2.2 hz
    ·have:=hlow b (.inr (.inr hz));omega
   ·subst hz
    rcases h0.1.1 with h1|h1
    ·exact hub h1
    ·omega
   ·exact h0.1.2 vl6 (by simp) hz
  have hlt7:∀b,T6 b∨(b=tb∨vo.ownBlock=some b∨V b∨b=w4.heap.size∨vl6.ownBlock=some b)→b<w7.heap.size:=fun b hb=>by
   have hz4:=kw4.size
   rcases hb with hb|hb|hb|hb|hb|hb
   ·rw [hT6] at hb;exact hb.2
   ·have:=hlow b (.inl hb);omega
   ·have:=hlow b (.inr (.inl hb));omega
   ·have:=hlow b (.inr (.inr hb));omega
   ·omega
   ·have:=(hvl6 b hb).2;omega
  have hnew:∀b,T6 b∨(b=tb∨vo.ownBlock=some b∨V b∨b=w4.heap.size∨vl6.ownBlock=some b)→w.heap.size≤b∨(T b∨b=tb∨vo.ownBlock=some b∨V b):=fun b hb=>by
   have hz4:=kw4.size
   rcases hb with hb|hb|hb|hb|hb|hb
   ·rcases hT6w b hb with h1|h1
    ·exact .inr (.inl h1)
    ·exact .inl (by omega)
   ·exact .inr (.inr (.inl hb))
   ·exact .inr (.inr (.inr (.inl hb)))
   ·exact .inr (.inr (.inr (.inr hb)))
   ·exact .inl (by omega)
   ·have:=(hvl6 b hb).1;exact .inl (by omega)
  have hge7:∀b,T6 b∨(b=tb∨vo.ownBlock=some b∨V b∨b=w4.heap.size∨vl6.ownBlock=some b)→w0.heap.size≤b:=fun b hb=>by
   rcases hnew b hb with h1|h1
   ·exact Nat.le_trans h.sy.k.size h1
   ·exact h.ge b h1
  have hsy7:SyP w0 w7 q p s fr ct L fl (fun b=>T6 b∨(b=tb∨vo.ownBlock=some b∨V b∨b=w4.heap.size∨vl6.ownBlock=some b)):=(h.sy.more (Y:=fun b=>w.heap.size≤b) kw7 (fun y hy=>hy)).less hnew
  have hT7:IsT w7 T6 ρ t':=(hT'.kept k7 (by simp)).monoS fun b hb hf=>by rw [hT6];exact ⟨hf,hb⟩
  have hT7o:IsT w7 T6 ρ t:=h7.tree.monoS fun b hb hf=>by
   rw [hT6]
   refine ⟨⟨.inl (by rw [hF5];exact .inl hf),fun u hu e=>?_⟩,hb⟩
   simp at hu
   subst hu
   have:=(hvl6 b e).1
   have:=hTlt b hf
   have:=kw4.size
   omega
  have hbl7:=h.blank.kept kw7
  have hold7:∀y∈old++dl,y≤1000000:=fun y hy=>by
   rcases List.mem_append.1 hy with hy|hy
   ·exact h.olds y hy
   ·have h1:y∈nmsT ρ t:=hperm'.mem_iff.2 (List.mem_append_right _ hy)
    exact nmsT_ok h.ok h1
  have hut:w4.heap.size≠tb:=fun e=>by have:=hlow tb (.inl rfl);have:=kw4.size;omega
  have hlt2:vl6.ownBlock≠some tb:=fun e=>by have:=(hvl6 tb e).1;have:=hlow tb (.inl rfl);have:=kw4.size;omega
  rw [←hpp]
  cases t' with
  | none =>
   refine (tlay_nil p w7).mono ?_
   rintro e w8 ⟨rfl,rfl⟩
   refine ⟨0,rfl,.inr ⟨rfl,?_⟩⟩
   obtain ⟨an,ln,cn,w9,e1,e2,e3,e4',e5⟩:=apply_end (t':=none) (ρ8:=fun _=>(0,0)) rfl h7.box h7.own hUb7 hUo7 trivial hup' hsz' hsy7 hlt7 hge7 htz h.tv hut hlt2 (fun _ _=>rfl) (fun _=>⟨by simp,by simp⟩) hold7 (fun n e=>by cases e) h.fr1 (by omega)
   refine ⟨vl6,an,ln,cn,w9,h7.box,e1,e2,e3,.inr ⟨hw,.inl ⟨rfl,fun _=>(0,0),none,old++dl,s,L,fl,e4',(KP.of kw7).trans e5,by rw [hits];exact hmr,by have:=len_mrg' (itsT t) cs;rw [hits];omega,by rw [List.length_append];omega,by omega,hd,fun _=>rfl,hNI.gone (by simpa [nmsT] using hperm'),[],[],by simp,by simp,by simp,rfl⟩⟩⟩
  | some n =>
   have hblk:blT ρ (some n)=bl ρ n.2:=rfl
   have had:=hadr n rfl
   have hlev:=level_le n.2 hT7.2.1 hT7.2.2 hl'
   have h0:(ρ (adr n.2)).1=0:=by rw [h.blank _ (by have:=kw4.size;omega)]
   have hndL:=h.sy.ok.names
   have hnodT:(nmsT ρ t).Nodup:=by
    have:=(hNI.names.nodup_iff).1 hndL
    rw [List.nodup_append] at this
    exact this.1
   have hroot:=hrt hnodT h.root n rfl
   have hag:∀b∈blks n.2,cutR (blks n.2) ρ b=ρ b:=fun b hb=>cutR_in hb
   have hblc:bl (cutR (blks n.2) ρ) n.2=bl ρ n.2:=bl_agree hag
   have hNc:IsN w7 T6 (cutR (blks n.2) ρ) n.2:=(rho_agree hag).1 hT7.1
   have hokc:RhoOk (cutR (blks n.2) ρ):=fun b=>by
    by_cases hb:b∈blks n.2
    ·rw [cutR_in hb];exact h.ok b
    ·rw [cutR_out hb];exact ⟨by omega,by omega⟩
   have hGI:=hNI.start hndL hT7o hT7.1 hT7.2.1 h0 hroot
   refine (tlay_any (g:=True) (κ:=kapOf L ρ (adr n.2)) (T:=T6) (ρ:=cutR (blks n.2) ρ) (Z:=fun b=>b=tb∨vo.ownBlock=some b∨V b∨b=w4.heap.size∨vl6.ownBlock=some b) hsy7 hlt7 hge7 htz hokc (fun _=>hGI) h.fr1 hNc (by omega) hT7.2.1 hsz' (by rw [hblc];omega) (by rw [hblc];omega) (by rw [hblc];omega) hd (by rw [cutR_in (blks_self n.2)];exact h0) (fun _=>⟨by show (if adr n.2=adr n.2 then (2:UInt8) else 3)=2;rw [if_pos rfl],inner_of hT7.1 (fun b _ h=>h) (fun _=>trivial)⟩)).mono ?_
   rintro e w8 ⟨er,rfl,ρ8,s8,L8,fl8,g1,g2,g3,g4,g5,g6,g7,g8,g9,g10,g11⟩
   refine ⟨er,rfl,?_⟩
   obtain ⟨S,k8,hS⟩:=id g7
   have hz8:=k8.size
   have hbox8:=k8.keeps h7.box (hS tb (.inl rfl))
   have hvo8:=h7.own.kept k8 (fun x hx=>hS x (.inr (.inl hx)))
   have hlt8:∀b,T6 b∨(b=tb∨vo.ownBlock=some b∨V b∨b=w4.heap.size∨vl6.ownBlock=some b)→b<w8.heap.size:=fun b hb=>Nat.lt_of_lt_of_le (hlt7 b hb) hz8
   have hbl8:Blank ρ8 w8:=fun b hb=>by
    rw [g6 b (fun hm=>by have:=blks_lt hT7.1 hm;omega)]
    exact cutR_out (fun hm=>by have:=blks_lt hT7.1 hm;omega)
   have hKV:KP V w w8:=(KP.of kw7).trans ⟨S,k8,fun x hx=>hS x (.inr (.inr (.inl hx)))⟩
   rcases g11 with ⟨rfl,d1,d2,d3,E,m,vs,d4,d5,d6,d7,d8⟩|⟨rfl,d1,d2⟩
   ·refine .inr ⟨rfl,?_⟩
    obtain ⟨an,ln,cn,w9,e1,e2,e3,e4',e5⟩:=apply_end (t':=some n) rfl hbox8 hvo8 (k8.keeps hUb7 (hS _ (.inr (.inr (.inr (.inl rfl)))))) (hUo7.kept k8 (fun x hx=>hS x (.inr (.inr (.inr (.inr hx)))))) ⟨g3 hNc,hT7.2⟩ hup' hsz' g1 hlt8 hge7 htz h.tv hut hlt2 hbl8 g2 hold7 (fun n' e=>by injection e with e;subst e;exact d2) h.fr1 (by omega)
    rw [hblc] at g9
    subst d4
    have hNI8:=hNI.behind hperm' (d3 trivial) g1.ok.names g5 g6 (g3 hNc) hT7.2.1 hup' d2
    refine ⟨vl6,an,ln,cn,w9,hbox8,e1,e2,e3,.inr ⟨hw,.inl ⟨rfl,ρ8,some n,old++dl,s8,L++E,fl8,e4',hKV.trans e5,by rw [hits];exact hmr,by have:=len_mrg' (itsT t) cs;rw [hits];omega,by rw [List.length_append];omega,by omega,d1,fun hf=>(g10 hf).1,hNI8,E,vs,rfl,d7,d8,g8⟩⟩⟩
   ·exact .inl ⟨rfl,.inr ⟨hw,.inr (.inr ⟨rfl,Int.not_lt.1 fun hf=>by have:=(g10 hf).2;rw [d1,hd] at this;cases this⟩)⟩⟩
theorem apply_all2 (h:Tre w0 w tb p q V ρ t old s fr ct L fl) (hNI:NI ρ t old L) {v:Value}{rs:List Cq} (hr:RowQ w v rs) (hv:ValsQ w rs) (hn:(itsT t).length≤500) (hn2:rs.length≤2000) (hcost:WrongIs (rs.map Cq.c) 0→∀is:List Itm,is.map kv=tapp ((itsT t).map kv) (rs.map Cq.c)→is.length≤500∧(is.map cst).sum≤900) (hold:old.length≤90000) (hws:s.ws.length≤88000) (hd:s.down=false) :
  Calls Tryz.prog 14 #[Pp tb,v] w fun e w'=>∃er:Int,e=.returned (.int .i64 er)∧Applied2 w0 w tb p q V ρ t old s fr ct L fl (rs.map Cq.c) er w':=by
 have hTre:=h
 obtain ⟨T,vo,h⟩:=h
 refine apply_walk (P:=ptrT t) (vo:=vo) (p:=p) ((cloneQ hr (by omega)).mono ?_)
 rintro e w1 ⟨v1,rfl,ho1,k1,hf1⟩
 refine ⟨v1,rfl,(sortQ_any ho1 (by omega)).mono ?_⟩
 rintro e w2 ⟨rfl,l,hperm,hsorted,hr2,k2⟩
 have kw2:Kept [] w w2:=k1.trans k2 (fun b hb=>.inr (hf1 b (by simpa using hb)))
 have hlen:l.length=rs.length:=hperm.length_eq
 obtain ⟨a1,c1,rfl,hc1,hc2⟩:=hr2.form
 refine ⟨rfl,(asked_any hr2 (Hid.mk rfl) (by omega) (Hid.mk hsorted)).mono ?_⟩
 rintro e w3 ⟨er,rfl,hw,k3⟩
 have hw':WrongIs (rs.map Cq.c) er:=hw.perm (hperm.map Cq.c)
 have kw3:=kw2.trans k3 (by simp)
 refine ⟨er,rfl,?_⟩
 by_cases her:er=0
 ·subst her
  refine .inr ⟨rfl,?_⟩
  have hz:=hw'.zero
  have hzl:=hw.zero
  have hup:=lt_of_sorted hsorted hzl.1
  have h3:=h.kept kw3
  have hrow3:=hr2.kept k3 (by simp)
  have hval3:ValsQ w3 l:=fun x hx=>(hv x (hperm.mem_iff.1 hx)).kept kw3 (by simp)
  have c3:w3.cell? ⟨tb,1,none⟩=some (ptrT t):=by simp only [World.cell?,h3.box];rfl
  refine (changes_any c3 (Hid.mk h3.tree) (Hid.mk h3.up) (Hid.mk h3.sz) (Hid.mk h3.blank) hrow3 (Hid.mk rfl) (by omega) (Hid.mk hval3) (Hid.mk fun x hx=>⟨(hzl.2 x.c (List.mem_map_of_mem hx)).2.1,(hzl.2 x.c (List.mem_map_of_mem hx)).2.2⟩) (Hid.mk fun key W hk=>cloneS_any key W hk)).mono ?_
  rintro e w4 ⟨v4,cs,rfl,hA⟩
  obtain ⟨a4,c4,e4,hc4,hc4'⟩:=hA.own.form
  rw [CC_length] at e4 hc4
  obtain ⟨hd1,hd2,hd3⟩:=hA.done (Nat.le_refl _) hup
  have hmr:(mrg (itsT t) cs).map kv=tapp ((itsT t).map kv) (rs.map Cq.c):=mrg_tapp h.up (hperm.symm.map Cq.c) hz.1 hd2 hd3 hd1
  have kw4:=kw3.trans hA.kept (by simp)
  have hcl:=hA.len
  refine ⟨a4,cs.length,c4,by rw [e4],by omega,?_⟩
  by_cases hm0:cs.length=0
  ·refine .inl ⟨hm0,.inr ⟨hw',.inl ⟨rfl,ρ,t,old,s,L,fl,hTre.kept kw4,KP.of kw4,?_,by omega,by omega,by omega,hd,fun _=>rfl,hNI,[],[],by simp,by simp,by simp,rfl⟩⟩⟩
   have:cs=[]:=List.eq_nil_of_length_eq_zero hm0
   rw [this] at hmr
   exact hmr
  ·have hne:cs≠[]:=fun e=>hm0 (by rw [e];rfl)
   have hcs:∀c∈cs,∀i,c.2=some i→1≤i.key.length∧i.key.length≤64∧i.val.length≤20000:=fun c hc i e=>by
    have h1:chV c∈cs.map chV:=List.mem_map_of_mem hc
    rw [hd1] at h1
    obtain ⟨d,hd,he⟩:=List.mem_map.1 h1
    have h2:=hzl.2 d (List.mem_filter.1 hd).1
    unfold asC chV at he
    injection he with he1 he2
    rw [e] at he2
    have hk:i.key=d.key:=by rw [hd3 c hc i e,he1]
    cases hg:d.gone with
    | true=>simp [hg] at he2
    | false =>
     simp [hg] at he2
     rw [hk,←he2]
     exact h2
   have hll:(rs.map Cq.c).length=rs.length:=by simp
   obtain ⟨g1,g2⟩:=apply_tree2 h hNI kw3 hA e4 hd2 hd3 hw' hcs hmr hn (by omega) (hcost hw' _ hmr).1 (by omega) (hcost hw' _ hmr).2 hold hws hd hne
   exact .inr ⟨hm0,g1,g2⟩
 ·refine .inl ⟨her,.inl ⟨her,hw',kw3⟩⟩
end
theorem laid_items {D:Nat→Prop}{tx:Nat→List UInt8}{ρ:Rho}:{k:Nat}→{t:Tr k}→LaidN D tx ρ t→∀i∈its t,ItOk ρ i
 | 0,t,h,i,hi=>(h.1.1 i hi).1
 | k+1,t,h,i,hi=>by
  obtain ⟨u,hu,hi⟩:=List.mem_flatMap.1 hi
  exact laid_items (h.1.1 u hu).2 i hi
theorem kv_sized {l m:List Itm} (h:l.map (fun i=>(i.key,i.val))=m.map fun i=>(i.key,i.val)) (hs:Sized m):Sized l:=fun i hi=>by
 have hm:(i.key,i.val)∈l.map fun i=>(i.key,i.val):=List.mem_map.2 ⟨i,hi,rfl⟩
 rw [h] at hm
 obtain ⟨x,hx,e⟩:=List.mem_map.1 hm
 simp only [Prod.mk.injEq] at e
 rw [←e.1,←e.2]
 exact hs x hx
theorem kv_up {l m:List Itm} (h:l.map (fun i=>(i.key,i.val))=m.map fun i=>(i.key,i.val)) (hs:(m.map Itm.key).Pairwise (·<·)):Up l:=by
 have e:=congrArg (List.map fun x:List UInt8 × List UInt8=>x.1) h
 rw [List.map_map,List.map_map] at e
 have e2:l.map Itm.key=m.map Itm.key:=e
 rw [←e2] at hs
 exact List.pairwise_map.1 hs
section
variable {w0 w:World}{q p:Nat}{s:St}{fr ct:Nat}{L:List Ent}{fl:List Nat}{X:Nat→Prop}
theorem TreeAt.tre {tx:Nat→List UInt8}{ρ:Rho}{K:Nat}{t:Tr K}{nm:Nat} (hT:TreeAt (fun n=>∃x∈L,x.1=n∧x.2.2=tx n) tx ρ t nm) (htop:Top t) (h:SyP w0 w q p s fr ct L fl X) (hfr:1≤fr) (hd:s.down=false) (hlt:∀b,X b→b<w.heap.size) (hge:∀b,X b→w0.heap.size≤b) :
  Calls Tryz.prog 13 #[Pp p,.int .i64 (nm:Int)] w fun e w'=>∃(tb:Nat) (ρ':Rho) (t':Tr K),e=.returned (.tuple #[Pp tb,.int .i64 0])∧w.heap.size≤tb∧Tre w0 w' tb p q X ρ' (some ⟨K,t'⟩) [] s fr ct L fl∧Kept [] w w'∧(its t').map (fun i=>(i.key,i.val))=(its t).map (fun i=>(i.key,i.val))∧(nms ρ' t').Perm (nm::toRead ρ [t])∧ρ' (adr t')=(nm,fnv (tx nm))∧form ρ' t'=formR ρ t∧Named ρ' t':=by
 refine (hT.opens h hfr hd hlt).mono ?_
 rintro e w' ⟨top,w1,w2,rfl,⟨k1,hLP⟩,rfl⟩
 obtain ⟨k2,ρ',t',rfl,hN,hits,hnm,hr,hf,hw,hnd,hbl,hok⟩:=hLP.own hT
 have ka:Kept [] w2 (w2.alloc (.cells #[Pp p,Pp (adr t'),.slice none 0 0] 81)):=(Kept.refl [] w2).alloc _
 have k02:=k1.trans k2 (by simp)
 have kw:=k02.trans ka (by simp)
 have hz1:=k1.size
 have hz2:=k02.size
 have hz0:=h.k.size
 refine ⟨w2.heap.size,ρ',t',rfl,hz2,⟨fun b=>w1.heap.size≤b∧b<w2.heap.size,.slice none 0 0,?_⟩,kw,hits,hnm,hr,hf,hnd⟩
 refine ⟨heap_alloc_new w2 _,OwnsI.nil _,⟨hN.kept ka (by simp),hw,form_top hf htop⟩,kv_up hits (List.pairwise_cons.1 hT.up).2,kv_sized hits fun i hi=>?_,?_,fun b hb=>?_,fun b hb=>?_,fun b hb=>⟨by omega,by simp [Value.ownBlock],fun hV=>by have:=hlt b hV;omega⟩,⟨fun hV=>by have:=hlt _ hV;omega,by simp [Value.ownBlock],by simp [Value.ownBlock]⟩,hbl.kept ka,hok,by simp,fun n e=>?_,hfr⟩
 ·have:=laid_items hT.laid i hi
  exact ⟨this.1,this.2.1,this.2.2.1⟩
 ·refine (h.more (Y:=fun b=>w.heap.size≤b) kw (fun y hy=>hy)).less fun b hb=>?_
  rcases hb with hb|hb|hb|hb
  ·exact .inl (by omega)
  ·exact .inl (by omega)
  ·simp [Value.ownBlock] at hb
  ·exact .inr hb
 ·rcases hb with hb|hb|hb|hb
  ·have:=ka.size;omega
  ·subst hb;simp
  ·simp [Value.ownBlock] at hb
  ·exact Nat.lt_of_lt_of_le (hlt b hb) kw.size
 ·rcases hb with hb|hb|hb|hb
  ·omega
  ·omega
  ·simp [Value.ownBlock] at hb
  ·exact hge b hb
 ·cases e
  show (ρ' (adr t')).1≠0
  rw [hr]
  exact hT.nm0
end
end Go.Proofs.YtgpbhlfdlkemjaaGreat
