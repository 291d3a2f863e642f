import Derived.Test.YtgpbhlfdlkemjaaGreatH36
/-
 Apply.
-/
namespace Go.Proofs.YtgpbhlfdlkemjaaGreat
open Go.RowKit
set_option linter.unusedVariables false
theorem lt_of_sorted {l:List Cq} (hs:l.Pairwise fun a b=>¬b.c.key<a.c.key) (hn:((l.map Cq.c).map Cg.key).Nodup):l.Pairwise fun a b=>a.c.key<b.c.key:=by
 rw [List.map_map] at hn
 have hn':l.Pairwise fun a b=>a.c.key≠b.c.key:=List.pairwise_map.1 hn
 refine List.pairwise_iff_getElem.2 fun i j hi hj hij=>?_
 have h1:=List.pairwise_iff_getElem.1 hs i j hi hj hij
 have h2:=List.pairwise_iff_getElem.1 hn' i j hi hj hij
 exact klt_total h1 (fun e=>h2 e.symm)
theorem len_mrg' (is:List Itm) (cs:List Chg):(mrg is cs).length≤is.length+cs.length:=by
 have h:=sum_mrg (fun _=>1) cs is
 rw [sum_ones,sum_ones] at h
 have h2:(cs.map fun c=>(c.2.toList.map fun _=>1).sum).sum≤cs.length:=by
  have:=sum_ge (fun c:Chg=>(c.2.toList.map fun _=>1).sum) (fun _=>1) cs fun c _=>by cases c.2<;>simp
  rw [sum_ones] at this
  exact this
 omega
theorem nms_ok {ρ:Rho} (h:RhoOk ρ) {y:Nat}:{k:Nat}→{n:Tr k}→y∈nms ρ n→y≤1000000
 | 0,n,hy=>by
  have key:∀a,y∈pn ρ a→y≤1000000:=fun a ha=>by
   unfold pn at ha
   split at ha
   ·simp at ha
   ·simp at ha;subst ha;exact (h a).1
  rcases List.mem_append.1 hy with hy|hy
  ·obtain ⟨i,_,hi⟩:=List.mem_flatMap.1 hy
   exact key _ hi
  ·exact key _ hy
 | k+1,n,hy=>by
  rcases List.mem_append.1 hy with hy|hy
  ·obtain ⟨u,_,hu⟩:=List.mem_flatMap.1 hy
   exact nms_ok h hu
  ·unfold pn at hy
   split at hy
   ·simp at hy
   ·simp at hy;subst hy;exact (h _).1
theorem nmsT_ok {ρ:Rho} (h:RhoOk ρ) {t:AT}{y:Nat} (hy:y∈nmsT ρ t):y≤1000000:=by
 cases t with
 | none=>simp [nmsT] at hy
 | some n=>exact nms_ok h hy
section
variable {w0 w:World}{tb p q:Nat}{V:Nat→Prop}{ρ:Rho}{t:AT}{old:List Nat}{s:St}{fr ct:Nat}{L:List Ent}{fl:List Nat}
theorem apply_end {w8:World}{T6:Nat→Prop}{ub:Nat}{vl6 vo:Value}{dl:List Nat}{t':AT}{pp:Option Addr}{P:Value}{ρ8:Rho}{s8:St}{L8:List Ent}{fl8:List Nat} (hpp:ptrT t'=.pointer pp) (hbox:w8.heap[tb]?=some (.cells #[Pp p,P,vo] 81 (0,0))) (hvo:OwnsI w8 vo old) (hub:w8.heap[ub]?=some (.cells #[vl6] 89 (0,0))) (hul:OwnsI w8 vl6 dl) (hT:IsT w8 T6 ρ8 t') (hup:Up (itsT t')) (hsz:Sized (itsT t'))
  (sy:SyP w0 w8 q p s8 fr ct L8 fl8 (fun b=>T6 b∨(b=tb∨vo.ownBlock=some b∨V b∨b=ub∨vl6.ownBlock=some b))) (hlt:∀b,T6 b∨(b=tb∨vo.ownBlock=some b∨V b∨b=ub∨vl6.ownBlock=some b)→b<w8.heap.size) (hge:∀b,T6 b∨(b=tb∨vo.ownBlock=some b∨V b∨b=ub∨vl6.ownBlock=some b)→w0.heap.size≤b) (htz:∀b,T6 b→¬(b=tb∨vo.ownBlock=some b∨V b∨b=ub∨vl6.ownBlock=some b)) (htv:¬V tb∧vo.ownBlock≠some tb∧∀b,vo.ownBlock=some b→¬V b) (hut:ub≠tb) (hlt2:vl6.ownBlock≠some tb)
  (hblank:Blank ρ8 w8) (hok:RhoOk ρ8) (holds:∀y∈old++dl,y≤1000000) (hroot:∀n,t'=some n→(ρ8 (adr n.2)).1≠0) (hfr:1≤fr) (hlen:old.length+dl.length≤1000000) :
  ∃(an:Option Addr) (ln cn:Nat) (w9:World),(w8.setCell ⟨tb,1,none⟩ (.pointer pp)).cell? ⟨ub,0,none⟩=some vl6∧w9.heap[tb]?=some (.cells #[Pp p,.pointer pp,vo] 81 (0,0))∧(Builtin.append_ #[41,41] 41 #[vo,vl6]).run Tryz.prog (w8.setCell ⟨tb,1,none⟩ (.pointer pp)).drew=.ok (.slice an ln cn) w9 ∧
   Tre w0 (w9.setCell ⟨tb,2,none⟩ (.slice an ln cn)) tb p q V ρ8 t' (old++dl) s8 fr ct L8 fl8∧KP V w8 (w9.setCell ⟨tb,2,none⟩ (.slice an ln cn)):=by
 obtain ⟨W8,hW8⟩:∃W8,w8.setCell ⟨tb,1,none⟩ (.pointer pp)=W8:=⟨_,rfl⟩
 have kA:Kept [tb] w8 W8.drew:=by rw [←hW8];exact ((Kept.refl [tb] w8).setCell (.inl (by simp)) _).drew
 have hb8:W8.drew.heap[tb]?=some (.cells #[Pp p,.pointer pp,vo] 81 (0,0)):=by
  rw [←hW8]
  show (w8.setCell ⟨tb,1,none⟩ (.pointer pp)).heap[tb]?=_
  rw [heap_setCell_same w8 tb 1 _ 81 _ hbox]
  rfl
 have hvo8:OwnsI W8.drew vo old:=hvo.kept kA (fun g hg hm=>htv.2.1 (by simp at hm;rw [←hm];exact hg))
 have hul8:OwnsI W8.drew vl6 dl:=hul.kept kA (fun g hg hm=>hlt2 (by simp at hm;rw [←hm];exact hg))
 have hub8:W8.drew.heap[ub]?=some (.cells #[vl6] 89 (0,0)):=kA.keeps hub (by simpa using hut)
 obtain ⟨an,cn,w9,hrun,ho9,k9,hN9⟩:=run_appendI hvo8 hul8.reads hlen
 have hb9:=k9.keeps hb8 (fun hm=>htv.2.1 (by simpa using hm))
 have htb:tb<w8.heap.size:=hlt tb (.inr (.inl rfl))
 have hsA:=kA.size
 obtain ⟨vn,hvn⟩:∃vn,Value.slice an (old.length+dl.length) cn=vn:=⟨_,rfl⟩
 have hvnb:∀g,vn.ownBlock=some g→vo.ownBlock=some g∨w8.heap.size≤g:=fun g hg=>by
  rw [←hvn] at hg
  rcases hN9 g hg with h1|h1
  ·exact .inl h1
  ·exact .inr (by omega)
 have kB:Kept [tb] w9 (w9.setCell ⟨tb,2,none⟩ vn):=(Kept.refl [tb] w9).setCell (.inl (by simp)) _
 have kk:Kept (tb::vo.ownBlock.toList) w8 (w9.setCell ⟨tb,2,none⟩ vn):=((kA.mono (T:=tb::vo.ownBlock.toList) (fun x hx=>.inl (by simp at hx;simp [hx]))).trans k9 (fun x hx=>.inl (by simp [hx]))).trans kB (fun x hx=>.inl (by simp at hx;simp [hx]))
 have hvt:vn.ownBlock≠some tb:=fun e=>by
  rcases hvnb tb e with h1|h1
  ·exact htv.2.1 h1
  ·omega
 refine ⟨an,old.length+dl.length,cn,w9,?_,hb9,?_,⟨T6,vn,?_⟩,?_⟩
 ·rw [hW8]
  have:W8.heap[ub]?=some (.cells #[vl6] 89 (0,0)):=hub8
  simp only [World.cell?,this]
  rfl
 ·rw [hW8]
  exact hrun
 ·rw [hvn]
  refine ⟨?_,?_,hT.kept kk (fun x hx hx6=>htz x hx6 ?_),hup,hsz,?_,fun b hb=>?_,fun b hb=>?_,fun b hb=>⟨fun e=>htz b hb (.inl e),fun e=>?_,fun e=>htz b hb (.inr (.inr (.inl e)))⟩,⟨htv.1,hvt,fun b hb hV=>?_⟩,hblank.kept kk,hok,holds,hroot,hfr⟩
  ·rw [heap_setCell_same w9 tb 2 _ 81 _ hb9,hpp]
   rfl
  ·rw [←hvn] at hvt ⊢
   exact ho9.kept ((Kept.refl [tb] w9).setCell (.inl (by simp)) _) (fun g hg hm=>hvt (by simp at hm;rw [←hm];exact hg))
  ·simp at hx
   rcases hx with hx|hx
   ·exact .inl hx
   ·exact .inr (.inl hx)
  ·have s1:=SyP.more (Y:=fun b=>w8.heap.size≤b) sy (Kept.refl [] w8) (fun y hy=>hy)
   have s2:=s1.turn kk (fun x hx=>by
    simp at hx
    rcases hx with hx|hx
    ·exact .inl (.inr (.inr (.inl hx)))
    ·exact .inl (.inr (.inr (.inr (.inl hx))))) (fun x hx=>by
    simp at hx
    rcases hx with hx|hx
    ·exact hge x (.inr (.inl hx))
    ·exact hge x (.inr (.inr (.inl hx))))
   refine s2.less fun y hy=>?_
   rcases hy with hy|hy|hy|hy
   ·exact .inr (.inl hy)
   ·exact .inr (.inr (.inl hy))
   ·rcases hvnb y hy with h1|h1
    ·exact .inr (.inr (.inr (.inl h1)))
    ·exact .inl h1
   ·exact .inr (.inr (.inr (.inr (.inl hy))))
  ·have hkz:=kk.size
   rcases hb with hb|hb|hb|hb
   ·exact Nat.lt_of_lt_of_le (hlt b (.inl hb)) hkz
   ·exact Nat.lt_of_lt_of_le (hlt b (.inr (.inl hb))) hkz
   ·rw [←hvn] at hb
    exact Nat.lt_of_lt_of_le (ho9.lt hb) kB.size
   ·exact Nat.lt_of_lt_of_le (hlt b (.inr (.inr (.inr (.inl hb))))) hkz
  ·rcases hb with hb|hb|hb|hb
   ·exact hge b (.inl hb)
   ·exact hge b (.inr (.inl hb))
   ·rcases hvnb b hb with h1|h1
    ·exact hge b (.inr (.inr (.inl h1)))
    ·exact Nat.le_trans sy.k.size h1
   ·exact hge b (.inr (.inr (.inr (.inl hb))))
  ·rcases hvnb b e with h1|h1
   ·exact htz b hb (.inr (.inl h1))
   ·have:=hlt b (.inl hb);omega
  ·rcases hvnb b hb with h1|h1
   ·exact htv.2.2 b h1 hV
   ·have:=hlt b (.inr (.inr (.inr (.inl hV))));omega
 ·rw [hvn]
  exact ⟨_,kk,fun x hx hm=>by
   simp at hm
   rcases hm with hm|hm
   ·exact htv.1 (by rw [←hm];exact hx)
   ·exact htv.2.2 x hm hx⟩
theorem apply_tree {T:Nat→Prop}{vo:Value} (h:IsTree w0 w tb p q T V ρ t vo old s fr ct L fl) {w3 w4:World} (kw3:Kept [] w w3) {l:List Cq}{v4:Value}{cs:List Chg} (hA:ChAt ρ w3 (itsT t) l l.length w4 v4 cs) {a4:Option Addr}{c4:Nat} (e4:v4=.slice a4 cs.length c4) (hup:ChUp cs) (hok:ChOk cs) {list:List Cg} (hw:WrongIs list 0) (hcs:∀c∈cs,∀i,c.2=some i→1≤i.key.length∧i.key.length≤64∧i.val.length≤20000) (hmr:(mrg (itsT t) cs).map kv=tapp ((itsT t).map kv) list) (hn:(itsT t).length≤500) (hn2:cs.length≤2000) (hn3:(mrg (itsT t) cs).length≤500) (hnl:cs.length≤list.length) (hcost:((mrg (itsT t) cs).map cst).sum≤900) (hold:old.length≤90000) (hws:s.ws.length≤88000) (hd:s.down=false) (hne:cs≠[]) :
  (w4.alloc (.cells #[.slice none 0 0] 89)).cell? ⟨tb,1,none⟩=some (ptrT t) ∧
   Calls Tryz.prog 48 #[Pp w4.heap.size,ptrT t,.slice a4 cs.length c4] (w4.alloc (.cells #[.slice none 0 0] 89)) fun e w6=>∃(pp:Option Addr) (B FL:Nat),e=.returned (.pointer pp)∧B≤1000000∧FL≤1000000 ∧
    Hid (∀W,Kept [] w6 W→W.cell? ⟨tb,0,none⟩=some (Pp p))∧Hid (∀W,Kept [] w6 W→Calls Tryz.prog 49 #[.pointer pp] W fun e w'=>e=.returned (.int .i64 (B:Int))∧Kept [] W w')∧Hid (∀W,Kept [] w6 W→Calls Tryz.prog 16 #[Pp p] W fun e w'=>∃a c,e=.returned (.slice a FL c)∧Kept [] W w') ∧
    ∀w7,Kept [] w6 w7→(FL<B∧Applied w0 w tb p q V ρ t old s fr ct L fl list 6 w7)∨(¬FL<B∧Calls Tryz.prog 50 #[Pp p,.pointer pp] w7 fun e w8=>∃er:Int,e=.returned (.int .i64 er)∧((er=9∧Applied w0 w tb p q V ρ t old s fr ct L fl list 9 w8)∨(er=0∧∃(vl:Value) (an:Option Addr) (ln cn:Nat) (w9:World),w8.heap[tb]?=some (.cells #[Pp p,ptrT t,vo] 81 (0,0))∧(w8.setCell ⟨tb,1,none⟩ (.pointer pp)).cell? ⟨w4.heap.size,0,none⟩=some vl∧w9.heap[tb]?=some (.cells #[Pp p,.pointer pp,vo] 81 (0,0))∧(Builtin.append_ #[41,41] 41 #[vo,vl]).run Tryz.prog (w8.setCell ⟨tb,1,none⟩ (.pointer pp)).drew=.ok (.slice an ln cn) w9∧Applied w0 w tb p q V ρ t old s fr ct L fl list 0 (w9.setCell ⟨tb,2,none⟩ (.slice an ln cn))))):=by
 have kw4:=kw3.trans hA.kept (by simp)
 obtain ⟨w5,hw5⟩:∃w5,w4.alloc (.cells #[.slice none 0 0] 89)=w5:=⟨_,rfl⟩
 have k45:Kept [] w4 w5:=by rw [←hw5];exact (Kept.refl [] w4).alloc _
 have kw5:=kw4.trans k45 (by simp)
 have hz5:w5.heap.size=w4.heap.size+1:=by rw [←hw5];simp
 have hb5:w5.heap[w4.heap.size]?=some (.cells #[.slice none 0 0] 89 (0,0)):=by rw [←hw5];exact heap_alloc_new w4 _
 rw [hw5]
 have h5:=h.kept kw5
 have hz3:=kw3.size
 have hz34:=hA.kept.size
 have hv4:∀g,v4.ownBlock=some g→w3.heap.size≤g∧g<w4.heap.size:=fun g hg=>⟨hA.fresh g hg,hA.own.lt hg⟩
 obtain ⟨F5,hF5⟩:∃F5:Nat→Prop,F5=fun b=>T b∨(w3.heap.size≤b∧b<w4.heap.size∧v4.ownBlock≠some b):=⟨_,rfl⟩
 have hTlt:∀b,T b→b<w.heap.size:=fun b hb=>h.lt b (.inl hb)
 have hub:¬F5 w4.heap.size:=by
  rw [hF5]
  rintro (hb|hb)
  ·have:=hTlt _ hb;have:=kw4.size;omega
  ·omega
 have hU5:IsU w5 w4.heap.size (.slice none 0 0) []:=⟨hb5,OwnsI.nil _,by simp [Value.ownBlock]⟩
 have hT5:IsT w5 F5 ρ t:=h5.tree.monoS fun b _ hb=>by rw [hF5];exact .inl hb
 have hC5:HoldsC w5 (.slice a4 cs.length c4) cs:=by rw [←e4];exact (hA.own.reads (CC_wide cs)).kept k45 (by simp)
 have hbl3:∀b,w3.heap.size≤b→ρ b=(0,0):=fun b hb=>h.blank b (by omega)
 have hcs5:ChsOk w5 F5 ρ cs:=⟨hup,hok,fun c hc i e=>by
  obtain ⟨g1,g2,g3⟩:=hA.items c hc i e
  refine ⟨((g1.monoS (F':=F5) fun b hb hf=>by rw [hF5];exact .inr ⟨hf.1,hb,hf.2⟩).kept k45 (by simp)),pn_blank (hbl3 _ g3),hcs c hc i e⟩⟩
 refine ⟨by simp only [World.cell?,h5.box];rfl,(tree_any h5.blank hU5 (fun x hx=>by simp [uf,Value.ownBlock] at hx;subst hx;exact hub) t hT5 (fun n e=>by subst e;have:=level_le n.2 h.tree.2.1 h.tree.2.2 (by show (its n.2).length≤500;have:(itsT (some n)).length=(its n.2).length:=rfl;omega);omega) h.up h.sz cs hne a4 cs.length c4 rfl hC5 (fun g hg=>by rw [←e4] at hg;simp [uf,Value.ownBlock];have:=(hv4 g hg).2;omega) hcs5 (by omega) (by have:=nmsT_le h.tree (by omega);simp;omega)).mono ?_⟩
 rintro e w6 ⟨vl6,dl,t',rfl,hT',hits,hperm',hU',k6,hN6,hadr⟩
 obtain ⟨pp,hpp⟩:=ptrT_form t'
 have k56:Kept [] w w6:=kw5.trans k6 (fun b hb=>.inr (by simp [uf,Value.ownBlock] at hb;subst hb;exact kw4.size))
 have hz6:=k6.size
 have hl':(itsT t').length≤500:=by rw [hits];exact hn3
 have hB:blT ρ t'≤1460:=blT_le hT' hl' (by rw [hits];exact hcost)
 have hsz':Sized (itsT t'):=by rw [hits];exact sized_mrg hcs5 h.sz
 have hup':Up (itsT t'):=by rw [hits];exact up_mrg cs _ hup hok h.up
 have h6:=h.kept k56
 have hvl6:∀g,vl6.ownBlock=some g→w5.heap.size≤g∧g<w6.heap.size:=fun g hg=>⟨by
  rcases hN6 g hg with h1|h1
  ·simp [Value.ownBlock] at h1
  ·exact h1,hU'.own.lt hg⟩
 have hfew:=h.sy.ok.few
 have har:=h.sy.ok.area
 have hnb:=h.sy.ok.nb
 refine ⟨pp,blT ρ t',fl.length,by rw [hpp],by omega,by omega,Hid.mk fun W kW=>?_,Hid.mk fun W kW=>?_,Hid.mk fun W kW=>?_,fun w7 k7=>?_⟩
 ·have:=(h6.kept kW).box
  simp only [World.cell?,this]
  rfl
 ·rw [←hpp]
  cases t' with
  | none=>exact blk_nil W
  | some n=>exact nblocks_any n.2 (hT'.1.kept kW (by simp)) hT'.2.1 hsz' (by show bl ρ n.2≤1000000;have:blT ρ (some n)=bl ρ n.2:=rfl;omega)
 ·refine (psy_free (h6.kept kW).sy).mono ?_
  rintro e w' ⟨v',ns,rfl,ho',hri,k',hf'⟩
  obtain ⟨a',c',rfl,_⟩:=ho'.form
  exact ⟨a',c',by rw [hri.1.length_eq],k'⟩
 ·have kw7:=k56.trans k7 (by simp)
  have hz7:=k7.size
  by_cases hfull:fl.length<blT ρ t'
  ·exact .inl ⟨hfull,.inr ⟨hw,.inr (.inl ⟨rfl,⟨w6,_,ρ,t',hT',by rw [hits];exact hmr,hfull⟩,kw7⟩)⟩⟩
  refine .inr ⟨hfull,?_⟩
  have h7:=h.kept kw7
  have hUb7:w7.heap[w4.heap.size]?=some (.cells #[vl6] 89 (0,0)):=k7.keeps hU'.box (by simp)
  have hUo7:OwnsI w7 vl6 dl:=by have:=hU'.own.kept k7 (by simp);rwa [List.nil_append] at this
  have hdl:dl.length≤1060:=by
   have h1:=hperm'.length_eq
   have h2:=nmsT_le h.tree (by omega)
   rw [List.length_append] at h1
   omega
  obtain ⟨T6,hT6⟩:∃T6:Nat→Prop,T6=fun b=>Fw F5 w5 [vl6] b∧b<w7.heap.size:=⟨_,rfl⟩
  have hF5w:∀b,F5 b→(T b∨w3.heap.size≤b)∧b<w4.heap.size:=fun b hb=>by
   rw [hF5] at hb
   rcases hb with hb|hb
   ·exact ⟨.inl hb,by have:=hTlt b hb;have:=kw4.size;omega⟩
   ·exact ⟨.inr hb.1,hb.2.1⟩
  have hlow:∀b,(b=tb∨vo.ownBlock=some b∨V b)→b<w.heap.size:=fun b hb=>h.lt b (.inr hb)
  have hT6w:∀b,T6 b→T b∨w3.heap.size≤b:=fun b hb=>by
   rw [hT6] at hb
   rcases hb.1.1 with h1|h1
   ·exact (hF5w b h1).1
   ·exact .inr (by omega)
  have htz:∀b,T6 b→¬(b=tb∨vo.ownBlock=some b∨V b∨b=w4.heap.size∨vl6.ownBlock=some b):=fun b hb hz=>by
   have h0:=hb
   rw [hT6] at h0
   have hz4:=kw4.size
   rcases hz with hz|hz|hz|hz|hz
   ·rcases hT6w b hb with h1|h1
    ·exact (h.tt b h1).1 hz
    ·have:=hlow b (.inl hz);omega
   ·rcases hT6w b hb with h1|h1
    ·exact (h.tt b h1).2.1 hz
    ·have:=hlow b (.inr (.inl hz));omega
   ·rcases hT6w b hb with h1|h1
    ·exact (h.tt b h1).2.2 hz
    ·have:=hlow b (.inr (.inr hz));omega
   ·subst hz
    rcases h0.1.1 with h1|h1
    ·exact hub h1
    ·omega
   ·exact h0.1.2 vl6 (by simp) hz
  have hlt7:∀b,T6 b∨(b=tb∨vo.ownBlock=some b∨V b∨b=w4.heap.size∨vl6.ownBlock=some b)→b<w7.heap.size:=fun b hb=>by
   have hz4:=kw4.size
   rcases hb with hb|hb|hb|hb|hb|hb
   ·rw [hT6] at hb;exact hb.2
   ·have:=hlow b (.inl hb);omega
   ·have:=hlow b (.inr (.inl hb));omega
   ·have:=hlow b (.inr (.inr hb));omega
   ·omega
   ·have:=(hvl6 b hb).2;omega
  have hnew:∀b,T6 b∨(b=tb∨vo.ownBlock=some b∨V b∨b=w4.heap.size∨vl6.ownBlock=some b)→w.heap.size≤b∨(T b∨b=tb∨vo.ownBlock=some b∨V b):=fun b hb=>by
   have hz4:=kw4.size
   rcases hb with hb|hb|hb|hb|hb|hb
   ·rcases hT6w b hb with h1|h1
    ·exact .inr (.inl h1)
    ·exact .inl (by omega)
   ·exact .inr (.inr (.inl hb))
   ·exact .inr (.inr (.inr (.inl hb)))
   ·exact .inr (.inr (.inr (.inr hb)))
   ·exact .inl (by omega)
   ·have:=(hvl6 b hb).1;exact .inl (by omega)
  have hge7:∀b,T6 b∨(b=tb∨vo.ownBlock=some b∨V b∨b=w4.heap.size∨vl6.ownBlock=some b)→w0.heap.size≤b:=fun b hb=>by
   rcases hnew b hb with h1|h1
   ·exact Nat.le_trans h.sy.k.size h1
   ·exact h.ge b h1
  have hsy7:SyP w0 w7 q p s fr ct L fl (fun b=>T6 b∨(b=tb∨vo.ownBlock=some b∨V b∨b=w4.heap.size∨vl6.ownBlock=some b)):=(h.sy.more (Y:=fun b=>w.heap.size≤b) kw7 (fun y hy=>hy)).less hnew
  have hT7:IsT w7 T6 ρ t':=(hT'.kept k7 (by simp)).monoS fun b hb hf=>by rw [hT6];exact ⟨hf,hb⟩
  have hT7o:IsT w7 T6 ρ t:=h7.tree.monoS fun b hb hf=>by
   rw [hT6]
   refine ⟨⟨.inl (by rw [hF5];exact .inl hf),fun u hu e=>?_⟩,hb⟩
   simp at hu
   subst hu
   have:=(hvl6 b e).1
   have:=hTlt b hf
   have:=kw4.size
   omega
  have hbl7:=h.blank.kept kw7
  have hold7:∀y∈old++dl,y≤1000000:=fun y hy=>by
   rcases List.mem_append.1 hy with hy|hy
   ·exact h.olds y hy
   ·have h1:y∈nmsT ρ t:=hperm'.mem_iff.2 (List.mem_append_right _ hy)
    exact nmsT_ok h.ok h1
  have hut:w4.heap.size≠tb:=fun e=>by have:=hlow tb (.inl rfl);have:=kw4.size;omega
  have hlt2:vl6.ownBlock≠some tb:=fun e=>by have:=(hvl6 tb e).1;have:=hlow tb (.inl rfl);have:=kw4.size;omega
  rw [←hpp]
  cases t' with
  | none =>
   refine (tlay_nil p w7).mono ?_
   rintro e w8 ⟨rfl,rfl⟩
   refine ⟨0,rfl,.inr ⟨rfl,?_⟩⟩
   obtain ⟨an,ln,cn,w9,e1,e2,e3,e4',e5⟩:=apply_end (t':=none) rfl h7.box h7.own hUb7 hUo7 hT7 hup' hsz' hsy7 hlt7 hge7 htz h.tv hut hlt2 hbl7 h.ok hold7 (fun n e=>by cases e) h.fr1 (by omega)
   refine ⟨vl6,an,ln,cn,w9,h7.box,e1,e2,e3,.inr ⟨hw,.inl ⟨rfl,ρ,none,old++dl,s,L,fl,e4',(KP.of kw7).trans e5,by rw [hits];exact hmr,by have:=len_mrg' (itsT t) cs;rw [hits];omega,by rw [List.length_append];omega,by omega,hd,fun _=>rfl⟩⟩⟩
  | some n =>
   have hblk:blT ρ (some n)=bl ρ n.2:=rfl
   have had:=hadr n rfl
   have hlev:=level_le n.2 hT7.2.1 hT7.2.2 hl'
   have h0:(ρ (adr n.2)).1=0:=by rw [h.blank _ (by have:=kw4.size;omega)]
   refine (tlay_any (g:=False) (κ:=⟨fun _=>0,fun _=>False,fun _=>False⟩) (T:=T6) (Z:=fun b=>b=tb∨vo.ownBlock=some b∨V b∨b=w4.heap.size∨vl6.ownBlock=some b) hsy7 hlt7 hge7 htz h.ok (fun hg=>hg.elim) h.fr1 hT7.1 (by omega) hT7.2.1 hsz' (by omega) (by omega) (by omega) hd h0 (fun hg=>hg.elim)).mono ?_
   rintro e w8 ⟨er,rfl,ρ8,s8,L8,fl8,g1,g2,g3,g4,g5,g6,g7,g8,g9,g10,g11⟩
   refine ⟨er,rfl,?_⟩
   obtain ⟨S,k8,hS⟩:=id g7
   have hz8:=k8.size
   have hbox8:=k8.keeps h7.box (hS tb (.inl rfl))
   have hvo8:=h7.own.kept k8 (fun x hx=>hS x (.inr (.inl hx)))
   have hlt8:∀b,T6 b∨(b=tb∨vo.ownBlock=some b∨V b∨b=w4.heap.size∨vl6.ownBlock=some b)→b<w8.heap.size:=fun b hb=>Nat.lt_of_lt_of_le (hlt7 b hb) hz8
   have hbl8:Blank ρ8 w8:=fun b hb=>by
    rw [g6 b (fun hm=>by have:=blks_lt hT7.1 hm;omega)]
    exact hbl7 b (by omega)
   have hKV:KP V w w8:=(KP.of kw7).trans ⟨S,k8,fun x hx=>hS x (.inr (.inr (.inl hx)))⟩
   rcases g11 with ⟨rfl,d1,d2,d3,E,m,vs,d4,d5,d6,d7,d8⟩|⟨rfl,d1,d2⟩
   ·refine .inr ⟨rfl,?_⟩
    obtain ⟨an,ln,cn,w9,e1,e2,e3,e4',e5⟩:=apply_end (t':=some n) rfl hbox8 hvo8 (k8.keeps hUb7 (hS _ (.inr (.inr (.inr (.inl rfl)))))) (hUo7.kept k8 (fun x hx=>hS x (.inr (.inr (.inr (.inr hx)))))) ⟨g3 hT7.1,hT7.2⟩ hup' hsz' g1 hlt8 hge7 htz h.tv hut hlt2 hbl8 g2 hold7 (fun n' e=>by injection e with e;subst e;exact d2) h.fr1 (by omega)
    refine ⟨vl6,an,ln,cn,w9,hbox8,e1,e2,e3,.inr ⟨hw,.inl ⟨rfl,ρ8,some n,old++dl,s8,L8,fl8,e4',hKV.trans e5,by rw [hits];exact hmr,by have:=len_mrg' (itsT t) cs;rw [hits];omega,by rw [List.length_append];omega,by omega,d1,fun hf=>(g10 hf).1⟩⟩⟩
   ·refine .inl ⟨rfl,.inr ⟨hw,.inr (.inr ⟨rfl,?_,ρ8,s8,fl8,⟨T6,vo,?_⟩,?_,hKV,d1⟩)⟩⟩
    ·refine Int.not_lt.1 fun hf=>?_
     have:=(g10 hf).2
     rw [d1,hd] at this
     cases this
    ·have hT8o:IsT w8 T6 ρ8 t:=by
      cases t with
      | none=>trivial
      | some m=>exact ⟨g3 hT7o.1,hT7o.2⟩
     rw [d2] at g1
     exact ⟨hbox8,hvo8,hT8o,h.up,h.sz,g1.less (fun b hb=>by
      rcases hb with hb|hb|hb|hb
      ·exact .inl hb
      ·exact .inr (.inl hb)
      ·exact .inr (.inr (.inl hb))
      ·exact .inr (.inr (.inr (.inl hb)))),fun b hb=>hlt8 b (by
      rcases hb with hb|hb|hb|hb
      ·exact .inl hb
      ·exact .inr (.inl hb)
      ·exact .inr (.inr (.inl hb))
      ·exact .inr (.inr (.inr (.inl hb)))),fun b hb=>hge7 b (by
      rcases hb with hb|hb|hb|hb
      ·exact .inl hb
      ·exact .inr (.inl hb)
      ·exact .inr (.inr (.inl hb))
      ·exact .inr (.inr (.inr (.inl hb)))),fun b hb=>⟨fun e=>htz b hb (.inl e),fun e=>htz b hb (.inr (.inl e)),fun e=>htz b hb (.inr (.inr (.inl e)))⟩,h.tv,hbl8,g2,h.olds,fun m e=>g5.put (h.root m e),h.fr1⟩
    ·cases t with
     | none=>rfl
     | some m =>
      show (ρ8 (adr m.2)).1=(ρ (adr m.2)).1
      rw [g5 _ (h.root m rfl)]
theorem apply_all (h:Tre w0 w tb p q V ρ t old s fr ct L fl) {v:Value}{rs:List Cq} (hr:RowQ w v rs) (hv:ValsQ w rs) (hn:(itsT t).length≤500) (hn2:rs.length≤2000) (hcost:WrongIs (rs.map Cq.c) 0→∀is:List Itm,is.map kv=tapp ((itsT t).map kv) (rs.map Cq.c)→is.length≤500∧(is.map cst).sum≤900) (hold:old.length≤90000) (hws:s.ws.length≤88000) (hd:s.down=false) :
  Calls Tryz.prog 14 #[Pp tb,v] w fun e w'=>∃er:Int,e=.returned (.int .i64 er)∧Applied w0 w tb p q V ρ t old s fr ct L fl (rs.map Cq.c) er w':=by
 have hTre:=h
 obtain ⟨T,vo,h⟩:=h
 refine apply_walk (P:=ptrT t) (vo:=vo) (p:=p) ((cloneQ hr (by omega)).mono ?_)
 rintro e w1 ⟨v1,rfl,ho1,k1,hf1⟩
 refine ⟨v1,rfl,(sortQ_any ho1 (by omega)).mono ?_⟩
 rintro e w2 ⟨rfl,l,hperm,hsorted,hr2,k2⟩
 have kw2:Kept [] w w2:=k1.trans k2 (fun b hb=>.inr (hf1 b (by simpa using hb)))
 have hlen:l.length=rs.length:=hperm.length_eq
 obtain ⟨a1,c1,rfl,hc1,hc2⟩:=hr2.form
 refine ⟨rfl,(asked_any hr2 (Hid.mk rfl) (by omega) (Hid.mk hsorted)).mono ?_⟩
 rintro e w3 ⟨er,rfl,hw,k3⟩
 have hw':WrongIs (rs.map Cq.c) er:=hw.perm (hperm.map Cq.c)
 have kw3:=kw2.trans k3 (by simp)
 refine ⟨er,rfl,?_⟩
 by_cases her:er=0
 ·subst her
  refine .inr ⟨rfl,?_⟩
  have hz:=hw'.zero
  have hzl:=hw.zero
  have hup:=lt_of_sorted hsorted hzl.1
  have h3:=h.kept kw3
  have hrow3:=hr2.kept k3 (by simp)
  have hval3:ValsQ w3 l:=fun x hx=>(hv x (hperm.mem_iff.1 hx)).kept kw3 (by simp)
  have c3:w3.cell? ⟨tb,1,none⟩=some (ptrT t):=by simp only [World.cell?,h3.box];rfl
  refine (changes_any c3 (Hid.mk h3.tree) (Hid.mk h3.up) (Hid.mk h3.sz) (Hid.mk h3.blank) hrow3 (Hid.mk rfl) (by omega) (Hid.mk hval3) (Hid.mk fun x hx=>⟨(hzl.2 x.c (List.mem_map_of_mem hx)).2.1,(hzl.2 x.c (List.mem_map_of_mem hx)).2.2⟩) (Hid.mk fun key W hk=>cloneS_any key W hk)).mono ?_
  rintro e w4 ⟨v4,cs,rfl,hA⟩
  obtain ⟨a4,c4,e4,hc4,hc4'⟩:=hA.own.form
  rw [CC_length] at e4 hc4
  obtain ⟨hd1,hd2,hd3⟩:=hA.done (Nat.le_refl _) hup
  have hmr:(mrg (itsT t) cs).map kv=tapp ((itsT t).map kv) (rs.map Cq.c):=mrg_tapp h.up (hperm.symm.map Cq.c) hz.1 hd2 hd3 hd1
  have kw4:=kw3.trans hA.kept (by simp)
  have hcl:=hA.len
  refine ⟨a4,cs.length,c4,by rw [e4],by omega,?_⟩
  by_cases hm0:cs.length=0
  ·refine .inl ⟨hm0,.inr ⟨hw',.inl ⟨rfl,ρ,t,old,s,L,fl,hTre.kept kw4,KP.of kw4,?_,by omega,by omega,by omega,hd,fun _=>rfl⟩⟩⟩
   have:cs=[]:=List.eq_nil_of_length_eq_zero hm0
   rw [this] at hmr
   exact hmr
  ·have hne:cs≠[]:=fun e=>hm0 (by rw [e];rfl)
   have hcs:∀c∈cs,∀i,c.2=some i→1≤i.key.length∧i.key.length≤64∧i.val.length≤20000:=fun c hc i e=>by
    have h1:chV c∈cs.map chV:=List.mem_map_of_mem hc
    rw [hd1] at h1
    obtain ⟨d,hd,he⟩:=List.mem_map.1 h1
    have h2:=hzl.2 d (List.mem_filter.1 hd).1
    unfold asC chV at he
    injection he with he1 he2
    rw [e] at he2
    have hk:i.key=d.key:=by rw [hd3 c hc i e,he1]
    cases hg:d.gone with
    | true=>simp [hg] at he2
    | false =>
     simp [hg] at he2
     rw [hk,←he2]
     exact h2
   have hll:(rs.map Cq.c).length=rs.length:=by simp
   obtain ⟨g1,g2⟩:=apply_tree h kw3 hA e4 hd2 hd3 hw' hcs hmr hn (by omega) (hcost hw' _ hmr).1 (by omega) (hcost hw' _ hmr).2 hold hws hd hne
   exact .inr ⟨hm0,g1,g2⟩
 ·refine .inl ⟨her,.inl ⟨her,hw',kw3⟩⟩
theorem apply_any (h:Tre w0 w tb p q V ρ t old s fr ct L fl) {v:Value}{rs:List Cq} (hr:RowQ w v rs) (hv:ValsQ w rs) (hn:(itsT t).length+rs.length≤500) (hcost:WrongIs (rs.map Cq.c) 0→∀is:List Itm,is.map kv=tapp ((itsT t).map kv) (rs.map Cq.c)→(is.map cst).sum≤900) (hold:old.length≤90000) (hws:s.ws.length≤88000) (hd:s.down=false) :
  Calls Tryz.prog 14 #[Pp tb,v] w fun e w'=>∃er:Int,e=.returned (.int .i64 er)∧Applied w0 w tb p q V ρ t old s fr ct L fl (rs.map Cq.c) er w' :=
 apply_all h hr hv (by omega) (by omega) (fun hw is his=>⟨by
  have h1:=tapp_len (rs.map Cq.c) ((itsT t).map kv)
  rw [←his,List.length_map,List.length_map,List.length_map] at h1
  omega,hcost hw is his⟩) hold hws hd
end
end Go.Proofs.YtgpbhlfdlkemjaaGreat
