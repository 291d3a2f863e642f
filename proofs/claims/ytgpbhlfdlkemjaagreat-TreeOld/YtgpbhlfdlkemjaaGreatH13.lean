import Derived.Maps.RangeWalk
import Derived.Test.YtgpbhlfdlkemjaaGreatH12
/-
 unused: the area's blocks that no text uses.
-/
namespace Go.Proofs.YtgpbhlfdlkemjaaGreat
open Go.RowKit
set_option linter.unusedVariables false
def Mk (w:World) (b n:Nat) (f:Nat→Bool):Prop:=w.heap[b]?=some (.cells ((List.range n).map fun j=>Value.bool (f j)).toArray 4 (0,0))
theorem Mk.kept {S:List Nat}{w w':World}{b n:Nat}{f:Nat→Bool} (h:Mk w b n f) (k:Kept S w w') (hn:b∉S):Mk w' b n f:=k.keeps h hn
theorem Mk.cell {w:World}{b n:Nat}{f:Nat→Bool} (h:Mk w b n f) (j:Nat) (hj:j<n):w.cell? ⟨b,j,none⟩=some (.bool (f j)):=by
 unfold Mk at h
 simp [World.cell?,h,hj]
theorem Mk.free {w:World}{b n:Nat}{f:Nat→Bool} (h:Mk w b n f) (j:Nat):w.frozen? ⟨b,j,none⟩=false:=by
 unfold Mk at h
 simp [World.frozen?,h]
theorem Mk.set {w:World}{b n:Nat}{f:Nat→Bool} (h:Mk w b n f) (j:Nat):Mk (w.setCell ⟨b,j,none⟩ (.bool true)) b n (fun i=>f i || i == j)∧Kept [b] w (w.setCell ⟨b,j,none⟩ (.bool true)):=by
 refine ⟨?_,(Kept.refl [b] w).setCell (.inl (by simp)) _⟩
 unfold Mk
 rw [heap_setCell_same w b j _ 4 _ h]
 congr 2
 apply Array.toList_inj.1
 simp only [Array.toList_setIfInBounds]
 apply List.ext_getElem?
 intro i
 rw [List.getElem?_set]
 by_cases hi:i<n
 ·by_cases hj:j=i
  ·subst hj
   simp [hi]
  ·have:¬i=j:=fun e=>hj e.symm
   simp [hj,hi,this]
 ·by_cases hj:j=i
  ·subst hj
   simp [hi]
  ·simp [hj,hi]
theorem Mk.congr {w:World}{b n:Nat}{f g:Nat→Bool} (h:Mk w b n f) (he:∀j,j<n→f j=g j):Mk w b n g:=by
 unfold Mk at *
 rw [h]
 congr 3
 apply List.map_congr_left
 intro j hj
 rw [he j (List.mem_range.1 hj)]
theorem inf4:(Tryz.prog.info? 4).map (fun i=>(i.zero,i.size,i.bytes))=some (some (.bool false),1,1):=by kernel_rfl
theorem make_marks (n:Nat) (hn:n≤65536) (W:World):(Instr.makeSlice 124 (.int .i64 (n:Int)) (.int .i64 (n:Int))).run Tryz.prog W=.ok (.slice (some ⟨W.heap.size,0,none⟩) n n) (W.alloc (.cells ((List.range n).map fun _=>Value.bool false).toArray 4)):=by
 obtain ⟨i0,hi,hz0,hz1,hz2⟩:=info_parts inf4
 have h:=run_make (P:=Tryz.prog) W 124 4 i0 _ Tryz.underlying124 hi hz0 .i64 .i64 (n:Int) (n:Int) (by omega) (by omega) (by rw [hz2];omega) (by omega)
 have e9:(n:Int).toNat=n:=by omega
 rw [h,e9]
 have e:madeCells (Value.bool false).cells (n*i0.size)=((List.range n).map fun _=>Value.bool false).toArray:=by
  rw [hz1]
  apply Array.toList_inj.1
  rw [show (Value.bool false).cells=#[.bool false] from rfl,toList_madeCells_one,Nat.mul_one]
  apply List.ext_getElem (by simp)
  intro i h1 h2
  simp
 rw [e]
def unmarked (fr n:Nat) (f:Nat→Bool):List Nat:=((List.range n).filter fun j=>!f j).map fun j=>fr+j
theorem unmarked_succ (fr n:Nat) (f:Nat→Bool):unmarked fr (n+1) f=if f n=true then unmarked fr n f else unmarked fr n f++[fr+n]:=by
 unfold unmarked
 rw [List.range_succ,List.filter_append]
 cases h:f n<;>simp [h]
theorem unmarked_len (fr n:Nat) (f:Nat→Bool):(unmarked fr n f).length≤n:=by
 unfold unmarked
 rw [List.length_map]
 have:=List.length_filter_le (fun j=>!f j) (List.range n)
 simpa using this
def marks (fr:Nat) (T:List (Nat × List Nat)) (left:Lit→Bool) (j:Nat):Bool:=T.any fun x=>!left (kl (x.1:Int)) && x.2.contains (fr+j)
theorem ranges_keep {S:List Nat}{w w':World}{b r n:Nat}{D:DataW Value}{left:Lit→Bool}{cnt:Nat} (h:w.ranges Tryz.prog 3 RV b r n D left cnt) (k:Kept S w w') (hb:b∉S) (hr:r∉S):w'.ranges Tryz.prog 3 RV b r n D left cnt:=by
 obtain ⟨es,clock,since,seen,c0,h1,h2,h3,h4,h5,h6⟩:=h
 exact ⟨es,clock,since,seen,c0,k.keeps h1 hb,h2,h3,h4,k.keeps h5 hr,h6⟩
def freeOf (fr ct:Nat) (T:List (Nat × List Nat)):List Nat:=unmarked fr ct fun j=>T.any fun x=>x.2.contains (fr+j)
theorem marks_start (fr:Nat) (T:List (Nat × List Nat)) (left:Lit→Bool) (h:∀x∈T,left (kl (x.1:Int))=true) (j:Nat):marks fr T left j=false:=by
 unfold marks
 rw [List.any_eq_false]
 intro x hx
 simp [h x hx]
theorem marks_end (fr:Nat) (T:List (Nat × List Nat)) (left:Lit→Bool) (h:∀z,left z=false) (j:Nat):marks fr T left j=T.any fun x=>x.2.contains (fr+j):=by
 unfold marks
 simp [h]
theorem marks_step (fr:Nat) (T:List (Nat × List Nat)) (left:Lit→Bool) (nm:Nat) (bs:List Nat) (hT:(nm,bs)∈T) (hn:(T.map (·.1)).Nodup) (j:Nat):marks fr T (fun z=>left z && !z.sameKey (kl (nm:Int))) j=(marks fr T left j || bs.contains (fr+j)):=by
 have hu:∀x∈T,x.1=nm→x=(nm,bs):=fun x hx he=>by
  induction T with
  | nil=>simp at hx
  | cons y t ih =>
   simp only [List.map_cons,List.nodup_cons] at hn
   rcases List.mem_cons.1 hx with rfl|hx2
   ·rcases List.mem_cons.1 hT with h|h
    ·exact h.symm
    ·exact absurd (List.mem_map.2 ⟨_,h,he.symm⟩) hn.1
   ·rcases List.mem_cons.1 hT with h|h
    ·subst h
     exact absurd (List.mem_map.2 ⟨x,hx2,he⟩) hn.1
    ·exact ih h hn.2 hx2
 rw [Bool.eq_iff_iff]
 unfold marks
 simp only [List.any_eq_true,Bool.or_eq_true,Bool.and_eq_true,Bool.not_eq_true']
 constructor
 ·rintro ⟨x,hx,h1,h2⟩
  by_cases he:x.1=nm
  ·have:=hu x hx he
   subst this
   exact .inr h2
  ·refine .inl ⟨x,hx,?_,h2⟩
   have hs:(kl (x.1:Int)).sameKey (kl (nm:Int))=false:=Maps.sameKey_ne (by simp [kl];omega)
   rw [hs] at h1
   simpa using h1
 ·rintro (⟨x,hx,h1,h2⟩|h)
  ·exact ⟨x,hx,by simp [h1],h2⟩
  ·exact ⟨(nm,bs),hT,by simp [kl,Lit.sameKey],h⟩
set_option maxRecDepth 100000 in
set_option maxHeartbeats 1000000 in
theorem un_any {w:World}{G:List Nat}{p q fr ct:Nat}{T:List (Nat × List Nat)}{fl:List Nat} (hP:IsP w G p q fr ct T fl) (hct:ct≤65536) (hfr:fr≤65536) (hin:∀x∈T,∀b∈x.2,fr≤b∧b<fr+ct) (hbl:∀x∈T,x.2.length≤65536) :
  Calls Tryz.prog 37 #[.pointer (some ⟨p,0,none⟩)] w fun e w'=>∃v,e=.returned v∧OwnsI w' v (freeOf fr ct T)∧Kept [] w w'∧Fresh w v:=by
 obtain ⟨FL,hFL⟩:∃FL,Hid (freeOf fr ct T=FL):=⟨_,rfl⟩
 rw [hFL.out]
 obtain ⟨mb,M,c3,hM,hTM,hR,hmG⟩:=hP.map
 obtain ⟨c0,c1,c2⟩:=hP.cells
 have hplt:p<w.heap.size:=hP.lt p hP.pG
 have hmlt:mb<w.heap.size:=hM.lt
 have hmk:=make_marks ct hct
 have k1:=kept_alloc w (.cells ((List.range ct).map fun _=>Value.bool false).toArray 4)
 have hM1:Mk (w.alloc (.cells ((List.range ct).map fun _=>Value.bool false).toArray 4)) w.heap.size ct (fun _=>false):=heap_alloc_new w _
 have hMm:=hM.kept k1 (by simp)
 obtain ⟨D,hown,hhas,hat,hkey⟩:=hMm.own
 obtain ⟨w2,hrange,hrg,hg2,hs2⟩:=hown.range law3 Tryz.underlying63
 rw [World.size_alloc] at hrange hrg hs2
 have k2:Kept [] (w.alloc (.cells ((List.range ct).map fun _=>Value.bool false).toArray 4)) w2:=(Kept.refl [] _).grown hg2 (fun x hx=>by cases hx)
 have kk2:=k1.trans k2 (by simp)
 have hM2:=hM1.kept k2 (by simp)
 have c31:(w.alloc (.cells ((List.range ct).map fun _=>Value.bool false).toArray 4)).cell? ⟨p,3,none⟩=some (.map (some mb)):=by rw [k1.cell hplt (by simp)];exact c3
 go_enter Tryz.func37,Tryz.ntmps37
 go_wp2_with fail
 generalize hw1:w.alloc (.cells ((List.range ct).map fun _=>Value.bool false).toArray 4)=w1 at k1 hM1 hMm hown hrange hg2 k2 c31
 obtain ⟨ub,hub⟩:∃ub,Hid (w.heap.size=ub):=⟨_,rfl⟩
 obtain ⟨r,hr⟩:∃r,Hid (w.heap.size+1=r):=⟨_,rfl⟩
 have hru:r≠ub:=by have:=hub.out;have:=hr.out;omega
 have hwu:w.heap.size≤ub:=by have:=hub.out;omega
 rw [hr.out] at hrg ⊢
 rw [hub.out] at hM2 ⊢
 have hMu:mb≠ub:=by have:=hub.out;omega
 have hst:=hM2.congr (g:=marks fr T (Maps.has D)) (fun j _=>(marks_start fr T _ (fun x hx=>by
  rw [hhas]
  rw [hTM] at hx
  obtain ⟨y,hy,rfl⟩:=List.mem_map.1 hx
  exact List.any_eq_true.2 ⟨entry y,List.mem_map.2 ⟨y,hy,rfl⟩,by simp [entry]⟩) j).symm)
 have hnd:(T.map (·.1)).Nodup:=by
  have:=hMm.nodup
  rw [keys_map] at this
  rw [hTM,List.map_map]
  refine (List.pairwise_map.1 this) |> fun h=>List.pairwise_map.2 (h.imp ?_)
  intro a b hab he
  exact hab (by simp at he;omega)
 have HTM:=Hid.mk hTM
 clear hTM
 clear hrange hown hg2 hs2 k2 c31 hM1 hM2 hMm hw1 k1 hmk c0
 go_loopw [21] (fun _ wr=>∃left cnt,wr.ranges Tryz.prog 3 RV mb r (M.map entry).length D left cnt∧Mk wr ub ct (marks fr T left)∧Kept [] w wr) (fun _ wr=>wr.rangeLeft mb r)
 case atStart=>exact ⟨_,_,hrg,hst,kk2⟩
 case round =>
  clear hrg hst kk2
  obtain ⟨left,cnt,hrg,hMk,kk⟩:=hrel
  have hPr:=hP.kept kk (by simp)
  obtain ⟨-,d1,d2⟩:=hPr.cells
  rcases hrg.next law3 0 with ⟨hz0,hl,hrun⟩|⟨key,v,kl0,y,w',cnt',hkey,hlk,hv,hat',hrun,hrg',hlt,hgr,hsz,hen⟩
  ·have hMe:=hMk.congr (g:=fun j=>T.any fun x=>x.2.contains (fr+j)) (fun j _=>marks_end fr T left hl j)
   have hFL2:Hid (unmarked fr ct (fun j=>T.any fun x=>x.2.contains (fr+j))=FL):=hFL.out
   generalize (fun j=>T.any fun x=>x.2.contains (fr+j))=f at hMe hFL2
   clear hrg hMk hl hPr
   go_wp2_with fail
   clear hrun
   go_loopw [8,42] (fun v i wr2=>∃k:Nat,k≤ct∧i=.int .i64 (k:Int)∧OwnsI wr2 v (unmarked fr k f)∧Fresh w v∧Kept [] w wr2∧Mk wr2 ub ct f) (fun _ i _=>ct-(numOf i).toNat)
   case atStart=>exact ⟨0,Nat.zero_le _,rfl,OwnsI.nil wr,by intro g hg;simp [Value.ownBlock] at hg,kk,hMe⟩
   case round =>
    clear kk hMe d1 d2
    obtain ⟨k,hk,rfl,hO,hF,kk,hMe⟩:=hrel
    have hPr:=hP.kept kk (by simp)
    obtain ⟨-,d1,d2⟩:=hPr.cells
    obtain ⟨av,cv,rfl,-⟩:=id hO.form
    by_cases hlt:k<ct
    ·have hki:(k:Int)<(ct:Int):=by omega
     have hck:=hMe.cell k hlt
     have hsu:=unmarked_succ fr k f
     have hul:=unmarked_len fr k f
     cases hfk:f k with
     | true =>
      rw [hfk] at hck hsu
      rw [if_pos rfl] at hsu
      have hO':OwnsI wr (.slice av (unmarked fr k f).length cv) (unmarked fr (k+1) f):=by rw [hsu];exact hO
      have Hf:=Hid.mk (And.intro hO' (And.intro hF (And.intro kk hMe)))
      clear hO'
      generalize (unmarked fr k f).length=L at Hf hul ⊢
      clear hO hF kk hMe hPr hsu hfk
      go_wp2
      go_roundw
      case rel=>exact ⟨k+1,by omega,by go_num,Hf.out⟩
      case measure=>simp [numOf];omega
     | false =>
      rw [hfk] at hck hsu
      rw [if_neg (by simp)] at hsu
      obtain ⟨ad,c,w3,hrun3,hO3,k3,hN3⟩:=append_int hO (fr+k) (by omega)
      rw [←hsu] at hO3
      have hux:(Value.slice av (unmarked fr k f).length cv).ownBlock≠some ub:=row_ne hO hMe (by decide)
      have hM3:=hMe.kept k3 (by rw [Option.mem_toList];exact hux)
      have kk3:Kept [] w w3:=kk.trans k3 (fun x hx=>.inr (hF x (by rw [Option.mem_toList] at hx;exact hx)))
      have hF3:Fresh w (.slice ad ((unmarked fr k f).length+1) c):=fun g hg=>by
       rcases hN3 g hg with h|h
       ·exact hF g h
       ·have:=kk.size;omega
      have Hf:=Hid.mk (And.intro hO3 (And.intro hF3 (And.intro kk3 hM3)))
      rw [Int.natCast_add] at hrun3
      generalize (unmarked fr k f).length=L at Hf hul hrun3 ⊢
      clear hO hF kk hMe hPr hO3 hF3 kk3 hM3 k3 hN3 hux hsu hfk
      go_wp2_with (at_builtin;refine wpList_append_run 41 (.tmp 49) (.tmp 56) rfl rfl _ _ rfl rfl _ _ hrun3 ?_)
      go_roundw
      case rel=>exact ⟨k+1,by omega,by go_num,Hf.out⟩
      case measure=>simp [numOf];omega
    ·obtain rfl:k=ct:=by omega
     have hni:¬(k:Int)<(k:Int):=by omega
     have hO2:OwnsI wr (.slice av (unmarked fr k f).length cv) FL:=by rw [←hFL2.out];exact hO
     have Hf:=Hid.mk (And.intro hO2 (And.intro kk hF))
     clear hO2
     generalize (unmarked fr k f).length=L at Hf ⊢
     clear hO hF kk hMe hPr
     go_wp2
     go_ret
     exact ⟨.slice av L cv,rfl,Hf.out⟩
  ·obtain ⟨k0,rfl,rfl,hwf⟩:=Maps.keyOf_int_inv Tryz.underlying3 hkey
   have hh:Maps.has D (.int .i64 k0)=true:=Maps.has_true_of_atKey hat'
   have hh2:=hhas k0
   rw [show kl k0=Lit.int .i64 k0 from rfl,hh] at hh2
   obtain ⟨z,hz,hze⟩:=List.any_eq_true.1 hh2.symm
   obtain ⟨⟨nm,bs,v0⟩,hxM,rfl⟩:=List.mem_map.1 hz
   simp [entry] at hze
   have hav:=hat _ hz (.held v)
   rw [show (entry (nm,bs,v0)).1=k0 from hze] at hav
   rw [show kl k0=Lit.int .i64 k0 from rfl,hat'] at hav
   unfold RV at hv
   simp at hv
   rw [←hv] at hav
   simp [entry] at hav
   subst hav
   subst hze
   have hTm:(nm,bs)∈T:=by rw [HTM.out];exact List.mem_map.2 ⟨_,hxM,rfl⟩
   have hbi:=hin _ hTm
   have hbb:=hbl _ hTm
   simp only at hbi hbb
   have hmst:=fun j=>marks_step fr T left nm bs hTm hnd j
   have kr:Kept [r] wr w':=(Kept.refl [r] wr).grown hgr (fun x hx=>.inl (by simp at hx;simp [hx]))
   have kkr:Kept [] w w':=kk.trans kr (fun x hx=>.inr (by simp at hx;have:=hr.out;omega))
   have hMr:=hMk.kept kr (by simp;omega)
   have hvr:=(hR _ hxM).kept kkr (by simp)
   simp only at hvr
   obtain ⟨a,c,rfl,hcl,-⟩:=id hvr.form
   generalize marks fr T left=f at hMr hmst
   have Hms:=Hid.mk hmst
   have Hlt:=Hid.mk (And.intro hlt hrg.left_eq)
   clear hmst hgr hsz hrg hMk hlk hat' hh hh2 hz hwf hkey hat hhas hlt hPr d1 d2 hv
   go_wp2_with fail
   clear hrun hen
   go_loopw [27] (fun i wr2=>∃k:Nat,k≤bs.length∧i=.int .i64 (k:Int)∧Mk wr2 ub ct (fun j=>f j || (bs.take k).contains (fr+j))∧Kept [ub] w' wr2) (fun i _=>bs.length-(numOf i).toNat)
   case atStart=>exact ⟨0,Nat.zero_le _,rfl,hMr.congr (fun j _=>by simp),Kept.refl _ _⟩
   case round =>
    clear hMr hvr
    obtain ⟨k,hk,rfl,hMk,ku⟩:=hrel
    have kw2:Kept [] w wr:=kkr.trans ku (fun x hx=>.inr (by simp at hx;omega))
    have hPr:=hP.kept kw2 (by simp)
    obtain ⟨-,d1,d2⟩:=hPr.cells
    have hvr:=(hR _ hxM).kept kw2 (by simp)
    simp only at hvr
    by_cases hlt:k<bs.length
    ·have hki:(k:Int)<(bs.length:Int):=by omega
     have hgk:bs[k]?=some (bs.getD k 0):=by rw [List.getD_eq_getElem?_getD,List.getElem?_eq_getElem hlt];rfl
     obtain ⟨gb,ob,cb,hve,hck⟩:=hvr.at k _ hgk
     injection hve with q1 q2 q3
     subst q1 q3
     have hbk:=hbi _ (getD_mem hlt)
     have htk:=take_getD hlt
     obtain ⟨B,hB⟩:∃B,Hid (bs.getD k 0=B):=⟨_,rfl⟩
     rw [hB.out] at hck hbk htk
     obtain ⟨e,he⟩:∃e:Nat,B=fr+e:=⟨B-fr,by omega⟩
     have hei:(B:Int)-(fr:Int)=(e:Int):=by omega
     have hec:e<ct:=by omega
     have hei2:(e:Int)<(ct:Int):=by omega
     have hce:=hMk.cell e hec
     have hfe:=hMk.free e
     obtain ⟨hMs,ks⟩:=hMk.set e
     have hMs2:=hMs.congr (g:=fun j=>f j || (bs.take (k+1)).contains (fr+j)) (fun j _=>by
      rw [htk]
      simp only [List.contains_eq_mem,List.mem_append,List.mem_singleton,Bool.decide_or]
      rw [he,Bool.or_assoc]
      congr 2
      rw [Bool.eq_iff_iff]
      simp)
     have kuu:=ku.trans ks (fun x hx=>.inl hx)
     have Hf:=Hid.mk (And.intro hMs2 kuu)
     have he2:=Hid.mk he
     have htk2:=Hid.mk htk
     clear hMs hMs2 ks kuu hMk ku kw2 hPr hvr he htk hgk
     obtain ⟨L,hL⟩:∃L,Hid (bs.length=L):=⟨_,rfl⟩
     go_wp2
     go_roundw
     case rel=>exact ⟨k+1,by omega,by go_num,Hf.out⟩
     case measure=>simp [numOf];omega
    ·obtain rfl:k=bs.length:=by omega
     have hni:¬(bs.length:Int)<(bs.length:Int):=by omega
     have hM3:=hMk.congr (g:=marks fr T (fun z=>left z && !z.sameKey (kl (nm:Int)))) (fun j _=>by
      rw [Hms.out j,List.take_of_length_le (Nat.le_refl _)])
     have hrg3:=ranges_keep hrg' ku (by simp;exact hMu) (by simp;exact hru)
     have Hf:=Hid.mk (And.intro hrg3 (And.intro hM3 kw2))
     clear hMk ku hM3 hrg3 kw2 hPr hvr d1 d2
     go_wp2
     go_roundw
     case rel=>exact ⟨_,_,Hf.out⟩
     case measure =>
      rw [Hf.out.1.left_eq,Hlt.out.2]
      exact Hlt.out.1
theorem IsP.add {w:World}{G:List Nat}{p q fr ct:Nat}{T:List (Nat × List Nat)}{fl:List Nat} (h:IsP w G p q fr ct T fl) (nm:Nat) (bs:List Nat) (v:Value) (hv:ReadsI w v bs) (hg:∀g,v.ownBlock=some g→g<w.heap.size∧g∉G) (hn:nm∉T.map (·.1)) (hnm:nm<65536) (hT:T.length<100000) :
  ∃mb w3 G',w.cell? ⟨p,3,none⟩=some (.map (some mb))∧(Instr.mapUpdate 63 (.map (some mb)) (.int .i64 (nm:Int)) v).run Tryz.prog w=.ok () w3∧IsP w3 G' p q fr ct (T++[(nm,bs)]) fl∧Kept G w w3∧∀x∈G',x∈G∨v.ownBlock=some x:=by
 obtain ⟨mb,vf,M,rfl,h1,h2,h3,h4,h5,h6,h7,h8⟩:=h
 obtain ⟨w3,hup,hM3,k3⟩:=h2.put v (wf_nat (n:=nm) (by omega)) (by
  rw [keys_map]
  intro hm
  obtain ⟨y,hy,he⟩:=List.mem_map.1 hm
  refine hn ?_
  rw [h3,List.map_map]
  exact List.mem_map.2 ⟨y,hy,by have he':(y.1:Int)=(nm:Int):=he;show y.1=nm;omega⟩) (by rw [List.length_map];rw [h3,List.length_map] at hT;omega)
 have hvg:∀g,v.ownBlock=some g→g<w.heap.size∧g≠p∧g≠mb∧vf.ownBlock≠some g:=fun g hgv=>by
  have:=hg g hgv
  simp only [List.mem_cons,List.mem_append,Option.mem_toList,not_or] at this
  exact ⟨this.1,this.2.1,this.2.2.1,this.2.2.2.1⟩
 refine ⟨mb,w3,p::mb::(vf.ownBlock.toList++obs ((M++[(nm,bs,v)]).map (·.2.2))),by simp [World.cell?,h1],hup,⟨mb,vf,M++[(nm,bs,v)],rfl,k3.keeps h1 (by simp;omega),by rw [List.map_append];exact hM3,by rw [List.map_append,h3];rfl,?_,h5.kept k3 (fun g hg'=>by simp;rintro rfl;exact h8 hg'),h6,h7,h8⟩,k3.mono (fun x hx=>.inl (by simp at hx;simp [hx])),?_⟩
 ·intro x hx
  have key:∀g,x.2.2.ownBlock=some g→g<w.heap.size∧g≠p∧g≠mb∧vf.ownBlock≠some g:=fun g hg'=>by
   rcases List.mem_append.1 hx with hx|hx
   ·exact (h4 x hx).2 g hg'
   ·simp at hx;subst hx;exact hvg g hg'
  have hr:ReadsI w x.2.2 x.2.1:=by
   rcases List.mem_append.1 hx with hx|hx
   ·exact (h4 x hx).1
   ·simp at hx;subst hx;exact hv
  refine ⟨hr.kept k3 (fun g hg'=>by have:=key g hg';simp;omega),fun g hg'=>?_⟩
  have:=key g hg'
  exact ⟨Nat.lt_of_lt_of_le this.1 k3.size,this.2⟩
 ·intro x hx
  simp only [List.mem_cons,List.mem_append,Option.mem_toList,mem_obs,List.mem_map] at hx
  rcases hx with rfl|rfl|hx|⟨y,⟨z,hz,rfl⟩,hy⟩
  ·exact .inl (by simp)
  ·exact .inl (by simp)
  ·exact .inl (by simp [hx])
  ·rcases hz with hz|hz
   ·refine .inl ?_
    simp only [List.mem_cons,List.mem_append,mem_obs,List.mem_map]
    exact .inr (.inr (.inr ⟨_,⟨z,hz,rfl⟩,hy⟩))
   ·simp at hz
    subst hz
    exact .inr hy
section
variable {w:World}{F G:List Nat}{p q fr ct:Nat}{T:List (Nat × List Nat)}{fl:List Nat}{s:St}
set_option maxRecDepth 100000 in
theorem take_twice (hP:IsP w G p q fr ct T fl) (nm:Nat) (bs:List Nat) (hT:(nm,bs)∈T):Calls Tryz.prog 36 #[.pointer (some ⟨p,0,none⟩),.int .i64 (nm:Int)] w fun e w'=>e=.returned (.int .i64 2)∧Kept [] w w':=by
 obtain ⟨mb,M,c3,hM,hTM,hR,-⟩:=hP.map
 obtain ⟨v,hvM,hvm⟩:=IsP.at hTM hT
 have hl:=hM.look hvm
 clear hP hM hR
 go_enter Tryz.func36,Tryz.ntmps36
 go_wp2
 go_ret
 exact ⟨rfl,Kept.refl [] w⟩
set_option maxRecDepth 100000 in
set_option maxHeartbeats 400000 in
theorem take_no (hP:IsP w G p q fr ct T fl) (nm:Nat) (hnm:nm<65536) (hT:nm∉T.map (·.1)) (hrd:Calls Tryz.prog 64 #[.pointer (some ⟨p,0,none⟩),.int .i64 (nm:Int)] w fun e w'=>ReadNo w e w'):Calls Tryz.prog 36 #[.pointer (some ⟨p,0,none⟩),.int .i64 (nm:Int)] w fun e w'=>e=.returned (.int .i64 2)∧Kept [] w w':=by
 obtain ⟨mb,M,c3,hM,hTM,hR,-⟩:=hP.map
 have hl:=hM.look_none (wf_nat (n:=nm) (by omega)) (IsP.noKey hTM (fun x hx e=>hT (List.mem_map.2 ⟨x,hx,by omega⟩)))
 clear hP hM hR
 go_enter Tryz.func36,Tryz.ntmps36
 go_wp2_with fail
 refine hrd.mono ?_
 rintro e w1 ⟨rfl,k1⟩
 go_wp2
 go_ret
 exact ⟨rfl,k1⟩
set_option maxRecDepth 100000 in
set_option maxHeartbeats 1000000 in
theorem take_ok (hD:IsD w F q s) (hP:IsP w G p q fr ct T fl) (hd:s.down=false) (ha:fr+ct≤s.nb) (nm:Nat) (bs:List Nat) (l:List UInt8) (hL:Lies (blk s.ws) nm bs l) (hin:∀x∈bs,fr≤x∧x<fr+ct) (hT:nm∉T.map (·.1)) (hTl:T.length<100000) :
  Calls Tryz.prog 36 #[.pointer (some ⟨p,0,none⟩),.int .i64 (nm:Int)] w fun e w'=>e=.returned (.int .i64 0)∧∃G',IsP w' G' p q fr ct (T++[(nm,bs)]) fl∧Kept G w w'∧NewF w G G':=by
 have hnm:nm<65536:=by
  have:=hL.first
  exact hL.small nm (List.mem_of_mem_head? (by rw [this];rfl))
 obtain ⟨mb,M,c3,hM,hTM,hR,-⟩:=hP.map
 have hl:=hM.look_none (wf_nat (n:=nm) (by omega)) (IsP.noKey hTM (fun x hx e=>hT (List.mem_map.2 ⟨x,hx,by omega⟩)))
 have hrd:=rd_yes hD hP hd ha nm bs l hL hin
 have hbl:0<bs.length:=by rw [hL.len];exact bks_pos _
 have hplt:=hP.lt p hP.pG
 have hGlt:=hP.lt
 clear hM hR hD
 go_enter Tryz.func36,Tryz.ntmps36
 go_wp2_with fail
 refine hrd.mono ?_
 rintro e w1 ⟨v1,v2,rfl,hO1,hO2,k1,hF1,hF2⟩
 obtain ⟨a1,c1,rfl,-⟩:=id hO1.form
 have hP1:=hP.kept k1 (by simp)
 obtain ⟨mb1,w3,G',d3,hup,hP3,k3,hG⟩:=hP1.add nm bs _ hO1.reads (fun g hg=>⟨hO1.lt hg,fun hm=>by have:=hF1 g hg;have:=hGlt g hm;omega⟩) hT hnm hTl
 have Hf:Hid (∃G',IsP w3 G' p q fr ct (T++[(nm,bs)]) fl∧Kept G w w3∧NewF w G G'):=⟨G',hP3,(k1.mono (by simp)).trans k3 (fun x hx=>.inl hx),fun x hx=>by
  rcases hG x hx with h|h
  ·exact .inl h
  ·exact .inr (hF1 x h)⟩
 have hNi:((bs.length:Int) == 0)=false:=by simp;intro h;subst h;simp at hbl
 clear hP hP1 hP3 k3 hG hO1 hO2 hF1 hF2 hrd hl c3
 generalize bs.length=N at hNi hup ⊢
 go_wp2
 go_ret
 exact ⟨rfl,Hf.out⟩
end
theorem IsP.setFree {w:World}{G:List Nat}{p q fr ct:Nat}{T:List (Nat × List Nat)}{fl:List Nat} (h:IsP w G p q fr ct T fl) (v:Value) (fl':List Nat) (hv:FrS w v fl') (hg:∀g,v.ownBlock=some g→g∉G) :
  ∃G',IsP (w.setCell ⟨p,4,none⟩ v) G' p q fr ct T fl'∧Kept [p] w (w.setCell ⟨p,4,none⟩ v)∧(∀x∈G',x∈G∨v.ownBlock=some x)∧∃u,w.cell? ⟨p,4,none⟩=some u:=by
 obtain ⟨mb,vf,M,rfl,h1,h2,h3,h4,h5,h6,h7,h8⟩:=h
 have k:Kept [p] w (w.setCell ⟨p,4,none⟩ v):=(Kept.refl [p] w).setCell (.inl (by simp)) _
 have hvp:v.ownBlock≠some p:=fun e=>hg p e (by simp)
 have hvm:v.ownBlock≠some mb:=fun e=>hg mb e (by simp)
 refine ⟨p::mb::(v.ownBlock.toList++obs (M.map (·.2.2))),⟨mb,v,M,rfl,by rw [heap_setCell_same w p 4 _ 65 _ h1];rfl,h2.kept k (by simp;omega),h3,fun x hx=>⟨(h4 x hx).1.kept k (fun g hg'=>by simp;exact ((h4 x hx).2 g hg').2.1),fun g hg'=>?_⟩,hv.kept k (fun g hg'=>by simp;rintro rfl;exact hvp hg'),h6,hvp,hvm⟩,k,fun x hx=>?_,vf,by simp [World.cell?,h1]⟩
 ·have:=(h4 x hx).2 g hg'
  refine ⟨Nat.lt_of_lt_of_le this.1 k.size,this.2.1,this.2.2.1,fun e=>hg g e ?_⟩
  simp only [List.mem_cons,List.mem_append,mem_obs,List.mem_map]
  exact .inr (.inr (.inr ⟨_,⟨x,hx,rfl⟩,hg'⟩))
 ·simp only [List.mem_cons,List.mem_append,Option.mem_toList] at hx ⊢
  rcases hx with h|h|h|h
  ·exact .inl (.inl h)
  ·exact .inl (.inr (.inl h))
  ·exact .inr h
  ·exact .inl (.inr (.inr (.inr h)))
def Bad (s:St) (fr ct:Nat) (Ts:List (Nat × List Nat)) (nm:Nat):Prop:=nm∈Ts.map (·.1)∨(nm<fr∨fr+ct≤nm)∨¬isPart (plc nm nm) (blk s.ws nm)
structure Good (s:St) (fr ct:Nat) (Ts:List (Nat × List Nat)):Prop where
 lies:∀x∈Ts,∃l,Lies (blk s.ws) x.1 x.2 l
 area:∀x∈Ts,∀b∈x.2,fr≤b∧b<fr+ct
 nodup:(Ts.map (·.1)).Nodup
def OpenAt (q fr ct:Nat) (Ts:List (Nat × List Nat)) (all:Bool) (w:World) (e:Ending) (w':World):Prop :=
 Kept [] w w'∧(all=true∧(∃p G,e=.returned (.tuple #[.pointer (some ⟨p,0,none⟩),.int .i64 0])∧IsP w' G p q fr ct Ts (freeOf fr ct Ts)∧∀x∈G,w.heap.size≤x)∨all=false∧e=.returned (.tuple #[.pointer none,.int .i64 2]))
set_option maxRecDepth 100000 in
set_option maxHeartbeats 2000000 in
theorem openP_any {w:World}{F:List Nat}{q fr ct:Nat}{s:St} (hD:IsD w F q s) (hd:s.down=false) (h1:1≤ct) (ha:fr+ct≤s.nb) (ns:List Nat) (hns:ns.length≤1000) (hsm:∀x∈ns,x<65536) (a:Option Addr) (c:Nat) (hr:ReadsI w (.slice a ns.length c) ns) (Ts:List (Nat × List Nat)) (hG:Good s fr ct Ts) (all:Bool) (hpre:∀k,k<Ts.length→ns[k]?=(Ts[k]?).map (·.1)) (hend:all=true∧Ts.length=ns.length∨all=false∧∃nm,ns[Ts.length]?=some nm∧Bad s fr ct Ts nm) :
  Calls Tryz.prog 11 #[.pointer (some ⟨q,0,none⟩),.int .i64 (fr:Int),.int .i64 (ct:Int),.slice a ns.length c] w fun e w'=>OpenAt q fr ct Ts all w e w':=by
 have hnb:=hD.ok.nb
 have hTl:Ts.length≤ns.length:=by
  rcases hend with ⟨_,h⟩|⟨_,nm,h,_⟩
  ·omega
  ·have:=(List.getElem?_eq_some_iff.1 h).1;omega
 have hb:=blocks_any hD
 have f1:((fr:Int)<0)=False:=eq_false (by omega)
 have f2:((ct:Int)<1)=False:=eq_false (by omega)
 have f3:((s.nb:Int)-(fr:Int)<(ct:Int))=False:=eq_false (by omega)
 have hmm:=@run_makeMap Tryz.prog
 have kN:Kept [] w ((w.alloc (.map #[] 0)).alloc (.cells #[.pointer (some ⟨q,0,none⟩),.int .i64 (fr:Int),.int .i64 (ct:Int),.map (some w.heap.size),.slice none 0 0] 65)):=(kept_alloc w _).alloc _
 have hPN:=IsP.new w q fr ct
 have hDn:=down_any (hD.kept kN (by simp))
 rw [hd] at hDn
 have HZ:Hid (∀e w',(Kept [] w w'∧(all=true∧(∃p G,e=.returned (.tuple #[.pointer (some ⟨p,0,none⟩),.int .i64 0])∧IsP w' G p q fr ct Ts (freeOf fr ct Ts)∧∀x∈G,w.heap.size≤x)∨all=false∧e=.returned (.tuple #[.pointer none,.int .i64 2])))→OpenAt q fr ct Ts all w e w'):=fun e w' h=>h
 generalize OpenAt q fr ct Ts all w=R at HZ
 go_enter Tryz.func11,Tryz.ntmps11
 go_wp2_with fail
 refine hb.mono ?_
 rintro e w' ⟨rfl,rfl⟩
 clear hb
 go_wp2_with fail
 refine hDn.mono ?_
 rintro e w' ⟨rfl,rfl⟩
 clear hDn hmm
 have hG0:∀x∈[w.heap.size+1,w.heap.size],w.heap.size≤x:=by simp
 generalize hw1:(w.alloc (.map #[] 0)).alloc (.cells #[.pointer (some ⟨q,0,none⟩),.int .i64 (fr:Int),.int .i64 (ct:Int),.map (some w.heap.size),.slice none 0 0] 65)=w1 at kN hPN
 clear hw1
 generalize [w.heap.size+1,w.heap.size]=G0 at hPN hG0
 obtain ⟨p,hp⟩:∃p,Hid (w.heap.size+1=p):=⟨_,rfl⟩
 rw [hp.out] at hPN ⊢
 go_wp2_with fail
 go_loopw [44] (fun i wr=>∃(k:Nat) (G:List Nat),k≤Ts.length∧i=.int .i64 (k:Int)∧IsP wr G p q fr ct (Ts.take k) []∧Kept [] w wr∧∀x∈G,w.heap.size≤x) (fun i _=>ns.length-(numOf i).toNat)
 case atStart=>exact ⟨0,G0,Nat.zero_le _,rfl,hPN,kN,hG0⟩
 case round =>
  clear hPN kN hG0
  obtain ⟨k,G,hk,rfl,hP,kk,hGw⟩:=hrel
  have hDr:=hD.kept kk (by simp)
  have hrr:=hr.kept kk (by simp)
  by_cases hkT:k<Ts.length
  ·have hkn:(k:Int)<(ns.length:Int):=by omega
   obtain ⟨x,hx⟩:∃x,Ts[k]?=some x:=⟨Ts[k],by simp [hkT]⟩
   have hnk:ns[k]?=some x.1:=by rw [hpre k hkT,hx];rfl
   obtain ⟨gb,ob,cb,hve,hck⟩:=hrr.at k _ hnk
   injection hve with q1 q2 q3
   subst q1 q3
   have hxm:x∈Ts:=List.mem_of_getElem? hx
   obtain ⟨l,hL⟩:=hG.lies x hxm
   have htk:Ts.take (k+1)=Ts.take k++[(x.1,x.2)]:=by rw [List.take_add_one,hx];rfl
   have hnT:x.1∉(Ts.take k).map (·.1):=fun hm=>by
    have hnd:=hG.nodup
    have hsub:((Ts.take (k+1)).map (·.1)).Nodup:=((List.take_sublist _ _).map _).nodup hnd
    rw [htk,List.map_append,List.nodup_append] at hsub
    exact hsub.2.2 _ hm x.1 (by simp) rfl
   have htake:=take_ok hDr hP hd ha x.1 x.2 l hL (hG.area x hxm) hnT (by rw [List.length_take];omega)
   rw [←htk] at htake
   obtain ⟨X,hX⟩:∃X,Hid (x.1=X):=⟨_,rfl⟩
   rw [hX.out] at htake hck
   clear hP hDr hrr hpre hend hG
   go_wp2_with fail
   refine htake.mono ?_
   rintro e w2 ⟨rfl,G2,hP2,k2,hN2⟩
   have kk2:Kept [] w w2:=kk.trans k2 (fun y hy=>.inr (hGw y hy))
   have Hf:=Hid.mk (And.intro hP2 (And.intro kk2 (fun y hy=>by
    rcases hN2 y hy with h|h
    ·exact hGw y h
    ·exact Nat.le_trans kk.size h:∀y∈G2,w.heap.size≤y)))
   clear htake hP2 k2 hN2 kk2 kk hGw
   go_wp2
   go_roundw
   case rel=>exact ⟨k+1,G2,by omega,by go_num,Hf.out⟩
   case measure=>simp [numOf];omega
  ·obtain rfl:k=Ts.length:=by omega
   rw [List.take_of_length_le (Nat.le_refl _)] at hP
   rcases hend with ⟨rfl,he⟩|⟨rfl,nm,hnk,hbad⟩
   ·have hni:¬(Ts.length:Int)<(ns.length:Int):=by omega
    have hun:=un_any hP (by omega) (by omega) hG.area (fun x hx=>by
     obtain ⟨l,hL⟩:=hG.lies x hx
     rw [hL.len]
     have:=bks_le hL.long
     omega)
    have hplt:=hP.lt p hP.pG
    have hPG:=hP.pG
    have hGlt:=hP.lt
    go_wp2_with fail
    refine hun.mono ?_
    rintro e w2 ⟨v,rfl,hO,k2,hF⟩
    have hP2:=hP.kept k2 (by simp)
    obtain ⟨G3,hP3,k3,hG3,u,hu⟩:=hP2.setFree v _ hO.frs (fun g hg hm=>by have:=hF g hg;have:=hGlt g hm;omega)
    obtain ⟨av,cv,rfl,-⟩:=id hO.form
    have f4:=hP2.free 4
    have kk3:Kept [] w (w2.setCell ⟨p,4,none⟩ (.slice av (freeOf fr ct Ts).length cv)):=(kk.trans k2 (by simp)).trans k3 (fun y hy=>.inr (by simp at hy;subst hy;exact hGw _ hPG))
    have hfin:=HZ.out (.returned (.tuple #[.pointer (some ⟨p,0,none⟩),.int .i64 0])) _ ⟨kk3,.inl ⟨(by first|rfl|trivial),p,G3,rfl,hP3,fun y hy=>by
     rcases hG3 y hy with h|h
     ·exact hGw y h
     ·exact Nat.le_trans kk.size (hF y h)⟩⟩
    have Hf:=Hid.mk hfin
    clear hfin hP hP2 hP3 hO hun hG3 kk3 k3 k2 HZ
    generalize (freeOf fr ct Ts).length=L at Hf ⊢
    go_wp2
    exact Hf.out
   ·have hlt:=(List.getElem?_eq_some_iff.1 hnk).1
    have hkn:(Ts.length:Int)<(ns.length:Int):=by omega
    obtain ⟨gb,ob,cb,hve,hck⟩:=hrr.at _ _ hnk
    injection hve with q1 q2 q3
    subst q1 q3
    have hnm:nm<65536:=hsm nm (List.mem_of_getElem? hnk)
    have htake:Calls Tryz.prog 36 #[.pointer (some ⟨p,0,none⟩),.int .i64 (nm:Int)] wr fun e w'=>e=.returned (.int .i64 2)∧Kept [] wr w':=by
     by_cases hm:nm∈Ts.map (·.1)
     ·obtain ⟨x,hx,rfl⟩:=List.mem_map.1 hm
      exact take_twice hP x.1 x.2 hx
     ·rcases hbad with h|h|h
      ·exact absurd h hm
      ·exact take_no hP nm hnm hm (rd_out (F:=[]) hP (by omega) nm h (by omega))
      ·by_cases ho:nm<fr∨fr+ct≤nm
       ·exact take_no hP nm hnm hm (rd_out (F:=[]) hP (by omega) nm ho (by omega))
       ·exact take_no hP nm hnm hm (rd_none hDr hP hd ha nm (by omega) (by omega) h)
    clear hP hDr hrr hpre hG hbad hnk
    go_wp2_with fail
    refine htake.mono ?_
    rintro e w2 ⟨rfl,k2⟩
    have hfin:=HZ.out (.returned (.tuple #[.pointer none,.int .i64 2])) w2 ⟨kk.trans k2 (by simp),.inr ⟨(by first|rfl|trivial),rfl⟩⟩
    have Hf:=Hid.mk hfin
    clear hfin HZ htake
    go_wp2
    exact Hf.out
end Go.Proofs.YtgpbhlfdlkemjaaGreat
