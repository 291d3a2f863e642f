import Derived.Test.YtgpbhlfdlkemjaaGreatH05
import Derived.Test.YtgpbhlfdlkemjaaGreatH26
import Derived.Test.YtgpbhlfdlkemjaaGreatH32
/-
 lay: all texts of a tree that aren't put yet, or none.
-/
namespace Go.Proofs.YtgpbhlfdlkemjaaGreat
open Go.RowKit
set_option linter.unusedVariables false
theorem remE_all {L E:List Ent} (h:((L++E).map (·.1)).Nodup):remE (L++E) (E.map (·.1))=L:=by
 rw [List.map_append] at h
 have h3:=(List.nodup_append.1 h).2.2
 unfold remE
 rw [List.filter_append,List.filter_eq_self.2 fun x hx=>?_,List.filter_eq_nil_iff.2 fun x hx=>?_,List.append_nil]
 ·simpa using List.mem_map_of_mem (f:=(·.1)) hx
 ·have:x.1∉E.map (·.1):=fun hm=>h3 x.1 (List.mem_map_of_mem hx) x.1 hm rfl
  exact decide_eq_true this
def LayPost (g:Prop) (w0:World) (T Z:Nat→Prop) (κ:Kap) (p q fr ct:Nat) (C:Nat→Prop) (B:Nat) (w:World) (ρ:Rho) (s:St) (L:List Ent) (fl:List Nat) (nb:Nat) (er:Int) (w':World):Prop :=
 ∃ρ' s' L' fl',SyP w0 w' q p s' fr ct L' fl' (fun b=>T b∨Z b)∧RhoOk ρ'∧(∀{k:Nat}{m:Tr k},IsN w T ρ m→IsN w' T ρ' m)∧(∀{i:Itm},IsI w T ρ i→IsI w' T ρ' i)∧Ext ρ ρ'∧(∀b,¬C b→ρ' b=ρ b)∧KP Z w w'∧s'.nb=s.nb∧s'.ws.length≤s.ws.length+B∧(s.fuse<0→s'.fuse=s.fuse∧s'.down=s.down) ∧
  ((er=0∧s'.down=false∧(ρ' nb).1≠0∧(g→GI w' T κ ρ' L')∧∃(E:List Ent) (m:Nat) (vs:List Wr),L'=L++E∧fl'=fl.drop m∧m≤B∧s'.ws=s.ws++vs∧∀x∈vs,x.1∈fl)∨(er=9∧s'.down=true∧L'=L))
def Dropping (w0:World) (p q fr ct lb:Nat) (X:Nat→Prop) (w2:World) (s:St) (L:List Ent) (names:List Nat) (j:Nat) (wr:World):Prop:=KP X w2 wr∧∃fl',SyP w0 wr q p s fr ct (remE L (names.take j)) fl' X
section
variable {g:Prop}{w0:World}{T Z:Nat→Prop}{κ:Kap}{p q fr ct:Nat}
set_option maxRecDepth 100000 in
set_option maxHeartbeats 2000000 in
theorem tlay_walk {w:World}{nb:Nat}{R:Int→World→Prop}{W:World} (hW:Hid (W=w.alloc (.cells #[Pp p,.slice none 0 0] 152)))
  (HC:Calls Tryz.prog 84 #[Pp w.heap.size,Pp nb,.int .u8 2] W fun e w2=>∃er:Int,e=.returned (.int .i64 er)∧((er=0∧R 0 w2)∨(er=9∧∃(X:Nat→Prop) (s:St) (L:List Ent) (names:List Nat) (vn:Value),w2.heap[w.heap.size]?=some (.cells #[Pp p,vn] 152 (0,0))∧OwnsI w2 vn names∧X w.heap.size∧(∀x,vn.ownBlock=some x→X x)∧(∀x,X x→x<w2.heap.size)∧names.length≤900000∧(∀y∈names,y≤1000000)∧(L.map (·.1)).Nodup∧Dropping w0 p q fr ct w.heap.size X w2 s L names 0 w2∧∀wr,Dropping w0 p q fr ct w.heap.size X w2 s L names names.length wr→R 9 wr))) :
  Calls Tryz.prog 50 #[Pp p,Pp nb] w fun e w'=>∃er:Int,e=.returned (.int .i64 er)∧R er w':=by
 have HW:=hW
 go_enter Tryz.func50,Tryz.ntmps50
 go_wp2_with fail
 rw [hW.out] at HC
 refine HC.mono ?_
 rintro e w2 ⟨er,rfl,(⟨rfl,hR⟩|⟨rfl,X,s,L,names,vn,hb,ho,hxl,hxn,hlow,hnl,hnb,hnd,hD,hend⟩)⟩
 ·have HR:=Hid.mk hR
  clear HC hR hW HW
  go_wp2
  go_ret
  exact ⟨0,rfl,HR.out⟩
 ·obtain ⟨aO,cO,e,hcap,hcm⟩:=ho.form
  have HO:Hid (OwnsI w2 vn names):=Hid.mk ho
  have HB:=Hid.mk hb
  have c1:w2.cell? ⟨w.heap.size,1,none⟩=some vn:=by simp only [World.cell?,hb];rfl
  subst e
  obtain ⟨N,HN⟩:∃N,Hid (names.length=N):=⟨_,rfl⟩
  rw [HN.out] at c1 HO hxn hcap hnl hend
  have HK:Hid (∀W,KP X w2 W→OwnsI W (.slice aO N cO) names):=Hid.mk fun W kW=>by
   obtain ⟨S,k,hS⟩:=kW
   exact HO.out.kept k (fun x hx=>hS x (hxn x hx))
  have hnm:=Hid.mk hnd
  have HD0:=Hid.mk hD
  have HE:=Hid.mk hend
  have HL:=Hid.mk hlow
  have HNB:=Hid.mk hnb
  clear hb ho HB HO HC hW HW hD hend hnd hlow hnb hxn hxl
  generalize w.heap.size=lb at *
  go_wp2_with fail
  go_loopw [20] (fun i wr=>∃j:Nat,i=.int .i64 (j:Int)∧j≤N∧Hid (Dropping w0 p q fr ct lb X w2 s L names j wr)) (fun i _=>N-(intOf i).toNat)
  case atStart=>exact ⟨0,rfl,by omega,HD0⟩
  case round =>
   obtain ⟨j,rfl,hj,hd⟩:=hrel
   clear c1
   by_cases hlt:j<N
   ·obtain ⟨y,hy⟩:∃y,names[j]?=some y:=⟨_,List.getElem?_eq_getElem (by have:=HN.out;omega)⟩
    obtain ⟨b,c',e,hcell⟩:=(HK.out wr hd.out.1).at j y hy
    injection e with e eN e2
    subst e e2
    clear eN
    have hts:=tsnoc hy
    have hyb:=HNB.out y (List.mem_of_getElem? hy)
    have hdr:Calls Tryz.prog 54 #[.pointer (some ⟨p,0,none⟩),.int .i64 (y:Int)] wr fun e w'=>∃z:Int,e=.returned (.int .i64 z)∧Dropping w0 p q fr ct lb X w2 s L names (j+1) w':=by
     obtain ⟨hkp,fl',hs'⟩:=hd.out
     by_cases hm:y∈(remE L (names.take j)).map (·.1)
     ·have hyn:y∉names.take j:=by
       obtain ⟨x,hx,e⟩:=List.mem_map.1 hm
       have:=(List.mem_filter.1 hx).2
       rw [←e]
       simpa using this
      have hm2:y∈L.map (·.1):=by
       obtain ⟨x,hx,e⟩:=List.mem_map.1 hm
       exact List.mem_map.2 ⟨x,(List.mem_filter.1 hx).1,e⟩
      obtain ⟨A,x,B,hx1,hx2,hx3⟩:=remE_step hnm.out hyn hm2
      rw [hx2] at hs'
      have hdr:=psy_drop hs' (fun z hz=>Nat.lt_of_lt_of_le (HL.out z hz) hkp.size)
      rw [hx1] at hdr
      refine hdr.mono ?_
      rintro e w2 ⟨rfl,h1,h2⟩
      exact ⟨0,rfl,hkp.trans h2,_,by rw [hts,hx3];exact h1⟩
     ·refine (psy_drop_none hs' (y:Int) (wf_nat (by omega)) (fun x hx e=>hm (List.mem_map.2 ⟨x,hx,by omega⟩))).mono ?_
      rintro e w2 ⟨rfl,rfl⟩
      refine ⟨5,rfl,hkp,fl',?_⟩
      have:remE L (names.take (j+1))=remE L (names.take j):=by
       rw [hts]
       unfold remE
       refine List.filter_congr fun z hz=>?_
       by_cases h1:z.1∈names.take j
       ·simp [h1]
       ·have:z.1≠y:=fun e=>hm (List.mem_map.2 ⟨z,List.mem_filter.2 ⟨hz,by simpa using h1⟩,e⟩)
        simp [h1,this]
      rw [this]
      exact hs'
    clear hy hyb hts hd
    go_wp2_with fail
    refine hdr.mono ?_
    rintro e w3 ⟨z,rfl,h1⟩
    have HS:=Hid.mk h1
    clear hdr h1
    go_wp2
    go_roundw
    case rel=>exact ⟨j+1,by go_num,by omega,HS⟩
    case measure=>simp [intOf];omega
   ·obtain rfl:j=N:=by omega
    have HF:=Hid.mk (HE.out wr hd.out)
    clear hd
    go_wp2
    go_ret
    exact ⟨9,rfl,HF.out⟩
theorem tlay_any {w:World}{ρ:Rho}{s:St}{L:List Ent}{fl:List Nat} (hsy:SyP w0 w q p s fr ct L fl (fun b=>T b∨Z b)) (hlt:∀x,T x∨Z x→x<w.heap.size) (hge:∀x,T x∨Z x→w0.heap.size≤x) (htz:∀x,T x→¬Z x) (hok:RhoOk ρ) (hgi:g→GI w T κ ρ L) (hfr:1≤fr) {k:Nat}{n:Tr k} (hN:IsN w T ρ n) (hk:k≤1000) (hW:Wf n) (hsz:Sized (its n)) (hB:bl ρ n≤fl.length) (hws:s.ws.length+bl ρ n≤90000) (hB2:bl ρ n≤900000) (hd:s.down=false) (h0:(ρ (adr n)).1=0) (hkd:g→κ.kd (adr n)=2∧Inner κ n) :
  Calls Tryz.prog 50 #[Pp p,Pp (adr n)] w fun e w'=>∃er:Int,e=.returned (.int .i64 er)∧LayPost g w0 T Z κ p q fr ct (fun b=>b∈blks n) (bl ρ n) w ρ s L fl (adr n) er w':=by
 obtain ⟨W,hWd⟩:∃W,Hid (W=w.alloc (.cells #[Pp p,.slice none 0 0] 152)):=⟨_,rfl⟩
 have kW:Kept [] w W:=by
  rw [hWd.out]
  exact (Kept.refl [] w).alloc _
 have hbW:W.heap[w.heap.size]?=some (.cells #[Pp p,.slice none 0 0] 152 (0,0)):=by
  rw [hWd.out]
  exact heap_alloc_new w _
 have hK0:=hsy.k.size
 have hLy:Lay g w0 T Z κ w.heap.size p q fr ct W ρ [] s L fl:=by
  refine ⟨⟨.slice none 0 0,fun b=>(b=w.heap.size)∨(T b∨Z b),⟨hbW,OwnsI.nil _,by simp [Value.ownBlock],hsy.more kW (fun y hy=>by omega),fun x hx=>?_,.inl rfl,by simp [Value.ownBlock],fun x hx _=>.inr hx,fun hm=>by have:=hlt _ hm;omega,by simp [Value.ownBlock],hK0,by simp [Value.ownBlock]⟩⟩,fun x hx=>Nat.lt_of_lt_of_le (hlt x hx) kW.size,hge,htz,hok,fun hg=>(hgi hg).kept kW,hfr⟩
  rcases hx with rfl|hx
  ·exact lt_of_block hbW
  ·exact Nat.lt_of_lt_of_le (hlt x hx) kW.size
 refine tlay_walk (w0:=w0) (q:=q) (fr:=fr) (ct:=ct) hWd ((lnode_any n hLy (hN.kept kW (by simp)) hk hW hsz ⟨hB,hws,by simpa using hB2,hd⟩ h0 2 hkd).mono ?_)
 rintro e w2 ⟨er,rfl,ρ2,names2,s2,L2,fl2,hL2,hW2,h2⟩
 refine ⟨er,rfl,?_⟩
 have hW3:=(Went.same (B:=0) (C:=fun b=>b∈blks n) (T:=T) (Z:=Z) (ρ:=ρ) (names:=[]) (s:=s) (L:=L) (fl:=fl) kW).trans hd hW2
 rw [Nat.zero_add] at hW3
 obtain ⟨vn,X,hl2⟩:=hL2.ly
 have hwr:=hW3.writes
 obtain ⟨t1,t2,t3,t4,t5,t6,E,m,vs,e1,e2,e3,e4,e5,e6,e7,e8,e9,e10⟩:=hW3
 rcases h2 with ⟨rfl,hd2,hp2⟩|⟨rfl,hd2⟩
 ·refine .inl ⟨rfl,ρ2,s2,L2,fl2,hl2.sy.less (fun y hy=>hl2.xf y hy (hL2.lt y hy)),hL2.ok,t1,t2,t3,t4,t6,e8,hwr,e10,.inl ⟨rfl,hd2,hp2,hL2.gi,E,m,vs,e1,e3,e4,e6,e9 hd2⟩⟩
 ·have hnod:=hl2.sy.ok.names
  have hnm:∀y∈names2,y≤1000000:=fun y hy=>by
   rw [e2] at hy
   simp at hy
   obtain ⟨bs,l,hx⟩:=hy
   have h1:=hl2.sy.ok.self (x:=(y,bs,l)) (by rw [e1];exact List.mem_append_right _ hx)
   have h3:=hl2.sy.ok.mem (List.mem_append_left _ (mem_bls.2 ⟨(y,bs,l),by rw [e1];exact List.mem_append_right _ hx,h1⟩))
   have:=hl2.sy.ok.area
   have:=hl2.sy.ok.nb
   have h4:(y,bs,l).1=y:=rfl
   omega
  refine .inr ⟨rfl,X,s2,L2,names2,vn,hl2.box,hl2.own,hl2.xl,hl2.xn,hl2.low,?_,hnm,hnod,⟨KP.refl X w2,fl2,by rw [List.take_zero,remE_nil];exact hl2.sy⟩,fun wr hdr=>?_⟩
  ·rw [e2]
   simp
   omega
  ·obtain ⟨hkp,fl',hs'⟩:=hdr
   rw [List.take_length,e2,List.nil_append,e1,remE_all (by rw [←e1];exact hnod)] at hs'
   obtain ⟨S,k,hS⟩:=id hkp
   have hST:∀x∈S,¬T x:=fun x hx hT=>hS x (hl2.xf x (.inl hT) (hL2.lt x (.inl hT))) hx
   refine ⟨ρ2,s2,L,fl',hs'.less (fun y hy=>hl2.xf y hy (hL2.lt y hy)),hL2.ok,fun h=>(t1 h).kept k hST,fun h=>(t2 h).kept k hST,t3,t4,t6.trans ⟨S,k,fun x hx hm=>hS x (hl2.xf x (.inr hx) (hL2.lt x (.inr hx))) hm⟩,e8,hwr,e10,.inr ⟨rfl,hd2,rfl⟩⟩
set_option maxRecDepth 100000 in
set_option maxHeartbeats 1000000 in
theorem tlay_nil (p:Nat) (w:World):Calls Tryz.prog 50 #[Pp p,.pointer none] w fun e w'=>e=.returned (.int .i64 0)∧w=w':=by
 go_enter Tryz.func50,Tryz.ntmps50
 go_wp2
 go_ret
 exact ⟨rfl,rfl⟩
end
end Go.Proofs.YtgpbhlfdlkemjaaGreat
namespace Go.Proofs.YtgpbhlfdlkemjaaGreat
set_option linter.unusedVariables false
abbrev KV:=List UInt8 × List UInt8
structure Cg where
 key:List UInt8
 val:List UInt8
 gone:Bool
def kv (i:Itm):KV:=(i.key,i.val)
def tset (T:List KV) (c:Cg):List KV:=T.filter (fun x=>decide (x.1<c.key))++(if c.gone then [] else [(c.key,c.val)])++T.filter fun x=>decide (c.key<x.1)
def tapp (T:List KV) (cs:List Cg):List KV:=cs.foldl tset T
def UpK (T:List KV):Prop:=T.Pairwise fun a b=>a.1<b.1
theorem up_kv {l:List Itm} (h:Up l):UpK (l.map kv):=List.pairwise_map.2 h
theorem mem_tset {T:List KV}{c:Cg}{x:KV}:x∈tset T c↔(c.gone=false∧x=(c.key,c.val))∨(x∈T∧c.key≠x.1):=by
 unfold tset
 simp only [List.mem_append,List.mem_filter,decide_eq_true_eq]
 constructor
 ·rintro ((⟨h1,h2⟩|h)|⟨h1,h2⟩)
  ·exact .inr ⟨h1,fun e=>klt_irrefl _ (e▸h2)⟩
  ·cases hg:c.gone with
   | true=>simp [hg] at h
   | false=>simp [hg] at h;exact .inl ⟨rfl,h⟩
  ·exact .inr ⟨h1,fun e=>klt_irrefl _ (e▸h2)⟩
 ·rintro (⟨h1,h2⟩|⟨h1,h2⟩)
  ·exact .inl (.inr (by simp [h1,h2]))
  ·by_cases hlt:x.1<c.key
   ·exact .inl (.inl ⟨h1,hlt⟩)
   ·exact .inr ⟨h1,klt_total hlt (fun e=>h2 e.symm)⟩
theorem up_tset {T:List KV} (h:UpK T) (c:Cg):UpK (tset T c):=by
 have hf:∀p:KV→Bool,UpK (T.filter p):=fun p=>List.Pairwise.sublist List.filter_sublist h
 have hl:∀x∈T.filter (fun x=>decide (x.1<c.key)),x.1<c.key:=fun x hx=>by simpa using (List.mem_filter.1 hx).2
 have hr:∀x∈T.filter (fun x=>decide (c.key<x.1)),c.key<x.1:=fun x hx=>by simpa using (List.mem_filter.1 hx).2
 have hm:∀x∈(if c.gone then [] else [(c.key,c.val)]:List KV),x.1=c.key:=fun x hx=>by
  cases hg:c.gone with
  | true=>simp [hg] at hx
  | false=>simp [hg] at hx;rw [hx]
 refine List.pairwise_append.2 ⟨List.pairwise_append.2 ⟨hf _,?_,fun a ha b hb=>by rw [hm b hb];exact hl a ha⟩,hf _,fun a ha b hb=>?_⟩
 ·cases c.gone with
  | true=>exact List.Pairwise.nil
  | false=>exact List.pairwise_singleton _ _
 ·rcases List.mem_append.1 ha with ha|ha
  ·exact klt_trans (hl a ha) (hr b hb)
  ·rw [hm a ha];exact hr b hb
theorem up_tapp:∀(cs:List Cg) {T:List KV},UpK T→UpK (tapp T cs)
 | [],_,h=>h
 | c::cs,_,h=>up_tapp cs (up_tset h c)
theorem tapp_cons (T:List KV) (c:Cg) (cs:List Cg):tapp T (c::cs)=tapp (tset T c) cs:=rfl
theorem tapp_append (T:List KV) (cs ds:List Cg):tapp T (cs++ds)=tapp (tapp T cs) ds:=by simp [tapp]
theorem mem_tapp:∀(cs:List Cg) {T:List KV}{x:KV},(cs.map Cg.key).Nodup→(x∈tapp T cs↔(∃c∈cs,c.gone=false∧x=(c.key,c.val))∨(x∈T∧∀c∈cs,c.key≠x.1))
 | [],T,x,_=>by simp [tapp]
 | c::cs,T,x,h=>by
  rw [List.map_cons] at h
  obtain ⟨h1,h2⟩:=List.nodup_cons.1 h
  rw [tapp_cons,mem_tapp cs h2]
  constructor
  ·rintro (⟨d,hd,h3,h4⟩|⟨h3,h4⟩)
   ·exact .inl ⟨d,by simp [hd],h3,h4⟩
   ·rcases mem_tset.1 h3 with ⟨h5,h6⟩|⟨h5,h6⟩
    ·exact .inl ⟨c,by simp,h5,h6⟩
    ·exact .inr ⟨h5,fun d hd=>by
      rcases List.mem_cons.1 hd with rfl|hd
      ·exact h6
      ·exact h4 d hd⟩
  ·rintro (⟨d,hd,h3,h4⟩|⟨h3,h4⟩)
   ·rcases List.mem_cons.1 hd with rfl|hd
    ·refine .inr ⟨mem_tset.2 (.inl ⟨h3,h4⟩),fun e he h5=>h1 (List.mem_map.2 ⟨e,he,?_⟩)⟩
     rw [h5,h4]
    ·exact .inl ⟨d,hd,h3,h4⟩
   ·exact .inr ⟨mem_tset.2 (.inr ⟨h3,h4 c (by simp)⟩),fun d hd=>h4 d (by simp [hd])⟩
theorem nodup_key {α β:Type}{f:α→β}:∀{l:List α},(l.map f).Nodup→∀a∈l,∀b∈l,f a=f b→a=b
 | [],_,a,ha,_,_,_=>by simp at ha
 | x::l,h,a,ha,b,hb,e=>by
  rw [List.map_cons] at h
  obtain ⟨h1,h2⟩:=List.nodup_cons.1 h
  rcases List.mem_cons.1 ha with rfl|ha'
  ·rcases List.mem_cons.1 hb with rfl|hb'
   ·rfl
   ·exact absurd (List.mem_map.2 ⟨b,hb',e.symm⟩) h1
  ·rcases List.mem_cons.1 hb with rfl|hb'
   ·exact absurd (List.mem_map.2 ⟨a,ha',e⟩) h1
   ·exact nodup_key h2 a ha' b hb' e
def chg (is:List Itm) (c:Cg):Bool:=if c.gone then decide (c.key∈is.map Itm.key) else decide ((c.key,c.val)∉is.map kv)
def asC (c:Cg):List UInt8 × Option (List UInt8):=(c.key,if c.gone then none else some c.val)
def chV (c:Chg):List UInt8 × Option (List UInt8):=(c.1,c.2.map Itm.val)
theorem mrg_tapp {is:List Itm} (hu:Up is) {list rising:List Cg} (hp:list.Perm rising) (hn:(list.map Cg.key).Nodup) {cs:List Chg} (hcu:ChUp cs) (hco:ChOk cs) (he:cs.map chV=(rising.filter (chg is)).map asC):(mrg is cs).map kv=tapp (is.map kv) list:=by
 refine up_ext (up_kv (up_mrg cs is hcu hco hu)) (up_tapp list (up_kv hu)) fun x=>?_
 have hmem:∀(k:List UInt8) (o:Option (List UInt8)),(k,o)∈cs.map chV↔∃c∈list,chg is c=true∧asC c=(k,o):=fun k o=>by
  rw [he]
  simp only [List.mem_map,List.mem_filter,hp.mem_iff]
  constructor
  ·rintro ⟨c,⟨h1,h2⟩,h3⟩;exact ⟨c,h1,h2,h3⟩
  ·rintro ⟨c,h1,h2,h3⟩;exact ⟨c,⟨h1,h2⟩,h3⟩
 have huniq:∀a b:Cg,a∈list→b∈list→a.key=b.key→a=b:=fun a b ha hb e=>nodup_key hn a ha b hb e
 have hval:∀a b:KV,a∈is.map kv→b∈is.map kv→a.1=b.1→a=b:=fun a b ha hb e=>by
  have h1:(is.map kv).Pairwise fun a b=>a.1≠b.1:=by
   have h2:(is.map kv).Pairwise fun a b=>a.1<b.1:=up_kv hu
   refine h2.imp ?_
   intro a b h e
   rw [e] at h
   exact klt_irrefl b.1 h
  exact nodup_key (f:=Prod.fst) (List.pairwise_map.2 h1) a ha b hb e
 rw [mem_tapp list hn]
 constructor
 ·intro hx
  obtain ⟨i,hi,rfl⟩:=List.mem_map.1 hx
  rcases (mem_mrg cs is hcu i).1 hi with ⟨c,hc,h1⟩|⟨h1,h2⟩
  ·have h2:=hco c hc i h1
   obtain ⟨d,hd,h3,h4⟩:=(hmem c.1 (c.2.map Itm.val)).1 (List.mem_map.2 ⟨c,hc,rfl⟩)
   rw [h1] at h4
   unfold asC at h4
   injection h4 with h5 h6
   cases hg:d.gone with
   | true=>simp [hg] at h6
   | false =>
    simp [hg] at h6
    refine .inl ⟨d,hd,hg,?_⟩
    unfold kv
    rw [h2,h5,h6]
  ·by_cases hex:∃c∈list,c.key=i.key
   ·obtain ⟨c,hc,hk⟩:=hex
    have hnc:chg is c≠true:=fun h=>by
     obtain ⟨d,hd,h3⟩:=List.mem_map.1 ((hmem c.key (asC c).2).2 ⟨c,hc,h,rfl⟩)
     have h4:d.1=c.key:=by unfold chV at h3;injection h3
     exact h2 d hd (by rw [h4,hk])
    unfold chg at hnc
    cases hg:c.gone with
    | true =>
     exfalso
     simp only [hg,if_true] at hnc
     exact hnc (decide_eq_true (by rw [hk];exact List.mem_map_of_mem h1))
    | false =>
     simp only [hg,Bool.false_eq_true,if_false] at hnc
     have hnc:(c.key,c.val)∈is.map kv:=Classical.byContradiction fun h=>hnc (decide_eq_true h)
     exact .inl ⟨c,hc,hg,hval _ _ (List.mem_map_of_mem h1) hnc (by show i.key=c.key;exact hk.symm)⟩
   ·exact .inr ⟨List.mem_map_of_mem h1,fun c hc e=>hex ⟨c,hc,e⟩⟩
 ·rintro (⟨c,hc,hg,rfl⟩|⟨h1,h2⟩)
  ·by_cases hch:chg is c=true
   ·obtain ⟨d,hd,h3⟩:=List.mem_map.1 ((hmem c.key (some c.val)).2 ⟨c,hc,hch,by unfold asC;simp [hg]⟩)
    unfold chV at h3
    injection h3 with h4 h5
    cases hi:d.2 with
    | none=>simp [hi] at h5
    | some i =>
     simp [hi] at h5
     refine List.mem_map.2 ⟨i,(mem_mrg cs is hcu i).2 (.inl ⟨d,hd,hi⟩),?_⟩
     unfold kv
     rw [hco d hd i hi,h4,h5]
   ·have hin:(c.key,c.val)∈is.map kv:=by
     unfold chg at hch
     simp only [hg,Bool.false_eq_true,if_false,decide_eq_true_eq,Classical.not_not] at hch
     exact hch
    obtain ⟨i,hi,hik⟩:=List.mem_map.1 hin
    refine List.mem_map.2 ⟨i,(mem_mrg cs is hcu i).2 (.inr ⟨hi,fun d hd e=>?_⟩),hik⟩
    obtain ⟨c',hc',h3,h4⟩:=(hmem d.1 (d.2.map Itm.val)).1 (List.mem_map.2 ⟨d,hd,rfl⟩)
    unfold asC at h4
    injection h4 with h5 _
    have h6:i.key=c.key:=congrArg Prod.fst hik
    have:=huniq c' c hc' hc (by rw [h5,e,h6])
    subst this
    exact hch h3
  ·obtain ⟨i,hi,hik⟩:=List.mem_map.1 h1
   refine List.mem_map.2 ⟨i,(mem_mrg cs is hcu i).2 (.inr ⟨hi,fun d hd e=>?_⟩),hik⟩
   obtain ⟨c',hc',h3,h4⟩:=(hmem d.1 (d.2.map Itm.val)).1 (List.mem_map.2 ⟨d,hd,rfl⟩)
   unfold asC at h4
   injection h4 with h5 _
   refine h2 c' hc' ?_
   rw [h5,e,←hik]
   rfl
def BadQ (l:List Cg):Prop:=(∃c∈l,c.key.length=0∨64<c.key.length)∨¬(l.map Cg.key).Nodup
def LongQ (l:List Cg):Prop:=∃c∈l,20000<c.val.length
def WrongIs (l:List Cg) (e:Int):Prop:=(BadQ l∧e=1)∨(¬BadQ l∧LongQ l∧e=4)∨(¬BadQ l∧¬LongQ l∧e=0)
theorem WrongIs.one {l:List Cg}{e e':Int} (h:WrongIs l e) (h':WrongIs l e'):e=e':=by
 rcases h with ⟨h1,rfl⟩|⟨h1,h2,rfl⟩|⟨h1,h2,rfl⟩<;>rcases h' with ⟨g1,rfl⟩|⟨g1,g2,rfl⟩|⟨g1,g2,rfl⟩<;>first|rfl|exact absurd g1 h1|exact absurd h1 g1|exact absurd g2 h2|exact absurd h2 g2
theorem BadQ.perm {l m:List Cg} (h:l.Perm m) (hb:BadQ l):BadQ m:=by
 rcases hb with ⟨c,hc,hk⟩|hb
 ·exact .inl ⟨c,h.mem_iff.1 hc,hk⟩
 ·exact .inr fun hn=>hb (((h.map Cg.key).nodup_iff).2 hn)
theorem WrongIs.perm {l m:List Cg}{e:Int} (h:l.Perm m) (hw:WrongIs l e):WrongIs m e:=by
 have hL:LongQ l↔LongQ m:=⟨fun ⟨c,hc,hk⟩=>⟨c,h.mem_iff.1 hc,hk⟩,fun ⟨c,hc,hk⟩=>⟨c,h.mem_iff.2 hc,hk⟩⟩
 rcases hw with ⟨h1,h2⟩|⟨h1,h2,h3⟩|⟨h1,h2,h3⟩
 ·exact .inl ⟨h1.perm h,h2⟩
 ·exact .inr (.inl ⟨fun hb=>h1 (hb.perm h.symm),hL.1 h2,h3⟩)
 ·exact .inr (.inr ⟨fun hb=>h1 (hb.perm h.symm),fun hl=>h2 (hL.2 hl),h3⟩)
theorem WrongIs.zero {l:List Cg} (h:WrongIs l 0):(l.map Cg.key).Nodup∧∀c∈l,1≤c.key.length∧c.key.length≤64∧c.val.length≤20000:=by
 rcases h with ⟨_,h⟩|⟨_,_,h⟩|⟨h1,h2,_⟩
 ·omega
 ·omega
 ·refine ⟨Classical.byContradiction fun hn=>h1 (.inr hn),fun c hc=>⟨?_,?_,?_⟩⟩
  ·exact Nat.pos_of_ne_zero fun e=>h1 (.inl ⟨c,hc,.inl e⟩)
  ·exact Nat.not_lt.1 fun e=>h1 (.inl ⟨c,hc,.inr e⟩)
  ·exact Nat.not_lt.1 fun e=>h2 ⟨c,hc,e⟩
theorem tset_len (T:List KV) (c:Cg):(tset T c).length≤T.length+1:=by
 unfold tset
 have h:∀l:List KV,(l.filter (fun x=>decide (x.1<c.key))).length+(l.filter (fun x=>decide (c.key<x.1))).length≤l.length:=by
  intro l
  induction l with
  | nil=>simp
  | cons a l ih =>
   by_cases h1:a.1<c.key
   ·have h2:=klt_asymm h1
    simp only [List.filter_cons,h1,h2,decide_true,decide_false,if_true,List.length_cons]
    simp
    omega
   ·by_cases h2:c.key<a.1
    ·simp only [List.filter_cons,h1,h2,decide_true,decide_false,if_true,List.length_cons]
     simp
     omega
    ·simp only [List.filter_cons,h1,h2,decide_false,List.length_cons]
     simp
     omega
 have:=h T
 rw [List.length_append,List.length_append]
 have:(if c.gone then [] else [(c.key,c.val)]:List KV).length≤1:=by split<;>simp
 omega
theorem tapp_len:∀(cs:List Cg) (T:List KV),(tapp T cs).length≤T.length+cs.length
 | [],T=>by simp [tapp]
 | c::cs,T=>by
  have h1:=tapp_len cs (tset T c)
  have h2:=tset_len T c
  rw [tapp_cons,List.length_cons]
  omega
end Go.Proofs.YtgpbhlfdlkemjaaGreat
namespace Go.Proofs.YtgpbhlfdlkemjaaGreat
open Go.RowKit
set_option linter.unusedVariables false
structure Cq where
 c:Cg
 ad:Option Addr
 cap:Nat
instance:Inhabited Cq:=⟨⟨⟨[],[],false⟩,none,0⟩⟩
abbrev Cq.sl (x:Cq):Value:=.slice x.ad x.c.val.length x.cap
def encQ (x:Cq):List Value:=[Sv x.c.key,x.sl,.bool x.c.gone]
def CQ (l:List Cq):List (List Value):=l.map encQ
theorem CQ_length (l:List Cq):(CQ l).length=l.length:=by simp [CQ]
theorem encQ_one (x:Cq):∀v∈encQ x,v.oneCell'=true:=fun v hv=>by
 simp [encQ] at hv
 rcases hv with rfl|rfl|rfl<;>rfl
theorem CQ_wide (l:List Cq):Wide 3 (CQ l):=fun r hr=>by
 obtain ⟨x,_,rfl⟩:=List.mem_map.1 hr
 exact ⟨rfl,encQ_one x⟩
def RowQ (w:World) (v:Value) (l:List Cq):Prop:=ReadsR 3 w v (CQ l)
def ValsQ (w:World) (l:List Cq):Prop:=∀x∈l,Reads w x.sl x.c.val
theorem RowQ.kept {S:List Nat}{w w':World}{v:Value}{l:List Cq} (h:RowQ w v l) (k:Kept S w w') (hn:∀g,v.ownBlock=some g→g∉S):RowQ w' v l:=ReadsR.kept h k hn
theorem ValsQ.kept {S:List Nat}{w w':World}{l:List Cq} (h:ValsQ w l) (k:Kept S w w') (hn:∀x∈l,∀g,x.sl.ownBlock=some g→g∉S):ValsQ w' l:=fun x hx=>(h x hx).kept k (hn x hx)
theorem RowQ.form {w:World}{v:Value}{l:List Cq} (h:RowQ w v l):∃a c,v=.slice a l.length c∧l.length≤c∧c≤9223372036854775807:=by
 have:=ReadsR.form h
 rwa [CQ_length] at this
theorem RowQ.at {w:World}{a:Option Addr}{n c:Nat}{l:List Cq} (h:RowQ w (.slice a n c) l) {j:Nat}{x:Cq} (hx:l[j]?=some x):∃b o,a=some ⟨b,o,none⟩∧w.cell? ⟨b,o+j*3,none⟩=some (Sv x.c.key)∧w.cell? ⟨b,o+j*3+1,none⟩=some (.slice x.ad x.c.val.length x.cap)∧w.cell? ⟨b,o+j*3+2,none⟩=some (.bool x.c.gone):=by
 obtain ⟨b,o,c',e,hc⟩:=ReadsR.at h j (encQ x) (by simp [CQ,hx])
 injection e with e _ _
 have h0:=hc 0 _ rfl
 have h1:=hc 1 _ rfl
 have h2:=hc 2 _ rfl
 rw [Nat.add_zero] at h0
 exact ⟨b,o,e,h0,h1,h2⟩
theorem rt40:RowT 40 61 3 48 (.agg #[.string ⟨#[]⟩,.slice none 0 0,.bool false]):=⟨Tryz.underlying40,by kernel_rfl,rfl,by omega,by omega⟩
section
variable {w:World}
set_option maxRecDepth 100000 in
set_option maxHeartbeats 1000000 in
theorem cloneQ {v:Value}{l:List Cq} (hr:RowQ w v l) (hl:l.length≤900000):Calls Tryz.prog 42 #[v] w fun e w'=>∃v',e=.returned v'∧OwnsR 61 3 w' v' (CQ l)∧Kept [] w w'∧Fresh w v':=by
 obtain ⟨a,c,rfl,h1,h2⟩:=hr.form
 cases a with
 | none =>
  have h0:l=[]:=by
   obtain ⟨a',c',e,_,_,h4,_⟩:=id hr
   cases l with
   | nil=>rfl
   | cons x r =>
    obtain ⟨b,o,e,_⟩:=RowQ.at hr (j:=0) (x:=x) rfl
    cases e
  subst h0
  have hq:=fun w:World=>Lib.run_eql_slice_nil (P:=Tryz.prog) w 40 61 none 0 c 0 0 Tryz.underlying40
  go_enter Tryz.func42,Tryz.ntmps42
  go_wp2
  go_ret
  exact ⟨_,rfl,OwnsR.nil _ _ _,Kept.refl [] w,fun g hg=>by simp [Value.ownBlock] at hg⟩
 | some a =>
  have hq:=fun w:World=>Lib.run_eql_slice_nil (P:=Tryz.prog) w 40 61 (some a) l.length c 0 0 Tryz.underlying40
  have hmade:OwnsR 61 3 (w.alloc (.cells #[] 61)) (.slice (some ⟨w.heap.size,0,none⟩) 0 0) []:=World.ownsRow_made (base:=0) (e:=61) (size:=3) w #[] 0 (Nat.zero_le _) (by simp) (by simp)
  have hr1:=hr.kept (kept_alloc w (.cells #[] 61)) (by simp)
  obtain ⟨ad,c2,w2,hrun,ho2,hg2,hN2⟩:=run_appendR rt40 (w.alloc (.cells #[] 61)) 40 _ [] hmade _ (CQ l) (CQ_wide l) hr1 (by rw [CQ_length];show 0+l.length≤1000000;omega)
  simp only [List.length_nil,Nat.zero_add,List.nil_append] at hrun ho2 hN2
  have HF:Hid (∃v',(Value.slice ad (CQ l).length c2)=v'∧OwnsR 61 3 w2 v' (CQ l)∧Kept [] w w2∧Fresh w v'):=Hid.mk (by
   refine ⟨_,rfl,ho2,((Kept.refl [] w).alloc _).grown hg2 (fun k hk=>.inr (by simp [Value.ownBlock] at hk;omega)),fun g hg=>?_⟩
   rcases hN2 g hg with h|h
   ·simp [Value.ownBlock] at h;omega
   ·simp at h;omega)
  clear hmade hr1 ho2 hg2 hN2 hr
  go_enter Tryz.func42,Tryz.ntmps42
  go_wp2_with (at_builtin;refine wpList_append_run 40 _ _ rfl rfl _ _ rfl rfl _ _ hrun ?_)
  go_ret
  obtain ⟨v',rfl,h⟩:=HF.out
  exact ⟨_,rfl,h⟩
end
end Go.Proofs.YtgpbhlfdlkemjaaGreat
