import Derived.Test.YtgpbhlfdlkemjaaGreatH08
import Derived.Test.YtgpbhlfdlkemjaaGreatH11
/-
 read: the text of a name that lies on the disk.
-/
namespace Go.Proofs.YtgpbhlfdlkemjaaGreat
open Go.RowKit
set_option linter.unusedVariables false
def ReadAt (bs:List Nat) (l:List UInt8) (w:World) (e:Ending) (w':World):Prop :=
 ∃v1 v2,e=.returned (.tuple #[v1,v2,.int .i64 0])∧OwnsI w' v1 bs∧Owns 5 w' v2 l∧Kept [] w w'∧Fresh w v1∧Fresh w v2
theorem row_ne {w:World}{e t:TypeId}{sz n b:Nat}{v:Value}{xs:List Value}{cs:Array Value}{fr:Nat × Nat} (h:w.ownsRow 0 e sz v n xs) (hb:w.heap[b]?=some (.cells cs t fr)) (hne:e≠t):v.ownBlock≠some b:=fun hg=>by
 rcases h.2 with ⟨rfl,_⟩|⟨g,cap,cur,rfl,_,hg',_⟩
 ·simp [Value.ownBlock] at hg
 ·simp [Value.ownBlock] at hg
  subst hg
  rw [hg'] at hb
  injection hb with hb
  injection hb with _ hb
  exact hne hb
theorem rows_ne {w:World}{e t:TypeId}{sz sz' n n':Nat}{v u:Value}{xs ys:List Value} (h:w.ownsRow 0 e sz v n xs) (h':w.ownsRow 0 t sz' u n' ys) (hne:e≠t) (g:Nat) (hv:v.ownBlock=some g):u.ownBlock≠some g:=fun hu=>by
 rcases h'.2 with ⟨rfl,_⟩|⟨g',cap,cur,rfl,_,hg',_⟩
 ·simp [Value.ownBlock] at hu
 ·simp [Value.ownBlock] at hu
  subst hu
  exact row_ne h hg' hne hv
def lenOf:Value→Nat
 | .slice _ n _=>n
 | _=>0
theorem take_getD {bs:List Nat}{k:Nat} (h:k<bs.length):bs.take (k+1)=bs.take k++[bs.getD k 0]:=by
 rw [List.take_succ_eq_append_getElem h,List.getD_eq_getElem?_getD,List.getElem?_eq_getElem h]
 rfl
theorem pin_lies {b:Nat→List UInt8}{nm:Nat}{bs:List Nat}{l:List UInt8} (t:Bool) (h:Lies b nm bs l) (ht:∀k,k<bs.length→b (bs.getD k 0)=pblk t nm bs l k) (hnm:nm<65536) (k:Nat) (hk:k<bs.length) (v:Value) (w:World) (hr:Reads w v (b (bs.getD k 0))) :
  Calls Tryz.prog 96 #[.int .i64 (nm:Int),.int .i64 (bs.getD k 0:Int),v] w fun e w'=>∃v',e=.returned (.tuple #[ptV t (l.length-238*k) (bs.getD (k+1) 0) v',.bool true])∧Reads w' v' (chk l k)∧Kept [] w w'∧Fresh w v':=by
 have hp:=pblk_part t nm bs l k h.small h.long
 have:=pin_any nm (bs.getD k 0) v _ w hnm (getD_lt h.small k) hr
 refine this.mono ?_
 rintro e w' ⟨v',rfl,h1,h2⟩
 rw [ht k hk,hp.2] at h1 ⊢
 rw [decide_eq_true hp.1]
 exact ⟨v',rfl,h1,h2⟩
set_option maxRecDepth 100000 in
set_option maxHeartbeats 4000000 in
theorem rd_yes {w:World}{F G:List Nat}{p q fr ct:Nat}{T:List (Nat × List Nat)}{fl:List Nat}{s:St} (hD:IsD w F q s) (hP:IsP w G p q fr ct T fl) (hd:s.down=false) (ha:fr+ct≤s.nb) (nm:Nat) (bs:List Nat) (l:List UInt8) (hL:Lies (blk s.ws) nm bs l) (hin:∀x∈bs,fr≤x∧x<fr+ct) :
  Calls Tryz.prog 64 #[.pointer (some ⟨p,0,none⟩),.int .i64 (nm:Int)] w fun e w'=>ReadAt bs l w e w':=by
 have hnb:=hD.ok.nb
 have hlen:=hL.len
 have hlong:=hL.long
 have hbk:=bks_pos l.length
 have hb85:=bks_le hL.long
 obtain ⟨t,ht⟩:=hL.blocks
 have h0:nm=bs.getD 0 0:=by
  have:=hL.first
  rw [List.getD_eq_getElem?_getD,←List.head?_eq_getElem?,this]
  rfl
 have hnm:nm<65536:=by rw [h0];exact getD_lt hL.small 0
 have fin:∀v1 v2 w',OwnsI w' v1 bs→Owns 5 w' v2 l→Kept [] w w'→Fresh w v1→Fresh w v2→ReadAt bs l w (.returned (.tuple #[v1,v2,.int .i64 0])) w':=fun v1 v2 w' h1 h2 h3 h4 h5=>⟨v1,v2,rfl,h1,h2,h3,h4,h5⟩
 generalize ReadAt bs l w=Z at fin
 have k0:=kept_alloc w (.cells #[.bool false,.int .i64 0,.int .i64 0,.slice none 0 0] 161)
 have hb0:Bx (w.alloc (.cells #[.bool false,.int .i64 0,.int .i64 0,.slice none 0 0] 161)) w.heap.size false 0 0 (.slice none 0 0):=heap_alloc_new w _
 go_enter Tryz.func64,Tryz.ntmps64
 go_wp2_with fail
 generalize hw0:w.alloc (.cells #[.bool false,.int .i64 0,.int .i64 0,.slice none 0 0] 161)=w0 at k0 hb0
 generalize hlb:w.heap.size=lb at hb0
 clear hw0
 go_loopw [7,8,10] (fun v7 v8 i wr=>∃(k:Nat) (a7:Option Addr) (c7:Nat) (tt:Bool) (nn xx:Nat) (a:Option Addr) (m c:Nat),k<bs.length∧v7=.slice a7 k c7∧i=.int .i64 (bs.getD k 0:Int)∧OwnsI wr (.slice a7 k c7) (bs.take k)∧Owns 5 wr v8 (l.take (238*k))∧Fresh w (.slice a7 k c7)∧Fresh w v8∧(Value.slice a7 k c7).ownBlock≠some lb∧v8.ownBlock≠some lb∧Kept [] w wr∧Bx wr lb tt nn xx (.slice a m c)∧(0<k→tt=t∧nn=l.length-238*(k-1))) (fun v7 _ _ _=>bs.length-lenOf v7)
 case atStart=>exact ⟨0,none,0,false,0,0,none,0,0,by omega,rfl,by rw [h0],OwnsI.nil w0,Owns.nil 5 w0,by intro g hg;simp [Value.ownBlock] at hg,by intro g hg;simp [Value.ownBlock] at hg,by simp [Value.ownBlock],by simp [Value.ownBlock],k0,hb0,by omega⟩
 case round =>
  obtain ⟨k,a7,c7,tt,nn,xx,a,m,c,hk,rfl,rfl,hO7,hO8,hF7,hF8,hn7,hn8,kk,hbx,hfo⟩:=hrel
  clear hb0 k0
  have hat:=hin _ (getD_mem hk)
  have hnxs:bs.getD k 0<65536:=by omega
  have hDr:=hD.kept kk (by simp)
  have hPr:=hP.kept kk (by simp)
  obtain ⟨c0,c1,c2⟩:=hPr.cells
  have hh:=has_in p fr ct (bs.getD k 0) wr c1 c2 hat.1 hat.2 (by omega)
  have hpl:=fun v W hr=>pin_lies t hL ht hnm k hk v W hr
  have hbl:=blk_len s.nb s.ws hD.ok.ws (bs.getD k 0)
  have hbl1:k+1=bs.length↔l.length-238*k≤238:=by rw [hlen];exact bks_last (by omega)
  have htk:=take_getD hk
  have hck:=chk_take l k
  have hcl:=chk_len l k
  obtain ⟨A,hA⟩:∃A,Hid (bs.getD k 0=A):=⟨_,rfl⟩
  obtain ⟨NX,hNX⟩:∃NX,Hid (bs.getD (k+1) 0=NX):=⟨_,rfl⟩
  rw [hA.out,hNX.out] at hpl
  rw [hA.out] at hat hnxs hh hbl htk ⊢
  clear c0 c1 c2 hL ht h0
  have Hfin:=Hid.mk fin
  clear fin
  go_wp2_with fail
  refine hh.mono ?_
  rintro e w1 ⟨rfl,k1⟩
  have hrdr:=read_ok (hDr.kept k1 (by simp)) A hd (by omega)
  have hO7:=hO7.kept k1 (by simp)
  have hO8:=hO8.kept k1 (by simp)
  have hbx:=hbx.kept k1 (by simp)
  have hPr:=hPr.kept k1 (by simp)
  have kk:=kk.trans k1 (by simp)
  clear hh k1 hDr
  obtain ⟨c0,-,-⟩:=hPr.cells
  go_wp2_with fail
  refine hrdr.mono ?_
  rintro e w2 ⟨rfl,hR2,k2⟩
  have hr2:=hR2.reads_all hbl
  have hO7:=hO7.kept k2 (by simp)
  have hO8:=hO8.kept k2 (by simp)
  have hbx:=hbx.kept k2 (by simp)
  have kk:=kk.trans k2 (by simp)
  have hp2:=hpl _ w2 hr2
  clear hrdr hR2 hr2 k2 hPr c0 hpl hbl
  generalize w1.heap.size=rb at hp2
  go_wp2_with fail
  refine hp2.mono ?_
  rintro e w3 ⟨v3,rfl,hr3,k3,hFr3⟩
  have h73:∀g,(Value.slice a7 k c7).ownBlock=some g→g<w2.heap.size:=fun g hg=>hO7.lt hg
  have hO7:=hO7.kept k3 (by simp)
  have hO8:=hO8.kept k3 (by simp)
  have hbx:=hbx.kept k3 (by simp)
  have kk:=kk.trans k3 (by simp)
  clear hp2 k3
  obtain ⟨a3,cp3,rfl,hlc3,hmc3,-⟩:=id hr3
  obtain ⟨n3,hn3⟩:∃n3,Hid ((chk l k).length=n3):=⟨_,rfl⟩
  obtain ⟨LF,hLF⟩:∃LF,Hid (l.length-238*k=LF):=⟨_,rfl⟩
  rw [hn3.out] at hr3 hlc3 hFr3 ⊢
  rw [hLF.out] at hbl1 hcl ⊢
  have k4:=kept_alloc w3 (.cells #[.bool t,.int .i64 (LF:Int),.int .i64 (NX:Int),.slice a3 n3 cp3] 161)
  have hb4:Bx (w3.alloc (.cells #[.bool t,.int .i64 (LF:Int),.int .i64 (NX:Int),.slice a3 n3 cp3] 161)) w3.heap.size t LF NX (.slice a3 n3 cp3):=heap_alloc_new w3 _
  have hO7:=hO7.kept k4 (by simp)
  have hO8:=hO8.kept k4 (by simp)
  have hbxlt:=hbx.lt
  have hbx:=hbx.kept k4 (by simp)
  have hr4:=hr3.kept k4 (by simp)
  have kk:=kk.trans k4 (by simp)
  have hbl4:lb≠w3.heap.size:=by omega
  obtain ⟨w4,hw4⟩:∃w4,w3.alloc (.cells #[.bool t,.int .i64 (LF:Int),.int .i64 (NX:Int),.slice a3 n3 cp3] 161)=w4:=⟨_,rfl⟩
  obtain ⟨fb,hfb⟩:∃fb,w3.heap.size=fb:=⟨_,rfl⟩
  rw [hw4] at k4 hb4 hO7 hO8 hbx hr4 kk
  rw [hfb] at hb4 hbl4
  clear k4 hr3 hlc3 hmc3
  by_cases hk0:k=0
  ·have hki:(0<k)=False:=eq_false (by omega)
   have hki2:((0:Int)<(k:Int))=False:=eq_false (by omega)
   clear hfo hk0
   have hO7l:(bs.take k).length=k:=by rw [List.length_take];omega
   obtain ⟨ad7,d7,w6,hrun6,hO6,k6,hN6⟩:=append_int hO7 A (by rw [hO7l];omega)
   rw [hO7l] at hrun6 hO6 hN6
   rw [←htk] at hO6
   have hx6:(Value.slice a7 k c7).ownBlock≠some fb:=row_ne hO7 (id hb4) (by decide)
   have hb6:=hb4.kept k6 (by rw [Option.mem_toList];exact hx6)
   have hbx6:=hbx.kept k6 (by rw [Option.mem_toList];exact hn7)
   have hO86:=hO8.kept k6 (fun g hg=>by rw [Option.mem_toList];exact fun e=>rows_ne hO7 hO8 (by decide) g e hg)
   have hr6:=hr4.kept k6 (fun g hg=>by rw [Option.mem_toList];exact fun e=>by have:=hFr3 g hg;have:=h73 g e;omega)
   have kk6:Kept [] w w6:=kk.trans k6 (fun x hx=>.inr (hF7 x (by rw [Option.mem_toList] at hx;exact hx)))
   have hF6:Fresh w (.slice ad7 (k+1) d7):=fun g hg=>by
    rcases hN6 g hg with h|h
    ·exact hF7 g h
    ·have:=kk.size;omega
   have hn6:(Value.slice ad7 (k+1) d7).ownBlock≠some lb:=fun h=>by
    rcases hN6 _ h with h|h
    ·exact hn7 h
    ·have:=hbx.lt;omega
   have h6f:(Value.slice ad7 (k+1) d7).ownBlock≠some fb:=row_ne hO6 hb6 (by decide)
   obtain ⟨ad8,n8,d8,w7,hrun7,hO87,hg7,hN7⟩:=run_append_reads w6 48 u8 _ hO86 _ _ hr6 (by rw [List.length_take];have:=hn3.out;omega)
   rw [hck] at hO87
   have k7:Kept u8.ownBlock.toList w6 w7:=(Kept.refl _ w6).grown hg7 (fun x hx=>.inl (by rw [Option.mem_toList];exact hx))
   have h8f:u8.ownBlock≠some fb:=row_ne hO8 hb4 (by decide)
   have hb7:=hb6.kept k7 (by rw [Option.mem_toList];exact h8f)
   have hbx7:=hbx6.kept k7 (by rw [Option.mem_toList];exact hn8)
   have hO67:=OwnsI.kept hO6 k7 (fun g hg=>by rw [Option.mem_toList];exact rows_ne hO6 hO86 (by decide) g hg)
   have kk7:Kept [] w w7:=kk6.trans k7 (fun x hx=>.inr (hF8 x (by rw [Option.mem_toList] at hx;exact hx)))
   have hF78:Fresh w (.slice ad8 n8 d8):=fun g hg=>by
    rcases hN7 g hg with h|h
    ·exact hF8 g h
    ·have:=kk6.size;omega
   have hn78:(Value.slice ad8 n8 d8).ownBlock≠some lb:=fun h=>by
    rcases hN7 _ h with h|h
    ·exact hn8 h
    ·have:=hbx6.lt;omega
   obtain ⟨y0,y1,y2,y3⟩:=hb6.cells
   obtain ⟨z0,z1,z2,z3⟩:=hb7.cells
   have hil:=isLast_any t LF NX a3 n3 cp3 w7
   clear hO7 hO8 hb4 hbx hr4 kk k6 hN6 hb6 hbx6 hO86 hr6 kk6 hg7 hN7 k7 hO6
   have HO67:=Hid.mk hO67
   have HO87:=Hid.mk hO87
   clear hO67 hO87
   go_wp2_with (at_builtin;first|refine wpList_append_run 41 (.tmp 53) (.tmp 55) rfl rfl _ _ rfl rfl _ _ hrun6 ?_|refine wpList_append_run 48 (.tmp 57) (.tmp 59) rfl rfl _ _ rfl rfl _ _ hrun7 ?_)
   refine hil.mono ?_
   rintro e w8 ⟨rfl,k8⟩
   have hb8:=hb7.kept k8 (by simp)
   have hbx8:=hbx7.kept k8 (by simp)
   have kk8:=kk7.trans k8 (by simp)
   have HO68:=Hid.mk (HO67.out.kept k8 (by simp))
   have HO88:=Hid.mk (HO87.out.kept k8 (by simp))
   clear hil hrun6 hrun7 y0 y1 y2 y3 z0 z1 z2 z3 hb7 hbx7 kk7 k8 HO67 HO87
   by_cases hlast:LF≤238
   ·have hkl:k+1=bs.length:=hbl1.2 hlast
    have hdl:decide (LF≤238)=true:=by simp [hlast]
    have e1:bs.take (k+1)=bs:=by rw [hkl];simp
    have e2:l.take (238*(k+1))=l:=by
     apply List.take_of_length_le
     have:=hLF.out
     omega
    rw [e1] at HO68
    rw [e2] at HO88
    have hf:=Hid.mk (Hfin.out _ _ w8 HO68.out HO88.out kk8 hF6 hF78)
    clear Hfin hkl e1 e2
    go_wp2
    refine bodyPost_ret (results_tmp3 rfl _ _ _) rfl ?_
    exact hf.out
   ·have hdl:decide (LF≤238)=false:=by simp [hlast]
    obtain ⟨y0,y1,y2,y3⟩:=hb8.cells
    obtain ⟨z0,z1,z2,z3⟩:=hbx8.cells
    have f0:=hbx8.free 0
    have f1:=hbx8.free 1
    have f2:=hbx8.free 2
    have f3:=hbx8.free 3
    obtain ⟨hbx9,k9⟩:=hbx8.set t LF NX (.slice a3 n3 cp3)
    have kk9:=kk8.trans k9 (fun x hx=>.inr (by simp at hx;omega))
    have HO69:=Hid.mk (HO68.out.kept k9 (fun g hg=>by simp;intro e;subst e;exact hn6 hg))
    have HO89:=Hid.mk (HO88.out.kept k9 (fun g hg=>by simp;intro e;subst e;exact hn78 hg))
    have HB9:=Hid.mk hbx9
    have HK9:=Hid.mk kk9
    unfold Bx at hb8 hbx8
    have hk1:k+1<bs.length:=by
     have:¬k+1=bs.length:=fun h=>hlast (hbl1.1 h)
     omega
    clear hbx9 k9 kk9 kk8 HO68 HO88 Hfin
    go_wp2
    go_roundw
    case rel=>exact ⟨k+1,ad7,d7,t,LF,NX,a3,n3,cp3,hk1,rfl,by rw [hNX.out],HO69.out,HO89.out,hF6,hF78,hn6,hn78,HK9.out,HB9.out,fun _=>⟨rfl,by rw [Nat.add_sub_cancel,hLF.out]⟩⟩
    case measure=>simp only [lenOf];omega
  ·obtain ⟨rfl,hnn⟩:=hfo (by omega)
   have hki:(0<k)=True:=eq_true (by omega)
   have hki2:((0:Int)<(k:Int))=True:=eq_true (by omega)
   obtain ⟨x0,x1,x2,x3⟩:=hbx.cells
   obtain ⟨y0,y1,y2,y3⟩:=hb4.cells
   have h238:238*k<l.length:=(lt_bks (by omega)).1 (by omega)
   have hfl:=follows_yes tt LF NX nn xx a3 a n3 cp3 m c w4 (by have:=hLF.out;omega) (by omega)
   clear hnn h238 hfo
   go_wp2_with fail
   refine hfl.mono ?_
   rintro e w5 ⟨rfl,k5⟩
   clear hw4 hfb hfl x0 x1 x2 x3 y0 y1 y2 y3
   have hO7:=hO7.kept k5 (by simp)
   have hO8:=hO8.kept k5 (by simp)
   have hb4:=hb4.kept k5 (by simp)
   have hbx:=hbx.kept k5 (by simp)
   have hr4:=hr4.kept k5 (by simp)
   have kk:=kk.trans k5 (by simp)
   clear k5
   have hO7l:(bs.take k).length=k:=by rw [List.length_take];omega
   obtain ⟨ad7,d7,w6,hrun6,hO6,k6,hN6⟩:=append_int hO7 A (by rw [hO7l];omega)
   rw [hO7l] at hrun6 hO6 hN6
   rw [←htk] at hO6
   have hx6:(Value.slice a7 k c7).ownBlock≠some fb:=row_ne hO7 (id hb4) (by decide)
   have hb6:=hb4.kept k6 (by rw [Option.mem_toList];exact hx6)
   have hbx6:=hbx.kept k6 (by rw [Option.mem_toList];exact hn7)
   have hO86:=hO8.kept k6 (fun g hg=>by rw [Option.mem_toList];exact fun e=>rows_ne hO7 hO8 (by decide) g e hg)
   have hr6:=hr4.kept k6 (fun g hg=>by rw [Option.mem_toList];exact fun e=>by have:=hFr3 g hg;have:=h73 g e;omega)
   have kk6:Kept [] w w6:=kk.trans k6 (fun x hx=>.inr (hF7 x (by rw [Option.mem_toList] at hx;exact hx)))
   have hF6:Fresh w (.slice ad7 (k+1) d7):=fun g hg=>by
    rcases hN6 g hg with h|h
    ·exact hF7 g h
    ·have:=kk.size;omega
   have hn6:(Value.slice ad7 (k+1) d7).ownBlock≠some lb:=fun h=>by
    rcases hN6 _ h with h|h
    ·exact hn7 h
    ·have:=hbx.lt;omega
   have h6f:(Value.slice ad7 (k+1) d7).ownBlock≠some fb:=row_ne hO6 hb6 (by decide)
   obtain ⟨ad8,n8,d8,w7,hrun7,hO87,hg7,hN7⟩:=run_append_reads w6 48 u8 _ hO86 _ _ hr6 (by rw [List.length_take];have:=hn3.out;omega)
   rw [hck] at hO87
   have k7:Kept u8.ownBlock.toList w6 w7:=(Kept.refl _ w6).grown hg7 (fun x hx=>.inl (by rw [Option.mem_toList];exact hx))
   have h8f:u8.ownBlock≠some fb:=row_ne hO8 hb4 (by decide)
   have hb7:=hb6.kept k7 (by rw [Option.mem_toList];exact h8f)
   have hbx7:=hbx6.kept k7 (by rw [Option.mem_toList];exact hn8)
   have hO67:=OwnsI.kept hO6 k7 (fun g hg=>by rw [Option.mem_toList];exact rows_ne hO6 hO86 (by decide) g hg)
   have kk7:Kept [] w w7:=kk6.trans k7 (fun x hx=>.inr (hF8 x (by rw [Option.mem_toList] at hx;exact hx)))
   have hF78:Fresh w (.slice ad8 n8 d8):=fun g hg=>by
    rcases hN7 g hg with h|h
    ·exact hF8 g h
    ·have:=kk6.size;omega
   have hn78:(Value.slice ad8 n8 d8).ownBlock≠some lb:=fun h=>by
    rcases hN7 _ h with h|h
    ·exact hn8 h
    ·have:=hbx6.lt;omega
   obtain ⟨y0,y1,y2,y3⟩:=hb6.cells
   obtain ⟨z0,z1,z2,z3⟩:=hb7.cells
   have hil:=isLast_any tt LF NX a3 n3 cp3 w7
   clear hO7 hO8 hb4 hbx hr4 kk k6 hN6 hb6 hbx6 hO86 hr6 kk6 hg7 hN7 k7 hO6
   have HO67:=Hid.mk hO67
   have HO87:=Hid.mk hO87
   clear hO67 hO87
   go_wp2_with (at_builtin;first|refine wpList_append_run 41 (.tmp 53) (.tmp 55) rfl rfl _ _ rfl rfl _ _ hrun6 ?_|refine wpList_append_run 48 (.tmp 57) (.tmp 59) rfl rfl _ _ rfl rfl _ _ hrun7 ?_)
   refine hil.mono ?_
   rintro e w8 ⟨rfl,k8⟩
   have hb8:=hb7.kept k8 (by simp)
   have hbx8:=hbx7.kept k8 (by simp)
   have kk8:=kk7.trans k8 (by simp)
   have HO68:=Hid.mk (HO67.out.kept k8 (by simp))
   have HO88:=Hid.mk (HO87.out.kept k8 (by simp))
   clear hil hrun6 hrun7 y0 y1 y2 y3 z0 z1 z2 z3 hb7 hbx7 kk7 k8 HO67 HO87
   by_cases hlast:LF≤238
   ·have hkl:k+1=bs.length:=hbl1.2 hlast
    have hdl:decide (LF≤238)=true:=by simp [hlast]
    have e1:bs.take (k+1)=bs:=by rw [hkl];simp
    have e2:l.take (238*(k+1))=l:=by
     apply List.take_of_length_le
     have:=hLF.out
     omega
    rw [e1] at HO68
    rw [e2] at HO88
    have hf:=Hid.mk (Hfin.out _ _ w8 HO68.out HO88.out kk8 hF6 hF78)
    clear Hfin hkl e1 e2
    go_wp2
    refine bodyPost_ret (results_tmp3 rfl _ _ _) rfl ?_
    exact hf.out
   ·have hdl:decide (LF≤238)=false:=by simp [hlast]
    obtain ⟨y0,y1,y2,y3⟩:=hb8.cells
    obtain ⟨z0,z1,z2,z3⟩:=hbx8.cells
    have f0:=hbx8.free 0
    have f1:=hbx8.free 1
    have f2:=hbx8.free 2
    have f3:=hbx8.free 3
    obtain ⟨hbx9,k9⟩:=hbx8.set tt LF NX (.slice a3 n3 cp3)
    have kk9:=kk8.trans k9 (fun x hx=>.inr (by simp at hx;omega))
    have HO69:=Hid.mk (HO68.out.kept k9 (fun g hg=>by simp;intro e;subst e;exact hn6 hg))
    have HO89:=Hid.mk (HO88.out.kept k9 (fun g hg=>by simp;intro e;subst e;exact hn78 hg))
    have HB9:=Hid.mk hbx9
    have HK9:=Hid.mk kk9
    unfold Bx at hb8 hbx8
    have hk1:k+1<bs.length:=by
     have:¬k+1=bs.length:=fun h=>hlast (hbl1.1 h)
     omega
    clear hbx9 k9 kk9 kk8 HO68 HO88 Hfin
    go_wp2
    go_roundw
    case rel=>exact ⟨k+1,ad7,d7,tt,LF,NX,a3,n3,cp3,hk1,rfl,by rw [hNX.out],HO69.out,HO89.out,hF6,hF78,hn6,hn78,HK9.out,HB9.out,fun _=>⟨rfl,by rw [Nat.add_sub_cancel,hLF.out]⟩⟩
    case measure=>simp only [lenOf];omega
def ReadNo (w:World) (e:Ending) (w':World):Prop:=e=.returned (.tuple #[.slice none 0 0,.slice none 0 0,.int .i64 0])∧Kept [] w w'
set_option maxRecDepth 100000 in
set_option maxHeartbeats 1000000 in
theorem rd_out {w:World}{F G:List Nat}{p q fr ct:Nat}{T:List (Nat × List Nat)}{fl:List Nat} (hP:IsP w G p q fr ct T fl) (ha:fr+ct≤65536) (nm:Nat) (ho:nm<fr∨fr+ct≤nm) (hb:nm<4611686018427387904) :
  Calls Tryz.prog 64 #[.pointer (some ⟨p,0,none⟩),.int .i64 (nm:Int)] w fun e w'=>ReadNo w e w':=by
 have fin:∀w',Kept [] w w'→ReadNo w (.returned (.tuple #[.slice none 0 0,.slice none 0 0,.int .i64 0])) w':=fun w' h=>⟨rfl,h⟩
 generalize ReadNo w=Z at fin
 have k0:=kept_alloc w (.cells #[.bool false,.int .i64 0,.int .i64 0,.slice none 0 0] 161)
 obtain ⟨-,c1,c2⟩:=(hP.kept k0 (by simp)).cells
 have hh:=has_out p fr ct nm _ c1 c2 ho ha hb
 clear c1 c2
 go_enter Tryz.func64,Tryz.ntmps64
 go_wp2_with fail
 generalize w.alloc (.cells #[.bool false,.int .i64 0,.int .i64 0,.slice none 0 0] 161)=w0 at k0 hh
 go_loopw [10] (fun i wr=>i=.int .i64 (nm:Int)∧wr=w0) (fun _ _=>0)
 case atStart=>exact ⟨rfl,rfl⟩
 case round =>
  obtain ⟨rfl,rfl⟩:=hrel
  go_wp2_with fail
  refine hh.mono ?_
  rintro e w1 ⟨rfl,k1⟩
  have hf:=Hid.mk (fin _ (k0.trans k1 (by simp)))
  clear fin
  go_wp2
  refine bodyPost_ret (results_tmp3 rfl _ _ _) rfl ?_
  exact hf.out
set_option maxRecDepth 100000 in
set_option maxHeartbeats 1000000 in
theorem rd_none {w:World}{F G:List Nat}{p q fr ct:Nat}{T:List (Nat × List Nat)}{fl:List Nat}{s:St} (hD:IsD w F q s) (hP:IsP w G p q fr ct T fl) (hd:s.down=false) (ha:fr+ct≤s.nb) (nm:Nat) (h1:fr≤nm) (h2:nm<fr+ct) (hn:¬isPart (plc nm nm) (blk s.ws nm)) :
  Calls Tryz.prog 64 #[.pointer (some ⟨p,0,none⟩),.int .i64 (nm:Int)] w fun e w'=>ReadNo w e w':=by
 have hnb:=hD.ok.nb
 have fin:∀w',Kept [] w w'→ReadNo w (.returned (.tuple #[.slice none 0 0,.slice none 0 0,.int .i64 0])) w':=fun w' h=>⟨rfl,h⟩
 generalize ReadNo w=Z at fin
 have k0:=kept_alloc w (.cells #[.bool false,.int .i64 0,.int .i64 0,.slice none 0 0] 161)
 have hP0:=hP.kept k0 (by simp)
 have hD0:=hD.kept k0 (by simp)
 obtain ⟨-,c1,c2⟩:=hP0.cells
 have hh:=has_in p fr ct nm _ c1 c2 h1 h2 (by omega)
 have hbl:=blk_len s.nb s.ws hD.ok.ws nm
 clear c1 c2
 go_enter Tryz.func64,Tryz.ntmps64
 go_wp2_with fail
 generalize w.alloc (.cells #[.bool false,.int .i64 0,.int .i64 0,.slice none 0 0] 161)=w0 at k0 hh hP0 hD0
 go_loopw [10] (fun i wr=>i=.int .i64 (nm:Int)∧wr=w0) (fun _ _=>0)
 case atStart=>exact ⟨rfl,rfl⟩
 case round =>
  obtain ⟨rfl,rfl⟩:=hrel
  go_wp2_with fail
  refine hh.mono ?_
  rintro e w1 ⟨rfl,k1⟩
  have hrdr:=read_ok (hD0.kept k1 (by simp)) nm hd (by omega)
  have hP1:=hP0.kept k1 (by simp)
  have kk:=k0.trans k1 (by simp)
  obtain ⟨c0,-,-⟩:=hP1.cells
  clear hh k1 hD0 hP0
  go_wp2_with fail
  refine hrdr.mono ?_
  rintro e w2 ⟨rfl,hR2,k2⟩
  have hp2:=pin_any nm nm _ _ w2 (by omega) (by omega) (hR2.reads_all hbl)
  have kk:=kk.trans k2 (by simp)
  clear hrdr hR2 k2 c0
  generalize w1.heap.size=rb at hp2
  go_wp2_with fail
  refine hp2.mono ?_
  rintro e w3 ⟨v3,rfl,hr3,k3,-⟩
  rw [decide_eq_false hn]
  obtain ⟨a3,cp3,rfl,-⟩:=hr3
  have kk:=kk.trans k3 (by simp)
  clear hp2 k3
  generalize partOf (plc nm nm) (blk s.ws nm)=P at kk
  obtain ⟨t,lf,nx,l⟩:=P
  simp only
  have hf:=Hid.mk (fin _ (kk.alloc (.cells #[.bool t,.int .i64 (lf:Int),.int .i64 (nx:Int),.slice a3 l.length cp3] 161)))
  clear fin kk
  generalize l.length=n3 at hf
  go_wp2
  refine bodyPost_ret (results_tmp3 rfl _ _ _) rfl ?_
  exact hf.out
section
variable {w:World}{F G:List Nat}{p q fr ct:Nat}{T:List (Nat × List Nat)}{fl:List Nat}{s:St}
theorem IsP.noKey {M:List Tx} (hT:T=M.map (fun x=>(x.1,x.2.1))) {k:Int} (h:∀x∈T,(x.1:Int)≠k):k∉(M.map entry).map (·.1):=by
 rw [keys_map]
 intro hm
 obtain ⟨y,hy,he⟩:=List.mem_map.1 hm
 exact h (y.1,y.2.1) (by rw [hT];exact List.mem_map.2 ⟨y,hy,rfl⟩) he
set_option maxRecDepth 100000 in
theorem drop_none (hP:IsP w G p q fr ct T fl) (k:Int) (hw:(Lit.int .i64 k).wf=true) (hk:∀x∈T,(x.1:Int)≠k):Calls Tryz.prog 54 #[.pointer (some ⟨p,0,none⟩),.int .i64 k] w fun e w'=>e=.returned (.int .i64 5)∧w=w':=by
 obtain ⟨mb,M,c3,hM,hT,-,-⟩:=hP.map
 have hl:=hM.look_none hw (IsP.noKey hT hk)
 clear hP hM
 go_enter Tryz.func54,Tryz.ntmps54
 go_wp2
 go_ret
 exact ⟨rfl,rfl⟩
theorem IsP.at {M:List Tx} (hT:T=M.map (fun x=>(x.1,x.2.1))) {nm:Nat}{bs:List Nat} (h:(nm,bs)∈T):∃v,(nm,bs,v)∈M∧((nm:Int),v)∈M.map entry:=by
 rw [hT] at h
 obtain ⟨⟨x1,x2,x3⟩,hx,he⟩:=List.mem_map.1 h
 simp at he
 obtain ⟨rfl,rfl⟩:=he
 exact ⟨x3,hx,List.mem_map.2 ⟨_,hx,rfl⟩⟩
set_option maxRecDepth 100000 in
set_option maxHeartbeats 400000 in
theorem get_ok (hD:IsD w F q s) (hP:IsP w G p q fr ct T fl) (hd:s.down=false) (ha:fr+ct≤s.nb) (nm:Nat) (bs:List Nat) (l:List UInt8) (hT:(nm,bs)∈T) (hL:Lies (blk s.ws) nm bs l) (hin:∀x∈bs,fr≤x∧x<fr+ct) :
  Calls Tryz.prog 67 #[.pointer (some ⟨p,0,none⟩),.int .i64 (nm:Int)] w fun e w'=>∃v,e=.returned (.tuple #[v,.int .i64 0])∧Owns 5 w' v l∧Kept [] w w'∧Fresh w v:=by
 obtain ⟨mb,M,c3,hM,hTM,hR,-⟩:=hP.map
 obtain ⟨v,hvM,hvm⟩:=IsP.at hTM hT
 have hl:=hM.look hvm
 have hrd:=rd_yes hD hP hd ha nm bs l hL hin
 have hbl:0<bs.length:=by rw [hL.len];exact bks_pos _
 clear hP hM hD hR
 obtain ⟨N,hN⟩:∃N,Hid (bs.length=N):=⟨_,rfl⟩
 go_enter Tryz.func67,Tryz.ntmps67
 go_wp2_with fail
 refine hrd.mono ?_
 rintro e w1 ⟨v1,v2,rfl,hO1,hO2,k1,hF1,hF2⟩
 obtain ⟨a1,c1,rfl,-⟩:=hO1.form
 have hNi:((N:Int) == 0)=false:=by have:=hN.out;simp;omega
 rw [hN.out]
 have hf:=Hid.mk (And.intro hO2 (And.intro k1 hF2))
 clear hO1 hO2 k1 hF1 hF2 hrd hl
 go_wp2
 go_ret2
 exact ⟨_,rfl,hf.out⟩
set_option maxRecDepth 100000 in
set_option maxHeartbeats 400000 in
theorem blocks_ok (hP:IsP w G p q fr ct T fl) (nm:Nat) (bs:List Nat) (hT:(nm,bs)∈T) (hb:bs.length≤65536) :
  Calls Tryz.prog 65 #[.pointer (some ⟨p,0,none⟩),.int .i64 (nm:Int)] w fun e w'=>∃v,e=.returned v∧FrS w' v bs∧Kept [] w w'∧Fresh w v:=by
 obtain ⟨mb,M,c3,hM,hTM,hR,-⟩:=hP.map
 obtain ⟨v,hvM,hvm⟩:=IsP.at hTM hT
 have hl:=hM.get hvm
 have hcl:=clone_ints v bs (hR _ hvM) (by omega)
 clear hP hM hR
 go_enter Tryz.func65,Tryz.ntmps65
 go_wp2_with fail
 refine hcl.mono ?_
 rintro e w1 ⟨v1,rfl,hF1,k1,hFr⟩
 go_wp2
 go_ret
 exact ⟨_,rfl,hF1,k1,hFr⟩
end
set_option maxRecDepth 4000 in
theorem IsP.drop {w:World}{G:List Nat}{p q fr ct:Nat}{T:List (Nat × List Nat)}{fl:List Nat} (h:IsP w G p q fr ct T fl) (nm:Nat) (bs:List Nat) (hm:(nm,bs)∈T) (hb:fl.length+bs.length≤100000) (ty:TypeId) :
  ∃v vf mb w2 ad c w3 G',w.cell? ⟨p,3,none⟩=some (.map (some mb))∧(Instr.lookup 63 (.map (some mb)) (.int .i64 (nm:Int)) true).run Tryz.prog w=.ok (.tuple #[v,.bool true]) w∧(Builtin.delete_ #[63,3] ty #[.map (some mb),.int .i64 (nm:Int)]).run Tryz.prog w=.ok (.tuple #[]) w2∧w2.cell? ⟨p,3,none⟩=some (.map (some mb)) ∧
   w2.cell? ⟨p,4,none⟩=some vf∧(Builtin.append_ #[41,41] 41 #[vf,v]).run Tryz.prog w2=.ok (.slice ad (fl.length+bs.length) c) w3∧w3.cell? ⟨p,4,none⟩=some vf∧w3.frozen? ⟨p,4,none⟩=false ∧
   IsP (w3.setCell ⟨p,4,none⟩ (.slice ad (fl.length+bs.length) c)) G' p q fr ct (T.filter fun x=>x.1 != nm) (fl++bs)∧Kept G w (w3.setCell ⟨p,4,none⟩ (.slice ad (fl.length+bs.length) c))∧NewF w G G':=by
 obtain ⟨mb,vf,M,rfl,h1,h2,h3,h4,h5,h6,h7,h8⟩:=h
 obtain ⟨v,hvM,hvm⟩:=IsP.at h3 hm
 obtain ⟨w2,hdel,hM2,k2⟩:=h2.del hvm ty
 have h12:=k2.keeps h1 (by simp;omega)
 have hF2:=h5.kept k2 (fun g hg=>by simp;rintro rfl;exact h8 hg)
 have hv2:ReadsI w2 v bs:=(h4 _ hvM).1.kept k2 (fun g hg=>by simp;exact ((h4 _ hvM).2 g hg).2.2.1)
 obtain ⟨ad,c,w3,hrun,hF3,k3,hN3⟩:=hF2.append hv2 (by omega)
 have h13:=k3.keeps h12 (by rw [Option.mem_toList];exact h7)
 have k4:Kept [p] w3 (w3.setCell ⟨p,4,none⟩ (.slice ad (fl.length+bs.length) c)):=(Kept.refl [p] w3).setCell (.inl (by simp)) _
 have kk:Kept (p::mb::vf.ownBlock.toList) w (w3.setCell ⟨p,4,none⟩ (.slice ad (fl.length+bs.length) c)):=((k2.mono (fun x hx=>.inl (by simp at hx;simp [hx]))).trans k3 (fun x hx=>.inl (by simp [hx]))).trans k4 (fun x hx=>.inl (by simp at hx;simp [hx]))
 have hne:∀g,g<w.heap.size→vf.ownBlock≠some g→(Value.slice ad (fl.length+bs.length) c).ownBlock≠some g:=fun g hl hn he=>by
  rcases hN3 g he with h|h
  ·exact hn h
  ·have:=k2.size;omega
 have hpl:=lt_of_block h1
 refine ⟨v,vf,mb,w2,ad,c,w3,p::mb::((Value.slice ad (fl.length+bs.length) c).ownBlock.toList++obs ((M.filter fun x=>x.1 != nm).map (·.2.2))),by simp [World.cell?,h1],h2.look hvm,hdel,by simp [World.cell?,h12],by simp [World.cell?,h12],hrun,by simp [World.cell?,h13],by simp [World.frozen?,h13],⟨mb,_,M.filter fun x=>x.1 != nm,rfl,?_,?_,?_,?_,?_,h6,hne p hpl h7,hne mb h2.lt h8⟩,kk.mono (fun x hx=>.inl ?_),?_⟩
 ·rw [heap_setCell_same w3 p 4 _ 65 _ h13];rfl
 ·have:(M.filter fun x=>x.1 != nm).map entry=(M.map entry).filter fun x=>x.1 != (nm:Int):=by
   rw [List.filter_map]
   congr 1
   apply List.filter_congr
   intro x _
   simp only [entry,bne,Function.comp]
   congr 1
   rw [Bool.eq_iff_iff]
   simp
   omega
  rw [this]
  exact (hM2.kept k3 (by rw [Option.mem_toList];exact h8)).kept k4 (by simp;omega)
 ·rw [h3,List.filter_map]
  rfl
 ·intro x hx
  have hx':=(List.mem_filter.1 hx).1
  have h4x:=h4 x hx'
  refine ⟨h4x.1.kept kk (fun g hg=>?_),fun g hg=>?_⟩
  ·have:=h4x.2 g hg
   simp only [List.mem_cons,Option.mem_toList,not_or]
   exact ⟨this.2.1,this.2.2.1,this.2.2.2⟩
  ·have:=h4x.2 g hg
   exact ⟨Nat.lt_of_lt_of_le this.1 kk.size,this.2.1,this.2.2.1,hne g this.1 this.2.2.2⟩
 ·exact hF3.kept k4 (fun g hg=>by simp;rintro rfl;exact hne _ hpl h7 hg)
 ·simp only [List.mem_cons,List.mem_append] at hx ⊢
  rcases hx with h|h|h
  ·exact .inl h
  ·exact .inr (.inl h)
  ·exact .inr (.inr (.inl h))
 ·intro x hx
  simp only [List.mem_cons,List.mem_append,Option.mem_toList,mem_obs,List.mem_map] at hx ⊢
  rcases hx with rfl|rfl|hx|⟨y,⟨z,hz,rfl⟩,hy⟩
  ·exact .inl (.inl rfl)
  ·exact .inl (.inr (.inl rfl))
  ·rcases hN3 x hx with h|h
   ·exact .inl (.inr (.inr (.inl h)))
   ·exact .inr (Nat.le_trans k2.size h)
  ·exact .inl (.inr (.inr (.inr ⟨_,⟨z,(List.mem_filter.1 hz).1,rfl⟩,hy⟩)))
set_option maxRecDepth 100000 in
set_option maxHeartbeats 400000 in
theorem drop_ok {w:World}{G:List Nat}{p q fr ct:Nat}{T:List (Nat × List Nat)}{fl:List Nat} (hP:IsP w G p q fr ct T fl) (nm:Nat) (bs:List Nat) (hm:(nm,bs)∈T) (hb:fl.length+bs.length≤100000) :
  Calls Tryz.prog 54 #[.pointer (some ⟨p,0,none⟩),.int .i64 (nm:Int)] w fun e w'=>e=.returned (.int .i64 0)∧∃G',IsP w' G' p q fr ct (T.filter fun x=>x.1 != nm) (fl++bs)∧Kept G w w'∧NewF w G G':=by
 obtain ⟨v,vf,mb,w2,ad,c,w3,G',c3,hlook,hdel,c32,c4,hrun,c43,f43,hP3,hK,hN⟩:=hP.drop nm bs hm hb 0
 have hf:=Hid.mk (And.intro hP3 (And.intro hK hN))
 clear hP hP3 hK hN
 generalize fl.length+bs.length=n at hrun hf
 go_enter Tryz.func54,Tryz.ntmps54
 go_wp2_with (at_builtin;refine wpList_append_run 41 (.tmp 29) (.tmp 30) rfl rfl _ _ rfl rfl _ _ hrun ?_)
 go_ret
 exact ⟨rfl,_,hf.out⟩
end Go.Proofs.YtgpbhlfdlkemjaaGreat
