/- Merged. -/
import Derived.Test.YtmgfkpnghlmheaaGreatBun21
import Derived.Test.YtmgfkpnghlmheaaGreatBun23
import Derived.Test.YtmgfkpnghlmheaaGreatBun24
set_option maxHeartbeats 4000000
namespace Go.Hm
open Go Go.RowKit
theorem zby{α:Type}(f:α->Int)(l:List α)(k:Nat)(d:α)(h:k<l.length):((l.take (k+1)).map f).sum=((l.take k).map f).sum+f (l.getD k d):=by rw[zae l k d h,List.map_append,List.sum_append];simp
theorem zet{α:Type}(f:α->Int):∀(l:List α) (k:Nat),(∀x∈l,0<=f x)->((l.take k).map f).sum<=(l.map f).sum
 | [],_,_=>by simp
 |x::l,0,h=>by
  have h1:=h x (by simp);have:=zet f l 0 fun y hy=>h y (by simp[hy])
  simp at this⊢;omega
 |x::l,k+1,h=>by
  have:=zet f l k fun y hy=>h y (by simp[hy])
  simp only[List.take_succ_cons,List.map_cons,List.sum_cons];omega
theorem zfn{α:Type}(f:α->Int):∀(l:List α),(∀x∈l,0<=f x)->0<=(l.map f).sum
 | [],_=>by simp
 |x::l,h=>by
  have h1:=h x (by simp);have:=zfn f l fun y hy=>h y (by simp[hy])
  simp only[List.map_cons,List.sum_cons];omega
abbrev zak:za4:=(0,[])
abbrev zc4:za2:=([],0,false)
theorem zml{t:Int}{nu:Bool}{l:List zay}{r:Int}(h:zd8 t nu l r):0<=zch l/\0<=r:=by have:=ze5 h.1;have:=h.2;omega
theorem GroupOk.sizes{cols:List za2}{g:za4}(h:GroupOk cols g):∀l∈g.2,0<=zch l:=fun l hl=>by obtain⟨i,hi,rfl⟩:=List.getElem_of_mem hl;have:=h.2.2 i (by rw[<-h.2.1];exact hi);rw[List.getD_eq_getElem?_getD (l:=g.2),List.getElem?_eq_getElem hi] at this;exact(zml this).1
theorem GroupOk.nonneg{cols:List za2}{g:za4}(h:GroupOk cols g):0<=zcc g:=zfn _ _ h.sizes
theorem zu8{F:FootS}(h:zbj F){k:Nat}(hk:k<F.groups.length):((F.groups.take k).map (·.1)).sum+(F.groups.getD k zak).1<=65536:=by have h1:=zby (fun g:za4=>g.1) F.groups k zak hk;have h2:=zet (fun g:za4=>g.1) F.groups (k+1) (fun g hg=>by have:=(h.2.1 g hg).1;omega);have:=h.2.2.1;have:=h.2.2.2.1;omega
theorem zu9{F:FootS}(h:zbj F){k c:Nat}(hk:k<F.groups.length):((F.groups.take k).map zcc).sum+(((F.groups.getD k zak).2.take c).map zch).sum<=1073741824:=by have hg:F.groups.getD k zak∈F.groups:=zan zak hk;have h1:=zby zcc F.groups k zak hk;have h2:=zet zcc F.groups (k+1) (fun g hg=>(h.2.1 g hg).nonneg);have h3:=zet zch (F.groups.getD k zak).2 c (h.2.1 _ hg).sizes;have h4:=h.2.2.2.2;have h5:zcc (F.groups.getD k zak)=((F.groups.getD k zak).2.map zch).sum:=rfl;omega
theorem zmm{t:Int}{nu:Bool}:∀(l:List zay) (rows size:Int),0<=rows->0<=size->0<=(zeo t nu l rows size).1/\(zeo t nu l rows size).1<=size+rows*268435456
 | [],rows,size,h1,h2=>by simp only[zeo];omega
 |p::l,rows,size,h1,h2=>by
  unfold zeo;split
  ·rename_i hp
   have h3:=(pageB_most.1 hp).1;have:=zmm (t:=t) (nu:=nu) l (rows-p.2.1) (size+p.1) (by omega) (by omega);omega
  ·dsimp only;omega
structure FootTo(L:List za2)(G:List za4)(k:Nat)(rows size:Int):Prop where
 ok:∀g∈G.take k,GroupOk L g
 rows_:rows=((G.take k).map (·.1)).sum
 size_:size=((G.take k).map zcc).sum
 most:0<=rows/\rows<=65536
 few:0<=size/\size<=1073741824
theorem FootTo.zero(L:List za2)(G:List za4):FootTo L G 0 0 0:=⟨by simp,by simp,by simp,by omega,by omega⟩
structure ChunkTo(L:List za2)(G:List za4)(k c:Nat)(rows size:Int):Prop where
 ok:∀g∈G.take k,GroupOk L g
 rows_:rows=((G.take k).map (·.1)).sum+(G.getD k zak).1
 size_:size=((G.take k).map zcc).sum+(((G.getD k zak).2.take c).map zch).sum
 here:1<=(G.getD k zak).1/\(G.getD k zak).2.length=L.length/\ ∀i,i<c->zd8 (L.getD i zc4).2.1 (L.getD i zc4).2.2 ((G.getD k zak).2.getD i []) (G.getD k zak).1
 most:(G.getD k zak).1<=rows/\rows<=65536
 few:0<=size/\size<=1073741824
theorem FootTo.enter{L:List za2}{G:List za4}{k:Nat}{rows size:Int}(h:FootTo L G k rows size)(h1:1<=(G.getD k zak).1)(h2:(G.getD k zak).1<=65536-rows)(h3:(G.getD k zak).2.length=L.length):
 ChunkTo L G k 0 (rows+(G.getD k zak).1) size:=by
 have:=h.most;exact⟨h.ok,by rw[h.rows_],by rw[h.size_];simp,⟨h1,h3,fun i hi=>by omega⟩,by omega,h.few⟩
theorem ChunkTo.next{L:List za2}{G:List za4}{k c:Nat}{rows size:Int}(h:ChunkTo L G k c rows size)(hc:c<(G.getD k zak).2.length)(h1:zd8 (L.getD c zc4).2.1 (L.getD c zc4).2.2 ((G.getD k zak).2.getD c []) (G.getD k zak).1)
 (h2:size+zch ((G.getD k zak).2.getD c [])<=1073741824):ChunkTo L G k (c+1) rows (size+zch ((G.getD k zak).2.getD c [])):=by
 have h3:=(zml h1).1;have h4:=h.few;refine⟨h.ok,h.rows_,?_,⟨h.here.1,h.here.2.1,fun i hi=>?_⟩,h.most,by omega⟩
 ·rw[zby zch _ c [] hc,h.size_];omega
 ·by_cases e:i=c
  ·subst e;exact h1
  ·exact h.here.2.2 i (by omega)
theorem ChunkTo.leave{L:List za2}{G:List za4}{k c:Nat}{rows size:Int}(h:ChunkTo L G k c rows size)(hc:c=(G.getD k zak).2.length)(hk:k<G.length):FootTo L G (k+1) rows size:=by
 subst hc;have hm:=h.most;have h1:=h.here.1;refine⟨fun g hg=>?_,by rw[h.rows_,zby (fun g:za4=>g.1) G k zak hk],?_,by omega,h.few⟩
 ·rw[zae G k zak hk] at hg
  rcases List.mem_append.1 hg with hg|hg
  ·exact h.ok g hg
  ·rw[List.mem_singleton.1 hg]
   exact⟨h.here.1,h.here.2.1,fun i hi=>h.here.2.2 i (by rw[h.here.2.1];exact hi)⟩
 ·rw[zby zcc G k zak hk,h.size_,List.take_length]
  rfl
theorem FootTo.no_rows{L:List za2}{G:List za4}{k:Nat}{rows size r:Int}(h:FootTo L G k rows size)(hk:k<G.length)(hb:(G.getD k zak).1<1\/65536-rows<(G.getD k zak).1\/(G.getD k zak).2.length≠L.length): ¬zbj ⟨L,r,G⟩:=fun hF=>by
 have hg:=hF.2.1 (G.getD k zak) (zan zak hk);have h1:=zu8 hF hk;have h2:=h.rows_;dsimp only at h1;rcases hb with hb|hb|hb
 ·have:=hg.1;omega
 ·omega
 ·exact hb hg.2.1
theorem ChunkTo.no_chunk{L:List za2}{G:List za4}{k c:Nat}{rows size r:Int}(h:ChunkTo L G k c rows size)(hk:k<G.length)(hc:c<(G.getD k zak).2.length)
 (hb: ¬zd8 (L.getD c zc4).2.1 (L.getD c zc4).2.2 ((G.getD k zak).2.getD c []) (G.getD k zak).1\/1073741824<size+zch ((G.getD k zak).2.getD c [])): ¬zbj ⟨L,r,G⟩:=fun hF=>by
 have hg:=hF.2.1 (G.getD k zak) (zan zak hk);rcases hb with hb|hb
 ·exact hb (hg.2.2 c (by dsimp only;rw[<-h.here.2.1];exact hc))
 ·have h1:=zu9 hF (k:=k) (c:=c+1) hk
  dsimp only at h1;rw[zby zch _ c [] hc] at h1;have:=h.size_;omega
theorem FootTo.yes{L:List za2}{G:List za4}{rows size r:Int}(h:FootTo L G G.length rows size)(hc:zoz L):zbj ⟨L,r,G⟩↔rows=r:=by
 have h1:=h.rows_;have h2:=h.size_;rw[List.take_length] at h1 h2;have h3:=h.most;have h4:=h.few;have hok:=h.ok;rw[List.take_length] at hok;constructor
 ·intro hF
  have:=hF.2.2.1;dsimp only at this;omega
 ·intro e
  exact⟨hc,hok,by dsimp only;omega,by dsimp only;omega,by dsimp only;omega⟩
theorem Reads.gr2{w:World}{B n i:Nat}{A:Option Addr}{l:List GrD}(h:Reads w B 2 A n (recs grV l))(hi:i<n):
 ∃ad,A=some ad/\ad.block<B/\w.cell? (ad.add (i*2))=some (.int .i64 (l.getD i (0,none,0,[])).1)/\w.cell? ⟨(ad.add (i*2)).block,(ad.add (i*2)).off+1,none⟩=some (.slice (l.getD i (0,none,0,[])).2.1 (l.getD i (0,none,0,[])).2.2.2.length (l.getD i (0,none,0,[])).2.2.1):=by
 obtain⟨ad,h1,h2,_,h3⟩:=h.rec_ (f:=grV) (sz:=2) (fun _=>rfl) (0,none,0,[]) hi (by omega);refine⟨ad,h1,h2,h3 0 _ rfl,?_⟩;have:=h3 1 _ rfl;rw[<-za8] at this;exact this
theorem Reads.ch1{w:World}{B n i:Nat}{A:Option Addr}{l:List ChD}(h:Reads w B 1 A n (recs chV l))(hi:i<n):
 ∃ad,A=some ad/\ad.block<B/\w.cell? (ad.add i)=some (.slice (l.getD i (none,0,[])).1 (l.getD i (none,0,[])).2.2.length (l.getD i (none,0,[])).2.1):=by
 obtain⟨ad,h1,h2,_,h3⟩:=h.rec_ (f:=chV) (sz:=1) (fun _=>rfl) (none,0,[]) hi (by omega);refine⟨ad,h1,h2,?_⟩;have:=h3 0 _ rfl;rw[Nat.mul_one] at this;exact this
open Go Go.RowKit
abbrev grZ:GrD:=(0,none,0,[])
abbrev chZ:ChD:=(none,0,[])
open Classical in
noncomputable def zdl(F:FootS):Bool:=decide (zbj F)
theorem zl1{F:FootS}(h:zbj F):zdl F=true:=by unfold zdl;simp[h]
theorem zo0{F:FootS}(h: ¬zbj F):zdl F=false:=by unfold zdl;simp[h]
theorem zba{α β:Type}(f:α->β)(l:List α){k:Nat}(d:α)(e:β)(hk:k<l.length):(l.map f).getD k e=f (l.getD k d):=by rw[List.getD_eq_getElem?_getD,List.getElem?_map,List.getElem?_eq_getElem hk,List.getD_eq_getElem?_getD,List.getElem?_eq_getElem hk];rfl
end Go.Hm
namespace Go.Proofs.Y
open Go.RowKit Go.Hm
set_option maxRecDepth 100000 in
theorem zjb{w:World}{Ac:Option Addr}{cc:Nat}{L:List za2}{r:Int}{Ag:Option Addr}{cg:Nat}{G:List GrD}(h:FootIn w Ac cc L Ag G)(hp:∀g∈G,∀x∈g.2.2.2,∀p∈x.2.2,zdk p.2.2):
 Calls Tryz.prog 55 #[zh9 Ac cc L r Ag cg G] w (zap (.bool (zdl (za5 L r G))) w):=by
 have CK:=Hz (fun(W:World) (hW:New w W)=>znk (c:=cc) (Reads.later h.cols hW) h.fine h.cap h.few);have HG:=Hz h.groups;have HL:=Hz h.cols;have hfew:=h.few;have hfew2:=h.few2;have HCH:=Hz h.chunks;have HPG:=Hz h.pages;have HP:=Hz hp;have HY:=Hz (fun e:zbj (za5 L r G)=>zl1 e);have HN:=Hz (fun e: ¬zbj (za5 L r G)=>zo0 e);have hz:FootTo L (G.map grP) 0 0 0:=FootTo.zero _ _;have HZ:=Hz hz;clear h hp hz;generalize zdl (za5 L r G)=M at*;unfold za5 at HY HN;have HMap:=Hz (fun(k:Nat) (hk:k<G.length)=>zba grP G (k:=k) grZ zak hk);have HLen:=Hz (show(G.map grP).length=G.length from List.length_map ..);generalize hGP:G.map grP=GP at*;have hck:=zdt L;clear hGP;show Calls Tryz.prog 55 #[.agg #[.slice Ac L.length cc,.int .i64 r,.slice Ag G.length cg]] w (zap (.bool M) w);have B0:=Blk.new w 38 #[.slice Ac L.length cc,.int .i64 r,.slice Ag G.length cg];have b0:New w (w.alloc (.cells #[.slice Ac L.length cc,.int .i64 r,.slice Ag G.length cg] 38)):=(Below.refl _ _).alloc (Nat.le_refl _) _;obtain⟨x0,x1,x2⟩:=zaf B0;go_enter Tryz.func55,Tryz.ntmps55
 go_wp2_with fail
 refine(CK.out _ b0).mono ?_;rintro e w1 ⟨rfl,b1⟩;have B1:=B0.below b1 B0.lt;have b01:=New.trans b0 b1;clear CK B0 b0 b1 x0 x1 x2;obtain⟨x0,x1,x2⟩:=zaf B1;by_cases hk0:zcu L=0
 ·have hcok:=hck.1 hk0
  have HCO:=Hz hcok;rw[hk0];clear hck hk0 hcok;go_wp2_with fail
  clear x0 x1 x2;go_loopw [3,4,18] (fun a s i wr=>∃(k:Nat) (rows size:Int),k<=G.length/\i= .int .i64 (k:Int)/\a= .int .i64 rows/\s= .int .i64 size/\Hid (FootTo L GP k rows size)/\(0<=rows/\rows<=65536)/\(0<=size/\size<=1073741824)
   /\Blk wr w.heap.size 38 #[.slice Ac L.length cc,.int .i64 r,.slice Ag G.length cg]/\New w wr) (fun _ _ i _=>G.length-(intOf i).toNat)
  case atStart=>exact⟨0,0,0,Nat.zero_le _,rfl,rfl,rfl,HZ,by omega,by omega,B1,b01⟩
  case round=>
   obtain⟨k,rows,size,hk,rfl,rfl,rfl,H,hrw,hsz,B,b⟩:=hrel;clear HZ B1 b01;by_cases hlt:k<G.length
   ·obtain⟨ad,rfl,hb,d0,d1⟩:=(Reads.later HG.out b).gr2 hlt
    have hgm:=zan grZ hlt;have hch:=HCH.out _ hgm;have hpg:=HPG.out _ hgm;have hpp:=HP.out _ hgm;have hmap:=HMap.out k hlt;have hltP:k<GP.length:=by rw[HLen.out];exact hlt
    generalize G.getD k grZ=g at*;obtain⟨gr,Ach,cch,D⟩:=g;dsimp only at d0 d1 hch hpg hpp;unfold grP at hmap;dsimp only at hmap;have hl2:(GP.getD k zak).2.length=D.length:=by rw[hmap];exact List.length_map ..
    have hg1:(GP.getD k zak).1=gr:=by rw[hmap]
    have HM2:=Hz (fun(c:Nat) (hc:c<D.length)=>show(GP.getD k zak).2.getD c []=(D.getD c chZ).2.2 by rw[hmap];exact zba (fun x:ChD=>x.2.2) D chZ [] hc);have NR:=Hz (fun hb=>HN.out (H.out.no_rows (r:=r) hltP hb));have EN:=Hz (fun h1 h2 h3=>H.out.enter h1 h2 h3);rw[hl2,hg1] at NR EN;have HL2:=Hz hl2;have HG1:=Hz hg1;have HCHk:=Hz hch.1;have hchl:=hch.2;have HPGk:=Hz hpg;have HPPk:=Hz hpp;have HLTP:=Hz hltP;clear hmap hl2 hg1 hch hpg hpp hgm hb H hltP;have ha:New wr (wr.alloc (.cells #[.int .i64 gr,.slice Ach D.length cch] 56)):=(Below.refl _ _).alloc (Nat.le_refl _) _;have BG:=Blk.new wr 56 #[.int .i64 gr,.slice Ach D.length cch];have B2:=B.below ha B.lt;have b2:=New.trans b ha;obtain⟨y0,y1,y2⟩:=zaf B2;obtain⟨z0,z1⟩:=zbe BG;clear B b ha;by_cases h1:gr<1
    ·have hM:=Hz (NR.out (.inl h1))
     clear NR EN;go_wp2
     go_ret
     exact⟨by rw[hM.out];rfl,b2⟩
    by_cases h2:65536-rows<gr
    ·have hM:=Hz (NR.out (.inr (.inl h2)))
     clear NR EN;go_wp2
     go_ret
     exact⟨by rw[hM.out];rfl,b2⟩
    by_cases h3:D.length=L.length
    ·have t3:((D.length:Int) != (L.length:Int))=false:=by simp;omega
     have hE:=EN.out (by omega) (by omega) h3;have HE:=Hz hE;have hDL:D.length<=L.length:=by omega
     have H3:=Hz h3;clear NR EN hE h3;go_wp2_with fail
     clear y0 y1 y2 z0 z1 d0 d1 t3;generalize wr.heap.size=gB at*;go_loopw [4,48] (fun s i wr=>∃(c:Nat) (sz:Int),c<=D.length/\i= .int .i64 (c:Int)/\s= .int .i64 sz/\Hid (ChunkTo L GP k c (rows+gr) sz)/\(0<=sz/\sz<=1073741824)
      /\Blk wr w.heap.size 38 #[.slice Ac L.length cc,.int .i64 r,.slice (some ad) G.length cg]/\Blk wr gB 56 #[.int .i64 gr,.slice Ach D.length cch]/\New w wr) (fun _ i _=>D.length-(intOf i).toNat)
     case atStart=>exact⟨0,size,Nat.zero_le _,rfl,rfl,HE,hsz,B2,BG,b2⟩
     case round=>
      obtain⟨c,sz,hc,rfl,rfl,H,hsz2,B,BGq,bq⟩:=hrel;clear HE B2 BG b2;by_cases hlc:c<D.length
      ·have hcL:c<L.length:=by omega
       obtain⟨ac,rfl,hbc,e0⟩:=(Reads.later HCHk.out bq).ch1 hlc;obtain⟨al,rfl,hbl,-⟩:=(Reads.later HL.out bq).colT hcL;have hxm:=zan chZ hlc;have hpx:=HPGk.out _ hxm;have hsx:=HPPk.out _ hxm;have hm2:=HM2.out c hlc;have NC:=Hz (fun hb=>HN.out (H.out.no_chunk (r:=r) HLTP.out (by rw[HL2.out];exact hlc) hb));have NX:=Hz (fun h1 h2=>H.out.next (by rw[HL2.out];exact hlc) h1 h2);rw[hm2,HG1.out] at NC NX;have FC:=Hz (fun(W:World) (hW:New w W)=>show(W.cell? (al.add (c*3))=some (.string (zad (L.getD c zc4).1))/\W.cell? ⟨(al.add (c*3)).block,(al.add (c*3)).off+1,none⟩=some (.int .i64 (L.getD c zc4).2.1)/\W.cell? ⟨(al.add (c*3)).block,(al.add (c*3)).off+2,none⟩=some (.bool (L.getD c zc4).2.2)) from by obtain⟨al',e,_,f⟩:=(Reads.later HL.out hW).colT hcL;injection e with e;subst e;exact f)
       generalize D.getD c chZ=x at*;obtain⟨Ax,cx,pl⟩:=x;dsimp only at e0 hpx hsx NC NX;have CSZ:=fun(W:World) (hW:New w W)=>zs5 (c:=L.getD c zc4) (cap:=cx) (rows:=gr) (Reads.later hpx.1 hW) hsx hpx.2 (by omega)
       have hiff:=zrg (t:=(L.getD c zc4).2.1) (nu:=(L.getD c zc4).2.2) pl gr 0 (by omega);have hbd:=zmm (t:=(L.getD c zc4).2.1) (nu:=(L.getD c zc4).2.2) pl gr 0 (by omega) (by omega);generalize L.getD c zc4=col at*;obtain⟨nm,t,nu⟩:=col;dsimp only at hiff hbd NC NX CSZ;unfold zs4 at CSZ;generalize zeo t nu pl gr 0=S at*;obtain⟨sn,so⟩:=S;dsimp only at hiff hbd CSZ;have CSZ:Hid (∀W,New w W->Calls Tryz.prog 92 #[.agg #[.string (zad nm),.int .i64 t,.bool nu],.slice Ax pl.length cx,.int .i64 gr] W (fun e w'=>e= .returned (.tuple #[.int .i64 sn,.bool so])/\New W w')):=Hz CSZ;have HIF:=Hz hiff;clear hiff hpx hsx hm2 hxm hbc hbl H;obtain⟨y0,y1,y2⟩:=zaf B;obtain⟨z0,z1⟩:=zbe BGq;dsimp only at FC;go_wp2_with fail
       refine zat New [(true,0),(true,1),(true,2),(true,3),(true,4),(true,5),(true,6),(true,7),(false,8),(true,9),(true,10),(true,11),(true,12),(true,13)]
        New.refl New.trans (by kernel_rfl) (by kernel_rfl) (by kernel_rfl) (by kernel_rfl) ?_
       have F:=Hz (fun(W:World) (hW:New wr W)=>And.intro (B.below hW B.lt) (BGq.below hW BGq.lt));have hU:=New.drew wr;clear y0 y1 y2 z0 z1 e0;repeat(first
        |(refine za1 rfl rfl (v:=?_) (fun W hQ=>?_) ?_;rotate_left;(obtain⟨f0,f1,f2⟩:=FC.out W (New.trans bq (New.trans hU hQ));obtain⟨F1,F2⟩:=F.out W (New.trans hU hQ);obtain⟨y0,y1,y2⟩:=zaf F1;obtain⟨z0,z1⟩:=zbe F2;clear F1 F2;go_simp<;> with_reducible rfl);simp only[Act.put,List.setIfInBounds_toArray,List.set_cons_zero,List.set_cons_succ]))
       refine zbb rfl rfl (fun K0 hK0=>?_);go_simp
       (with_reducible refine(CSZ.out _ (New.trans bq hU)).mono ?_)
       rintro e u ⟨rfl,bu⟩;refine hK0 _ _ bu ?_;replace hU:=New.trans hU bu;clear hK0 bu;repeat(first
        |(refine za1 rfl rfl (v:=?_) (fun W hQ=>?_) ?_;rotate_left;(go_simp<;> with_reducible rfl);simp only[Act.put,List.setIfInBounds_toArray,List.set_cons_zero,List.set_cons_succ]))
       refine zc3 ?_;obtain⟨B3,BG3⟩:=F.out _ hU;have b3:=New.trans bq hU;clear F FC CSZ hU B BGq bq;cases so with
       |false=>
        have hM:=Hz (NC.out (.inl (fun hh=>by have:=HIF.out.1.2 hh;simp at this)));clear NC NX HIF;go_wp2
        go_ret
        exact⟨by rw[hM.out];rfl,b3⟩
       |true=>
        have hco:=HIF.out.1.1 (by trivial);have hsn:=HIF.out.2 hco;rw[Int.zero_add] at hsn;by_cases hbig:1073741824<sz+sn
        ·have hM:=Hz (NC.out (.inr (by rw[<-hsn];exact hbig)))
         clear NC NX HIF hco hsn;go_wp2
         go_ret
         exact⟨by rw[hM.out];rfl,b3⟩
        ·have hN:=Hz (NX.out hco (by rw[<-hsn];omega))
         rw[<-hsn] at hN;clear NC NX HIF hco hsn;go_wp2
         go_roundw
         case rel=>exact⟨c+1,sz+sn,by omega,by go_num,rfl,hN,by omega,B3,BG3,b3⟩
         case measure=>simp[intOf];omega
      ·obtain rfl:c=D.length:=by omega
       have hLv:=Hz (H.out.leave (by rw[HL2.out]) HLTP.out);have hrr:=H.out.most;rw[HG1.out] at hrr;clear H;go_wp2
       go_roundw
       case rel=>exact⟨k+1,rows+gr,sz,by omega,by go_num,rfl,rfl,hLv,by omega,hsz2,B,bq⟩
       case measure=>simp[intOf];omega
    ·have t3:((D.length:Int) != (L.length:Int))=true:=by simp;omega
     have hM:=Hz (NR.out (.inr (.inr h3)));clear NR EN h3;go_wp2
     go_ret
     exact⟨by rw[hM.out];rfl,b2⟩
   ·obtain rfl:k=G.length:=by omega
    have hY:=H.out;rw[<-HLen.out] at hY;have hY:=hY.yes (r:=r) HCO.out;obtain⟨x0,x1,x2⟩:=zaf B;by_cases he:rows=r
    ·have hM:=Hz (HY.out (hY.2 he))
     have t1:(rows==r)=true:=by simpa using he
     clear hY HY HN H he;go_wp2
     go_ret
     exact⟨by rw[hM.out];rfl,b⟩
    ·have hM:=Hz (HN.out (fun hF=>he (hY.1 hF)))
     have t1:(rows==r)=false:=by simpa using he
     clear hY HY HN H he;go_wp2
     go_ret
     exact⟨by rw[hM.out];rfl,b⟩
 ·have hM:=Hz (HN.out (fun hF=>hk0 (hck.2 hF.1)))
  have t1:(zcu L != 0)=true:=by simpa using hk0
  clear HY HN hck hk0;generalize zcu L=ck at*;go_wp2
  go_ret
  exact⟨by rw[hM.out];rfl,b01⟩
end Go.Proofs.Y
namespace Go.Hm
open Go Go.RowKit
def inB(nl ng:Nat)(g c:Int):Bool:=decide (0<=g/\g<(ng:Int)/\0<=c/\c<(nl:Int))
def zav(G:List za4)(g c:Nat):List zay:=(G.getD g zak).2.getD c []
theorem zco{F:FootS}(h:zbj F){k:Nat}(hk:k<F.groups.length):GroupOk F.cols (F.groups.getD k zak):=h.2.1 _ (zan zak hk)
end Go.Hm
namespace Go.Proofs.Y
open Go.RowKit Go.Hm
set_option maxRecDepth 100000 in
theorem zmn{w:World}{Ac Ag:Option Addr}{nl cc ng cg:Nat}{r g c:Int}:
 Calls Tryz.prog 83 #[.agg #[.slice Ac nl cc,.int .i64 r,.slice Ag ng cg],.int .i64 g,.int .i64 c] w (zap (.bool (inB nl ng g c)) w):=by
 have B0:=Blk.new w 38 #[.slice Ac nl cc,.int .i64 r,.slice Ag ng cg];have b0:New w (w.alloc (.cells #[.slice Ac nl cc,.int .i64 r,.slice Ag ng cg] 38)):=(Below.refl _ _).alloc (Nat.le_refl _) _;obtain⟨x0,x1,x2⟩:=zaf B0;obtain⟨R,hR⟩:∃R,R=inB nl ng g c:=⟨_,rfl⟩;rw[<-hR];unfold inB at hR;by_cases h1:0<=g<;> by_cases h2:g<(ng:Int)<;> by_cases h3:0<=c<;> by_cases h4:c<(nl:Int);all_goals
  first
   |(have e:R=true:=by rw[hR];simp;omega)
   |(have e:R=false:=by rw[hR];simp;omega)
  subst e;clear hR;go_enter Tryz.func83,Tryz.ntmps83
  go_wp2
  all_goals
   first
    |(exfalso;omega)
    |(go_ret;exact⟨rfl,b0⟩)
theorem z6u{nl ng:Nat}{g c:Int}(h:inB nl ng g c=true):∃gk ck:Nat,g=(gk:Int)/\c=(ck:Int)/\gk<ng/\ck<nl:=by unfold inB at h;simp only[decide_eq_true_eq] at h;exact⟨g.toNat,c.toNat,by omega,by omega,by omega,by omega⟩
theorem zl2{F:FootS}(h:zbj F){k c:Nat}(hk:k<F.groups.length)(hc:c<F.cols.length):zd8 (F.cols.getD c zc4).2.1 (F.cols.getD c zc4).2.2 (zav F.groups k c) (F.groups.getD k zak).1/\(F.groups.getD k zak).2.length=F.cols.length:=by have:=zco h hk;exact⟨this.2.2 c hc,this.2.1⟩
open Go.RowKit Go.Hm
theorem zhb{m:Int}{S:St}{N:Nat}{r:List Nat}(hS:S.ok)(h:lenS m S=(N,some r)):S=some (vp N++r)/\(N:Int)<=m:=by
 rcases zbq m S hS with k|⟨M,r',e,k1,_,k⟩
 ·rw[k] at h
  injection h with _ h;cases h
 ·rw[k] at h
  injection h with h1 h2;injection h2 with h2;subst h1 h2;exact⟨e,k1⟩
theorem zo1{t:Int}{S:St}{s:zc9}{r:List Nat}(hS:S.ok)(h:getA t S=(s,some r)):S=some (putS [] t s++r)/\zb5 t s=true:=by
 cases S with
 |none=>
  exfalso;rw[zsv (N:=0) (y:=0) (S1:=none) (S2:=none) rfl rfl,zsu (N:=0) (y:=0) (S1:=none) (S2:=none) rfl rfl] at h;simp at h
 |some b=>
  obtain⟨h1,h2⟩:=z6e (hS b rfl) h;exact⟨by rw[h2],h1⟩
theorem qf0{t:Int}{S:St}(hS:S.ok):(getA t S).2.ok:=by
 cases h:(getA t S).2 with
 |none=>exact St.ok_none
 |some r=>
  have:=(zo1 hS (show getA t S=((getA t S).1,some r) by rw[<-h])).1;exact St.ok_some fun x hx=>hS _ this x (by simp[hx])
noncomputable def zgr(t m:Int)(S:St):zay × St:=
 ((((lenS 268435456 S).1:Int),((lenS m (lenS 268435456 S).2).1:Int),(getA t (lenS m (lenS 268435456 S).2).2).1),(getA t (lenS m (lenS 268435456 S).2).2).2)
theorem z65{t m k:Int}{nu:Bool}{p:zay}{r:List Nat}(h:zh0 t nu p k=true)(hk:p.2.1<=m)(hm:m<=9223372036854775807)(hd:statData p.2.2)(hr:r.length<=140737488351232):zgr t m (some (zen t p++r))=(p,some r):=by
 obtain⟨⟨h1,h2,h3,h4⟩,h5⟩:=pageB_most.1 h;obtain⟨a,b,s⟩:=p;dsimp only at h1 h2 h3 h4 h5 hk hd;obtain⟨a,rfl⟩:=Int.eq_ofNat_of_zero_le (show 0<=a by omega);obtain⟨b,rfl⟩:=Int.eq_ofNat_of_zero_le (show 0<=b by omega);have hs:zb5 t s=true:=by rw[Bool.and_eq_true] at h5;exact h5.1
 have e1:lenS 268435456 (some (zen t ((a:Int),(b:Int),s)++r))=(a,some (vp b++(putS [] t s++r))):=by
  have:zen t ((a:Int),(b:Int),s)++r=vp a++(vp b++(putS [] t s++r)):=by simp[zen]
  rw[this];exact zb2 _ _ (by omega) (by omega)
 have e2:lenS m (some (vp b++(putS [] t s++r)))=(b,some (putS [] t s++r)):=zb2 _ _ hk hm;unfold zgr;rw[e1];dsimp only;rw[e2];dsimp only;rw[qbr hs hd r hr]
theorem z2i{t m:Int}{S:St}{p:zay}{r:List Nat}(hS:S.ok)(h:zgr t m S=(p,some r)):S=some (zen t p++r):=by
 unfold zgr at h;injection h with h1 h2;subst h1;obtain⟨N,S1,k1⟩:∃N S1,lenS 268435456 S=(N,S1):=⟨_,_,rfl⟩;have hS1:S1.ok:=by have:=za6 (m:=268435456) hS;rwa[k1] at this
 rw[k1] at h2⊢;dsimp only at h2⊢;obtain⟨M,S2,k2⟩:∃N S2,lenS m S1=(N,S2):=⟨_,_,rfl⟩;have hS2:S2.ok:=by have:=za6 (m:=m) hS1;rwa[k2] at this
 rw[k2] at h2⊢;dsimp only at h2⊢;have g:=(zo1 hS2 (show getA t S2=((getA t S2).1,some r) by rw[<-h2])).1;generalize hgs:(getA t S2).1=s at*;subst g;clear hgs h2;have e2:=(zhb hS1 k2).1;subst e2;have e1:=(zhb hS k1).1;rw[e1];simp[zen]
theorem znr{t m:Int}{S:St}(hS:S.ok):(zgr t m S).2.ok:=qf0 (za6 (za6 hS))
theorem z2j{t m:Int}{S:St}:statData (zgr t m S).1.2.2:=z6d
noncomputable def zck(t m:Int):Nat->St->List zay × St
 |0,S=>([],S)
 |_+1,none=>([],none)
 |k+1,some l=>((zgr t m (some l)).1::(zck t m k (zgr t m (some l)).2).1,(zck t m k (zgr t m (some l)).2).2)
theorem zxp(t m:Int)(k:Nat):zck t m k none=([],none):=by cases k<;> rfl
theorem zvj{t m:Int}:∀(k:Nat) {S:St},S.ok->(zck t m k S).2.ok
 |0,_,h=>h
 |_+1,none,_=>St.ok_none
 |k+1,some _,h=>zvj k (znr h)
theorem zo2{t m:Int}:∀(k:Nat) (S:St),∀p∈(zck t m k S).1,statData p.2.2
 |0,_,p,hp=>by simp[zck] at hp
 |_+1,none,p,hp=>by simp[zck] at hp
 |k+1,some l,p,hp=>by
  simp only[zck,List.mem_cons] at hp;rcases hp with rfl|hp
  ·exact z2j
  ·exact zo2 k _ p hp
theorem zrm{t m k:Int}{nu:Bool}(hm:m<=9223372036854775807):∀(l:List zay) (r:List Nat),(∀p∈l,zh0 t nu p k=true/\p.2.1<=m/\statData p.2.2)->(l.flatMap (zen t)).length+r.length<=140737488351232->zck t m l.length (some (l.flatMap (zen t)++r))=(l,some r)
 | [],r,_,_=>rfl
 |p::l,r,h,hr=>by
  obtain⟨a,b,c⟩:=h p (by simp);rw[List.flatMap_cons,List.length_append] at hr;rw[List.flatMap_cons,List.append_assoc,List.length_cons];simp only[zck];rw[z65 a b hm c (by rw[List.length_append];omega)];dsimp only;rw[zrm hm l r (fun q hq=>h q (by simp[hq])) (by omega)]
theorem zo3{t m:Int}:∀(k:Nat) {S:St} {l:List zay} {r:List Nat},S.ok->zck t m k S=(l,some r)->S=some (l.flatMap (zen t)++r)/\l.length=k
 |0,S,l,r,_,h=>by
  simp only[zck,Prod.mk.injEq] at h;obtain⟨rfl,rfl⟩:=h;exact⟨rfl,rfl⟩
 |k+1,none,l,r,_,h=>by
  simp only[zck,Prod.mk.injEq] at h;cases h.2
 |k+1,some b,l,r,hS,h=>by
  simp only[zck,Prod.mk.injEq] at h;obtain⟨rfl,h2⟩:=h;have ih:=zo3 k (S:=(zgr t m (some b)).2) (znr hS) (show zck t m k (zgr t m (some b)).2=((zck t m k (zgr t m (some b)).2).1,some r) by rw[<-h2]);obtain⟨e1,e2⟩:=ih;have e3:=z2i hS (show zgr t m (some b)=((zgr t m (some b)).1,some _) by rw[<-e1]);refine⟨?_,by rw[List.length_cons,e2]⟩;rw[List.flatMap_cons,List.append_assoc];exact e3
noncomputable def zdc(t m:Int)(S:St):List zay × St:=zck t m (lenS m S).1 (lenS m S).2
theorem zk7{t m:Int}{S:St}(h:S.ok):(zdc t m S).2.ok:=zvj _ (za6 h)
theorem z2k{t m:Int}{nu:Bool}{l:List zay}{r:List Nat}{rows:Int}(h:zd8 t nu l rows)(hrm:rows<=m)(hm:m<=9223372036854775807)(hd:∀p∈l,statData p.2.2)(hr:(zgm t l).length+r.length<=140737488351232):
 zdc t m (some (zgm t l++r))=(l,some r):=by
 have hp:=ze5 h.1;have h2:=h.2;have hle:∀p∈l,p.2.1<=zk3 l:=by
  have key:∀l:List zay,(∀p∈l,zh0 t nu p 65536=true)-> ∀p∈l,p.2.1<=zk3 l:=by
   intro l;induction l with
   |nil=>intro _ p hp;simp at hp
   |cons q l ih=>
    intro h p hp;have h1:=ze5 (l:=l) fun z hz=>h z (by simp[hz])
    have h3:=(pageB_most.1 (h q (by simp))).1;rw[zfm];rcases List.mem_cons.1 hp with rfl|hp
    ·omega
    ·have:=ih (fun z hz=>h z (by simp[hz])) p hp
     omega
  exact key l h.1
 unfold zdc zgm at*;rw[List.length_append] at hr;rw[List.append_assoc,zb2 l.length _ (by omega) hm];dsimp only;exact zrm (k:=65536) (nu:=nu) hm l r (fun p hpm=>⟨h.1 p hpm,by have:=hle p hpm;omega,hd p hpm⟩) (by omega)
theorem zxq{t m:Int}{S:St}{l:List zay}{r:List Nat}(hS:S.ok)(h:zdc t m S=(l,some r)):S=some (zgm t l++r):=by
 unfold zdc at h;obtain⟨N,S1,k⟩:∃N S1,lenS m S=(N,S1):=⟨_,_,rfl⟩;have hS1:S1.ok:=by have:=za6 (m:=m) hS;rwa[k] at this
 rw[k] at h;obtain⟨e1,e2⟩:=zo3 N hS1 h;subst e1;rw[(zhb hS k).1];simp[zgm,e2]
noncomputable def zbk(m:Int):List za2->St->List (List zay) × St
 | [],S=>([],S)
 |c::cs,S=>((zdc c.2.1 m S).1::(zbk m cs (zdc c.2.1 m S).2).1,(zbk m cs (zdc c.2.1 m S).2).2)
theorem zrn{m:Int}:∀(cs:List za2) {S:St},S.ok->(zbk m cs S).2.ok
 | [],_,h=>h
 |_::cs,_,h=>zrn cs (zk7 h)
theorem zxr{t m:Int}{S:St}:∀p∈(zdc t m S).1,statData p.2.2:=zo2 _ _
theorem zmo{m:Int}:∀(cs:List za2) (S:St),∀l∈(zbk m cs S).1,∀p∈l,statData p.2.2
 | [],_,l,hl=>by simp[zbk] at hl
 |c::cs,S,l,hl=>by
  simp only[zbk,List.mem_cons] at hl;rcases hl with rfl|hl
  ·exact zxr
  ·exact zmo cs _ l hl
theorem zo4{m:Int}:∀(cs:List za2) (S:St),(zbk m cs S).1.length=cs.length
 | [],_=>rfl
 |c::cs,S=>by simp only[zbk,List.length_cons,zo4 cs]
theorem zmp{m:Int}:∀(cs:List za2) {S:St} {ls:List (List zay)} {r:List Nat},S.ok->zbk m cs S=(ls,some r)->S=some (zbs cs ls++r)
 | [],S,ls,r,_,h=>by
   simp only[zbk,Prod.mk.injEq] at h;obtain⟨rfl,rfl⟩:=h;rfl
 |c::cs,S,ls,r,hS,h=>by
  simp only[zbk,Prod.mk.injEq] at h;obtain⟨rfl,h2⟩:=h;have ih:=zmp cs (S:=(zdc c.2.1 m S).2) (zk7 hS) (show zbk m cs (zdc c.2.1 m S).2=((zbk m cs (zdc c.2.1 m S).2).1,some r) by rw[<-h2]);have e3:=zxq hS (show zdc c.2.1 m S=((zdc c.2.1 m S).1,some _) by rw[<-ih]);simp only[zbs,List.append_assoc];exact e3
end Go.Proofs.Y
