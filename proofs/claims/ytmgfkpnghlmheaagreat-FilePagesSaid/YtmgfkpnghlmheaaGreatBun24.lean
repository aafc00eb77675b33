/- Merged. -/
import Derived.Test.YtmgfkpnghlmheaaGreatBun20
import Derived.Test.YtmgfkpnghlmheaaGreatBun21
import Derived.Test.YtmgfkpnghlmheaaGreatBun23
set_option maxHeartbeats 4000000
set_option maxRecDepth 100000
namespace Go.Hm
open Go Go.RowKit
structure FootIn(w:World)(Ac:Option Addr)(cc:Nat)(L:List za1)(Ag:Option Addr)(G:List GrD):Prop where
 cols:Reads w w.heap.size 3 Ac L.length (recs zhq L)
 fine:∀x∈L,(∀z∈x.1,z<256)/\x.1.length<=140737488351232
 cap:L.length<=cc
 few:L.length<=4611686018427387903
 groups:Reads w w.heap.size 2 Ag G.length (recs grV G)
 few2:G.length<=4611686018427387903
 chunks:∀g∈G,Reads w w.heap.size 1 g.2.1 g.2.2.2.length (recs chV g.2.2.2)/\g.2.2.2.length<=4611686018427387903
 pages:∀g∈G,∀x∈g.2.2.2,Reads w w.heap.size 14 x.1 x.2.2.length (recs zf7 x.2.2)/\x.2.2.length<=4611686018427387903
theorem FootIn.later{w w':World}{Ac:Option Addr}{cc:Nat}{L:List za1}{Ag:Option Addr}{G:List GrD}(h:FootIn w Ac cc L Ag G)(hb:New w w'):FootIn w' Ac cc L Ag G:=
 ⟨Reads.later h.cols hb,h.fine,h.cap,h.few,Reads.later h.groups hb,h.few2,fun g hg=>⟨Reads.later (h.chunks g hg).1 hb,(h.chunks g hg).2⟩,fun g hg x hx=>⟨Reads.later (h.pages g hg x hx).1 hb,(h.pages g hg x hx).2⟩⟩
def zhx(Ac:Option Addr)(cc:Nat)(L:List za1)(rows:Int)(Ag:Option Addr)(cg:Nat)(G:List GrD):Value:= .agg #[.slice Ac L.length cc,.int .i64 rows,.slice Ag G.length cg]
def za3(L:List za1)(rows:Int)(G:List GrD):FootS:=⟨L,rows,G.map grP⟩
end Go.Hm
namespace Go.Proofs.Y
open Go.RowKit Go.Hm Go.WideShapes Go.ChangeShapes
section
variable{H:Type}{enc:TypeId × Value->H}{W:World}{base:Nat}{v:Value}{d:DataW H}{ps:List MemPlace}
end
end Go.Proofs.Y
namespace Go.Hm
open Go Go.RowKit
theorem zbq{α:Type}(f:α->Int)(l:List α)(k:Nat)(d:α)(h:k<l.length):((l.take (k+1)).map f).sum=((l.take k).map f).sum+f (l.getD k d):=by rw[zae l k d h,List.map_append,List.sum_append];simp
theorem zed{α:Type}(f:α->Int):∀(l:List α) (k:Nat),(∀x∈l,0<=f x)->((l.take k).map f).sum<=(l.map f).sum
 | [],_,_=>by simp
 |x::l,0,h=>by
  have h1:=h x (by simp);have:=zed f l 0 fun y hy=>h y (by simp[hy])
  simp at this⊢;omega
 |x::l,k+1,h=>by
  have:=zed f l k fun y hy=>h y (by simp[hy])
  simp only[List.take_succ_cons,List.map_cons,List.sum_cons];omega
theorem zez{α:Type}(f:α->Int):∀(l:List α),(∀x∈l,0<=f x)->0<=(l.map f).sum
 | [],_=>by simp
 |x::l,h=>by
  have h1:=h x (by simp);have:=zez f l fun y hy=>h y (by simp[hy])
  simp only[List.map_cons,List.sum_cons];omega
abbrev zaj:za5:=(0,[])
abbrev zdo:za1:=([],0,false)
theorem zil{t:Int}{nu:Bool}{l:List zax}{r:Int}(h:zdn t nu l r):0<=zbv l/\0<=r:=by have:=zeo h.1;have:=h.2;omega
theorem GroupOk.sizes{cols:List za1}{g:za5}(h:GroupOk cols g):∀l∈g.2,0<=zbv l:=fun l hl=>by obtain⟨i,hi,rfl⟩:=List.getElem_of_mem hl;have:=h.2.2 i (by rw[<-h.2.1];exact hi);rw[List.getD_eq_getElem?_getD (l:=g.2),List.getElem?_eq_getElem hi] at this;exact(zil this).1
theorem GroupOk.nonneg{cols:List za1}{g:za5}(h:GroupOk cols g):0<=zch g:=zez _ _ h.sizes
theorem zu9{F:FootS}(h:zbj F){k:Nat}(hk:k<F.groups.length):((F.groups.take k).map (·.1)).sum+(F.groups.getD k zaj).1<=65536:=by have h1:=zbq (fun g:za5=>g.1) F.groups k zaj hk;have h2:=zed (fun g:za5=>g.1) F.groups (k+1) (fun g hg=>by have:=(h.2.1 g hg).1;omega);have:=h.2.2.1;have:=h.2.2.2.1;omega
theorem zva{F:FootS}(h:zbj F){k c:Nat}(hk:k<F.groups.length):((F.groups.take k).map zch).sum+(((F.groups.getD k zaj).2.take c).map zbv).sum<=1073741824:=by have hg:F.groups.getD k zaj∈F.groups:=zal zaj hk;have h1:=zbq zch F.groups k zaj hk;have h2:=zed zch F.groups (k+1) (fun g hg=>(h.2.1 g hg).nonneg);have h3:=zed zbv (F.groups.getD k zaj).2 c (h.2.1 _ hg).sizes;have h4:=h.2.2.2.2;have h5:zch (F.groups.getD k zaj)=((F.groups.getD k zaj).2.map zbv).sum:=rfl;omega
theorem zl7{t:Int}{nu:Bool}:∀(l:List zax) (rows size:Int),0<=rows->0<=size->0<=(zer t nu l rows size).1/\(zer t nu l rows size).1<=size+rows*268435456
 | [],rows,size,h1,h2=>by simp only[zer];omega
 |p::l,rows,size,h1,h2=>by
  unfold zer;split
  ·rename_i hp
   have h3:=(pageB_most.1 hp).1;have:=zl7 (t:=t) (nu:=nu) l (rows-p.2.1) (size+p.1) (by omega) (by omega);omega
  ·dsimp only;omega
structure FootTo(L:List za1)(G:List za5)(k:Nat)(rows size:Int):Prop where
 ok:∀g∈G.take k,GroupOk L g
 rows_:rows=((G.take k).map (·.1)).sum
 size_:size=((G.take k).map zch).sum
 most:0<=rows/\rows<=65536
 few:0<=size/\size<=1073741824
theorem FootTo.zero(L:List za1)(G:List za5):FootTo L G 0 0 0:=⟨by simp,by simp,by simp,by omega,by omega⟩
structure ChunkTo(L:List za1)(G:List za5)(k c:Nat)(rows size:Int):Prop where
 ok:∀g∈G.take k,GroupOk L g
 rows_:rows=((G.take k).map (·.1)).sum+(G.getD k zaj).1
 size_:size=((G.take k).map zch).sum+(((G.getD k zaj).2.take c).map zbv).sum
 here:1<=(G.getD k zaj).1/\(G.getD k zaj).2.length=L.length/\ ∀i,i<c->zdn (L.getD i zdo).2.1 (L.getD i zdo).2.2 ((G.getD k zaj).2.getD i []) (G.getD k zaj).1
 most:(G.getD k zaj).1<=rows/\rows<=65536
 few:0<=size/\size<=1073741824
theorem FootTo.enter{L:List za1}{G:List za5}{k:Nat}{rows size:Int}(h:FootTo L G k rows size)(h1:1<=(G.getD k zaj).1)(h2:(G.getD k zaj).1<=65536-rows)(h3:(G.getD k zaj).2.length=L.length):
 ChunkTo L G k 0 (rows+(G.getD k zaj).1) size:=by
 have:=h.most;exact⟨h.ok,by rw[h.rows_],by rw[h.size_];simp,⟨h1,h3,fun i hi=>by omega⟩,by omega,h.few⟩
theorem ChunkTo.next{L:List za1}{G:List za5}{k c:Nat}{rows size:Int}(h:ChunkTo L G k c rows size)(hc:c<(G.getD k zaj).2.length)(h1:zdn (L.getD c zdo).2.1 (L.getD c zdo).2.2 ((G.getD k zaj).2.getD c []) (G.getD k zaj).1)
 (h2:size+zbv ((G.getD k zaj).2.getD c [])<=1073741824):ChunkTo L G k (c+1) rows (size+zbv ((G.getD k zaj).2.getD c [])):=by
 have h3:=(zil h1).1;have h4:=h.few;refine⟨h.ok,h.rows_,?_,⟨h.here.1,h.here.2.1,fun i hi=>?_⟩,h.most,by omega⟩
 ·rw[zbq zbv _ c [] hc,h.size_];omega
 ·by_cases e:i=c
  ·subst e;exact h1
  ·exact h.here.2.2 i (by omega)
theorem ChunkTo.leave{L:List za1}{G:List za5}{k c:Nat}{rows size:Int}(h:ChunkTo L G k c rows size)(hc:c=(G.getD k zaj).2.length)(hk:k<G.length):FootTo L G (k+1) rows size:=by
 subst hc;have hm:=h.most;have h1:=h.here.1;refine⟨fun g hg=>?_,by rw[h.rows_,zbq (fun g:za5=>g.1) G k zaj hk],?_,by omega,h.few⟩
 ·rw[zae G k zaj hk] at hg
  rcases List.mem_append.1 hg with hg|hg
  ·exact h.ok g hg
  ·rw[List.mem_singleton.1 hg]
   exact⟨h.here.1,h.here.2.1,fun i hi=>h.here.2.2 i (by rw[h.here.2.1];exact hi)⟩
 ·rw[zbq zch G k zaj hk,h.size_,List.take_length]
  rfl
theorem FootTo.no_rows{L:List za1}{G:List za5}{k:Nat}{rows size r:Int}(h:FootTo L G k rows size)(hk:k<G.length)(hb:(G.getD k zaj).1<1\/65536-rows<(G.getD k zaj).1\/(G.getD k zaj).2.length≠L.length): ¬zbj ⟨L,r,G⟩:=fun hF=>by
 have hg:=hF.2.1 (G.getD k zaj) (zal zaj hk);have h1:=zu9 hF hk;have h2:=h.rows_;dsimp only at h1;rcases hb with hb|hb|hb
 ·have:=hg.1;omega
 ·omega
 ·exact hb hg.2.1
theorem ChunkTo.no_chunk{L:List za1}{G:List za5}{k c:Nat}{rows size r:Int}(h:ChunkTo L G k c rows size)(hk:k<G.length)(hc:c<(G.getD k zaj).2.length)
 (hb: ¬zdn (L.getD c zdo).2.1 (L.getD c zdo).2.2 ((G.getD k zaj).2.getD c []) (G.getD k zaj).1\/1073741824<size+zbv ((G.getD k zaj).2.getD c [])): ¬zbj ⟨L,r,G⟩:=fun hF=>by
 have hg:=hF.2.1 (G.getD k zaj) (zal zaj hk);rcases hb with hb|hb
 ·exact hb (hg.2.2 c (by dsimp only;rw[<-h.here.2.1];exact hc))
 ·have h1:=zva hF (k:=k) (c:=c+1) hk
  dsimp only at h1;rw[zbq zbv _ c [] hc] at h1;have:=h.size_;omega
theorem FootTo.yes{L:List za1}{G:List za5}{rows size r:Int}(h:FootTo L G G.length rows size)(hc:zos L):zbj ⟨L,r,G⟩↔rows=r:=by
 have h1:=h.rows_;have h2:=h.size_;rw[List.take_length] at h1 h2;have h3:=h.most;have h4:=h.few;have hok:=h.ok;rw[List.take_length] at hok;constructor
 ·intro hF
  have:=hF.2.2.1;dsimp only at this;omega
 ·intro e
  exact⟨hc,hok,by dsimp only;omega,by dsimp only;omega,by dsimp only;omega⟩
theorem Reads.gr2{w:World}{B n i:Nat}{A:Option Addr}{l:List GrD}(h:Reads w B 2 A n (recs grV l))(hi:i<n):
 ∃ad,A=some ad/\ad.block<B/\w.cell? (ad.add (i*2))=some (.int .i64 (l.getD i (0,none,0,[])).1)/\w.cell? ⟨(ad.add (i*2)).block,(ad.add (i*2)).off+1,none⟩=some (.slice (l.getD i (0,none,0,[])).2.1 (l.getD i (0,none,0,[])).2.2.2.length (l.getD i (0,none,0,[])).2.2.1):=by
 obtain⟨ad,h1,h2,_,h3⟩:=h.rec_ (f:=grV) (sz:=2) (fun _=>rfl) (0,none,0,[]) hi (by omega);refine⟨ad,h1,h2,h3 0 _ rfl,?_⟩;have:=h3 1 _ rfl;rw[<-zbc] at this;exact this
theorem Reads.ch1{w:World}{B n i:Nat}{A:Option Addr}{l:List ChD}(h:Reads w B 1 A n (recs chV l))(hi:i<n):
 ∃ad,A=some ad/\ad.block<B/\w.cell? (ad.add i)=some (.slice (l.getD i (none,0,[])).1 (l.getD i (none,0,[])).2.2.length (l.getD i (none,0,[])).2.1):=by
 obtain⟨ad,h1,h2,_,h3⟩:=h.rec_ (f:=chV) (sz:=1) (fun _=>rfl) (none,0,[]) hi (by omega);refine⟨ad,h1,h2,?_⟩;have:=h3 0 _ rfl;rw[Nat.mul_one] at this;exact this
open Go Go.RowKit
abbrev grZ:GrD:=(0,none,0,[])
abbrev chZ:ChD:=(none,0,[])
open Classical in
noncomputable def zc9(F:FootS):Bool:=decide (zbj F)
theorem zi6{F:FootS}(h:zbj F):zc9 F=true:=by unfold zc9;simp[h]
theorem zks{F:FootS}(h: ¬zbj F):zc9 F=false:=by unfold zc9;simp[h]
theorem zbe{α β:Type}(f:α->β)(l:List α){k:Nat}(d:α)(e:β)(hk:k<l.length):(l.map f).getD k e=f (l.getD k d):=by rw[List.getD_eq_getElem?_getD,List.getElem?_map,List.getElem?_eq_getElem hk,List.getD_eq_getElem?_getD,List.getElem?_eq_getElem hk];rfl
end Go.Hm
namespace Go.Proofs.Y
open Go.RowKit Go.Hm
set_option maxRecDepth 100000 in
theorem zi7{w:World}{Ac:Option Addr}{cc:Nat}{L:List za1}{r:Int}{Ag:Option Addr}{cg:Nat}{G:List GrD}(h:FootIn w Ac cc L Ag G)(hp:∀g∈G,∀x∈g.2.2.2,∀p∈x.2.2,zco p.2.2):
 Calls Tryz.prog 55 #[zhx Ac cc L r Ag cg G] w (zak (.bool (zc9 (za3 L r G))) w):=by
 have CK:=Hz (fun(W:World) (hW:New w W)=>zm6 (c:=cc) (Reads.later h.cols hW) h.fine h.cap h.few);have HG:=Hz h.groups;have HL:=Hz h.cols;have hfew:=h.few;have hfew2:=h.few2;have HCH:=Hz h.chunks;have HPG:=Hz h.pages;have HP:=Hz hp;have HY:=Hz (fun e:zbj (za3 L r G)=>zi6 e);have HN:=Hz (fun e: ¬zbj (za3 L r G)=>zks e);have hz:FootTo L (G.map grP) 0 0 0:=FootTo.zero _ _;have HZ:=Hz hz;clear h hp hz;generalize zc9 (za3 L r G)=M at*;unfold za3 at HY HN;have HMap:=Hz (fun(k:Nat) (hk:k<G.length)=>zbe grP G (k:=k) grZ zaj hk);have HLen:=Hz (show(G.map grP).length=G.length from List.length_map ..);generalize hGP:G.map grP=GP at*;have hck:=zdi L;clear hGP;show Calls Tryz.prog 55 #[.agg #[.slice Ac L.length cc,.int .i64 r,.slice Ag G.length cg]] w (zak (.bool M) w);have B0:=Blk.new w 38 #[.slice Ac L.length cc,.int .i64 r,.slice Ag G.length cg];have b0:New w (w.alloc (.cells #[.slice Ac L.length cc,.int .i64 r,.slice Ag G.length cg] 38)):=(Below.refl _ _).alloc (Nat.le_refl _) _;obtain⟨x0,x1,x2⟩:=zad B0;go_enter Tryz.func55,Tryz.ntmps55
 go_wp2_with fail
 refine(CK.out _ b0).mono ?_;rintro e w1 ⟨rfl,b1⟩;have B1:=B0.below b1 B0.lt;have b01:=New.trans b0 b1;clear CK B0 b0 b1 x0 x1 x2;obtain⟨x0,x1,x2⟩:=zad B1;by_cases hk0:zb5 L=0
 ·have hcok:=hck.1 hk0
  have HCO:=Hz hcok;rw[hk0];clear hck hk0 hcok;go_wp2_with fail
  clear x0 x1 x2;go_loopw [3,4,18] (fun a s i wr=>∃(k:Nat) (rows size:Int),k<=G.length/\i= .int .i64 (k:Int)/\a= .int .i64 rows/\s= .int .i64 size/\Hid (FootTo L GP k rows size)/\(0<=rows/\rows<=65536)/\(0<=size/\size<=1073741824)
   /\Blk wr w.heap.size 38 #[.slice Ac L.length cc,.int .i64 r,.slice Ag G.length cg]/\New w wr) (fun _ _ i _=>G.length-(intOf i).toNat)
  case atStart=>exact⟨0,0,0,Nat.zero_le _,rfl,rfl,rfl,HZ,by omega,by omega,B1,b01⟩
  case round=>
   obtain⟨k,rows,size,hk,rfl,rfl,rfl,H,hrw,hsz,B,b⟩:=hrel;clear HZ B1 b01;by_cases hlt:k<G.length
   ·obtain⟨ad,rfl,hb,d0,d1⟩:=(Reads.later HG.out b).gr2 hlt
    have hgm:=zal grZ hlt;have hch:=HCH.out _ hgm;have hpg:=HPG.out _ hgm;have hpp:=HP.out _ hgm;have hmap:=HMap.out k hlt;have hltP:k<GP.length:=by rw[HLen.out];exact hlt
    generalize G.getD k grZ=g at*;obtain⟨gr,Ach,cch,D⟩:=g;dsimp only at d0 d1 hch hpg hpp;unfold grP at hmap;dsimp only at hmap;have hl2:(GP.getD k zaj).2.length=D.length:=by rw[hmap];exact List.length_map ..
    have hg1:(GP.getD k zaj).1=gr:=by rw[hmap]
    have HM2:=Hz (fun(c:Nat) (hc:c<D.length)=>show(GP.getD k zaj).2.getD c []=(D.getD c chZ).2.2 by rw[hmap];exact zbe (fun x:ChD=>x.2.2) D chZ [] hc);have NR:=Hz (fun hb=>HN.out (H.out.no_rows (r:=r) hltP hb));have EN:=Hz (fun h1 h2 h3=>H.out.enter h1 h2 h3);rw[hl2,hg1] at NR EN;have HL2:=Hz hl2;have HG1:=Hz hg1;have HCHk:=Hz hch.1;have hchl:=hch.2;have HPGk:=Hz hpg;have HPPk:=Hz hpp;have HLTP:=Hz hltP;clear hmap hl2 hg1 hch hpg hpp hgm hb H hltP;have ha:New wr (wr.alloc (.cells #[.int .i64 gr,.slice Ach D.length cch] 56)):=(Below.refl _ _).alloc (Nat.le_refl _) _;have BG:=Blk.new wr 56 #[.int .i64 gr,.slice Ach D.length cch];have B2:=B.below ha B.lt;have b2:=New.trans b ha;obtain⟨y0,y1,y2⟩:=zad B2;obtain⟨z0,z1⟩:=za7 BG;clear B b ha;by_cases h1:gr<1
    ·have hM:=Hz (NR.out (.inl h1))
     clear NR EN;go_wp2
     go_ret
     exact⟨by rw[hM.out];rfl,b2⟩
    by_cases h2:65536-rows<gr
    ·have hM:=Hz (NR.out (.inr (.inl h2)))
     clear NR EN;go_wp2
     go_ret
     exact⟨by rw[hM.out];rfl,b2⟩
    by_cases h3:D.length=L.length
    ·have t3:((D.length:Int) != (L.length:Int))=false:=by simp;omega
     have hE:=EN.out (by omega) (by omega) h3;have HE:=Hz hE;have hDL:D.length<=L.length:=by omega
     have H3:=Hz h3;clear NR EN hE h3;go_wp2_with fail
     clear y0 y1 y2 z0 z1 d0 d1 t3;generalize wr.heap.size=gB at*;go_loopw [4,48] (fun s i wr=>∃(c:Nat) (sz:Int),c<=D.length/\i= .int .i64 (c:Int)/\s= .int .i64 sz/\Hid (ChunkTo L GP k c (rows+gr) sz)/\(0<=sz/\sz<=1073741824)
      /\Blk wr w.heap.size 38 #[.slice Ac L.length cc,.int .i64 r,.slice (some ad) G.length cg]/\Blk wr gB 56 #[.int .i64 gr,.slice Ach D.length cch]/\New w wr) (fun _ i _=>D.length-(intOf i).toNat)
     case atStart=>exact⟨0,size,Nat.zero_le _,rfl,rfl,HE,hsz,B2,BG,b2⟩
     case round=>
      obtain⟨c,sz,hc,rfl,rfl,H,hsz2,B,BGq,bq⟩:=hrel;clear HE B2 BG b2;by_cases hlc:c<D.length
      ·have hcL:c<L.length:=by omega
       obtain⟨ac,rfl,hbc,e0⟩:=(Reads.later HCHk.out bq).ch1 hlc;obtain⟨al,rfl,hbl,-⟩:=(Reads.later HL.out bq).colT hcL;have hxm:=zal chZ hlc;have hpx:=HPGk.out _ hxm;have hsx:=HPPk.out _ hxm;have hm2:=HM2.out c hlc;have NC:=Hz (fun hb=>HN.out (H.out.no_chunk (r:=r) HLTP.out (by rw[HL2.out];exact hlc) hb));have NX:=Hz (fun h1 h2=>H.out.next (by rw[HL2.out];exact hlc) h1 h2);rw[hm2,HG1.out] at NC NX;have FC:=Hz (fun(W:World) (hW:New w W)=>show(W.cell? (al.add (c*3))=some (.string (zac (L.getD c zdo).1))/\W.cell? ⟨(al.add (c*3)).block,(al.add (c*3)).off+1,none⟩=some (.int .i64 (L.getD c zdo).2.1)/\W.cell? ⟨(al.add (c*3)).block,(al.add (c*3)).off+2,none⟩=some (.bool (L.getD c zdo).2.2)) from by obtain⟨al',e,_,f⟩:=(Reads.later HL.out hW).colT hcL;injection e with e;subst e;exact f)
       generalize D.getD c chZ=x at*;obtain⟨Ax,cx,pl⟩:=x;dsimp only at e0 hpx hsx NC NX;have CSZ:=fun(W:World) (hW:New w W)=>zs6 (c:=L.getD c zdo) (cap:=cx) (rows:=gr) (Reads.later hpx.1 hW) hsx hpx.2 (by omega)
       have hiff:=zrd (t:=(L.getD c zdo).2.1) (nu:=(L.getD c zdo).2.2) pl gr 0 (by omega);have hbd:=zl7 (t:=(L.getD c zdo).2.1) (nu:=(L.getD c zdo).2.2) pl gr 0 (by omega) (by omega);generalize L.getD c zdo=col at*;obtain⟨nm,t,nu⟩:=col;dsimp only at hiff hbd NC NX CSZ;unfold zs5 at CSZ;generalize zer t nu pl gr 0=S at*;obtain⟨sn,so⟩:=S;dsimp only at hiff hbd CSZ;have CSZ:Hid (∀W,New w W->Calls Tryz.prog 92 #[.agg #[.string (zac nm),.int .i64 t,.bool nu],.slice Ax pl.length cx,.int .i64 gr] W (fun e w'=>e= .returned (.tuple #[.int .i64 sn,.bool so])/\New W w')):=Hz CSZ;have HIF:=Hz hiff;clear hiff hpx hsx hm2 hxm hbc hbl H;obtain⟨y0,y1,y2⟩:=zad B;obtain⟨z0,z1⟩:=za7 BGq;dsimp only at FC;go_wp2_with fail
       refine zam New [(true,0),(true,1),(true,2),(true,3),(true,4),(true,5),(true,6),(true,7),(false,8),(true,9),(true,10),(true,11),(true,12),(true,13)]
        New.refl New.trans (by kernel_rfl) (by kernel_rfl) (by kernel_rfl) (by kernel_rfl) ?_
       have F:=Hz (fun(W:World) (hW:New wr W)=>And.intro (B.below hW B.lt) (BGq.below hW BGq.lt));have hU:=New.drew wr;clear y0 y1 y2 z0 z1 e0;repeat(first
        |(refine zaq rfl rfl (v:=?_) (fun W hQ=>?_) ?_;rotate_left;(obtain⟨f0,f1,f2⟩:=FC.out W (New.trans bq (New.trans hU hQ));obtain⟨F1,F2⟩:=F.out W (New.trans hU hQ);obtain⟨y0,y1,y2⟩:=zad F1;obtain⟨z0,z1⟩:=za7 F2;clear F1 F2;go_simp<;> with_reducible rfl);simp only[Act.put,List.setIfInBounds_toArray,List.set_cons_zero,List.set_cons_succ]))
       refine za8 rfl rfl (fun K0 hK0=>?_);go_simp
       (with_reducible refine(CSZ.out _ (New.trans bq hU)).mono ?_)
       rintro e u ⟨rfl,bu⟩;refine hK0 _ _ bu ?_;replace hU:=New.trans hU bu;clear hK0 bu;repeat(first
        |(refine zaq rfl rfl (v:=?_) (fun W hQ=>?_) ?_;rotate_left;(go_simp<;> with_reducible rfl);simp only[Act.put,List.setIfInBounds_toArray,List.set_cons_zero,List.set_cons_succ]))
       refine zb2 ?_;obtain⟨B3,BG3⟩:=F.out _ hU;have b3:=New.trans bq hU;clear F FC CSZ hU B BGq bq;cases so with
       |false=>
        have hM:=Hz (NC.out (.inl (fun hh=>by have:=HIF.out.1.2 hh;simp at this)));clear NC NX HIF;go_wp2
        go_ret
        exact⟨by rw[hM.out];rfl,b3⟩
       |true=>
        have hco:=HIF.out.1.1 (by trivial);have hsn:=HIF.out.2 hco;rw[Int.zero_add] at hsn;by_cases hbig:1073741824<sz+sn
        ·have hM:=Hz (NC.out (.inr (by rw[<-hsn];exact hbig)))
         clear NC NX HIF hco hsn;go_wp2
         go_ret
         exact⟨by rw[hM.out];rfl,b3⟩
        ·have hN:=Hz (NX.out hco (by rw[<-hsn];omega))
         rw[<-hsn] at hN;clear NC NX HIF hco hsn;go_wp2
         go_roundw
         case rel=>exact⟨c+1,sz+sn,by omega,by go_num,rfl,hN,by omega,B3,BG3,b3⟩
         case measure=>simp[intOf];omega
      ·obtain rfl:c=D.length:=by omega
       have hLv:=Hz (H.out.leave (by rw[HL2.out]) HLTP.out);have hrr:=H.out.most;rw[HG1.out] at hrr;clear H;go_wp2
       go_roundw
       case rel=>exact⟨k+1,rows+gr,sz,by omega,by go_num,rfl,rfl,hLv,by omega,hsz2,B,bq⟩
       case measure=>simp[intOf];omega
    ·have t3:((D.length:Int) != (L.length:Int))=true:=by simp;omega
     have hM:=Hz (NR.out (.inr (.inr h3)));clear NR EN h3;go_wp2
     go_ret
     exact⟨by rw[hM.out];rfl,b2⟩
   ·obtain rfl:k=G.length:=by omega
    have hY:=H.out;rw[<-HLen.out] at hY;have hY:=hY.yes (r:=r) HCO.out;obtain⟨x0,x1,x2⟩:=zad B;by_cases he:rows=r
    ·have hM:=Hz (HY.out (hY.2 he))
     have t1:(rows==r)=true:=by simpa using he
     clear hY HY HN H he;go_wp2
     go_ret
     exact⟨by rw[hM.out];rfl,b⟩
    ·have hM:=Hz (HN.out (fun hF=>he (hY.1 hF)))
     have t1:(rows==r)=false:=by simpa using he
     clear hY HY HN H he;go_wp2
     go_ret
     exact⟨by rw[hM.out];rfl,b⟩
 ·have hM:=Hz (HN.out (fun hF=>hk0 (hck.2 hF.1)))
  have t1:(zb5 L != 0)=true:=by simpa using hk0
  clear HY HN hck hk0;generalize zb5 L=ck at*;go_wp2
  go_ret
  exact⟨by rw[hM.out];rfl,b01⟩
end Go.Proofs.Y
namespace Go.Hm
open Go Go.RowKit
def inB(nl ng:Nat)(g c:Int):Bool:=decide (0<=g/\g<(ng:Int)/\0<=c/\c<(nl:Int))
def zaw(G:List za5)(g c:Nat):List zax:=(G.getD g zaj).2.getD c []
theorem zcr{F:FootS}(h:zbj F){k:Nat}(hk:k<F.groups.length):GroupOk F.cols (F.groups.getD k zaj):=h.2.1 _ (zal zaj hk)
end Go.Hm
namespace Go.Proofs.Y
open Go.RowKit Go.Hm
set_option maxRecDepth 100000 in
theorem zl8{w:World}{Ac Ag:Option Addr}{nl cc ng cg:Nat}{r g c:Int}:
 Calls Tryz.prog 83 #[.agg #[.slice Ac nl cc,.int .i64 r,.slice Ag ng cg],.int .i64 g,.int .i64 c] w (zak (.bool (inB nl ng g c)) w):=by
 have B0:=Blk.new w 38 #[.slice Ac nl cc,.int .i64 r,.slice Ag ng cg];have b0:New w (w.alloc (.cells #[.slice Ac nl cc,.int .i64 r,.slice Ag ng cg] 38)):=(Below.refl _ _).alloc (Nat.le_refl _) _;obtain⟨x0,x1,x2⟩:=zad B0;obtain⟨R,hR⟩:∃R,R=inB nl ng g c:=⟨_,rfl⟩;rw[<-hR];unfold inB at hR;by_cases h1:0<=g<;> by_cases h2:g<(ng:Int)<;> by_cases h3:0<=c<;> by_cases h4:c<(nl:Int);all_goals
  first
   |(have e:R=true:=by rw[hR];simp;omega)
   |(have e:R=false:=by rw[hR];simp;omega)
  subst e;clear hR;go_enter Tryz.func83,Tryz.ntmps83
  go_wp2
  all_goals
   first
    |(exfalso;omega)
    |(go_ret;exact⟨rfl,b0⟩)
theorem z68{nl ng:Nat}{g c:Int}(h:inB nl ng g c=true):∃gk ck:Nat,g=(gk:Int)/\c=(ck:Int)/\gk<ng/\ck<nl:=by unfold inB at h;simp only[decide_eq_true_eq] at h;exact⟨g.toNat,c.toNat,by omega,by omega,by omega,by omega⟩
theorem zln{F:FootS}(h:zbj F){k c:Nat}(hk:k<F.groups.length)(hc:c<F.cols.length):zdn (F.cols.getD c zdo).2.1 (F.cols.getD c zdo).2.2 (zaw F.groups k c) (F.groups.getD k zaj).1/\(F.groups.getD k zaj).2.length=F.cols.length:=by have:=zcr h hk;exact⟨this.2.2 c hc,this.2.1⟩
open Go.RowKit Go.Hm
def qf0(c:za1)(g:Nat)(S:St)(w:World)(e:Ending)(w':World):Prop:=e= .returned (.agg #[.string (zac c.1),.int .i64 c.2.1,.bool c.2.2])/\CurS w' g S/\w.grownBy w' (some g)
set_option maxRecDepth 100000 in
theorem z20{w:World}{g:Nat}{S:St}(h:CurS w g S):Calls Tryz.prog 109 #[.pointer (some ⟨g,0,none⟩)] w (qf0 (zs9 S).1 g (zs9 S).2 w):=by
 have hok:=h.ok;have hg:=h.lt;obtain⟨W0,hW0⟩:∃W,W=w.alloc (.cells #[.string ⟨#[]⟩,.int .i64 0,.bool false] 70):=⟨_,rfl⟩;have b0:New w W0:=by rw[hW0];exact(Below.refl _ _).alloc (Nat.le_refl _) _
 have G0:w.grownBy W0 (some g):=by rw[hW0];exact World.grownBy_alloc _ _ _
 have B0:Blk W0 w.heap.size 70 #[.string ⟨#[]⟩,.int .i64 0,.bool false]:=by rw[hW0];exact Blk.new _ _ _
 have h0:=h.below b0;have hne:w.heap.size≠g:=by omega
 have P1:=Hz (zcc (m:=100) h0 (by omega) (by omega));have hl:=zbx (m:=100) S (by omega) hok;have ok1:=zba (m:=100) hok;rw[hW0] at P1;have HW:=Hz hW0;clear h h0 hok hW0 b0;generalize hS:zs9 S=R;unfold zs9 at hS;generalize lenS 100 S=R1 at*;obtain⟨n1,S1⟩:=R1;simp only at hl ok1 hS P1;have HS:=Hz hS;clear hS;go_enter Tryz.func109,Tryz.ntmps109
 go_wp2_with fail
 refine P1.out.mono ?_;rintro e w1 ⟨rfl,C1,G1⟩;rw[<-HW.out] at G1;have B1:=B0.grown G1 (by simpa using hne);have G01:=G0.trans G1;have P2:=Hz (zc6 (n:=(n1:Int)) C1 (by omega) (by omega));obtain⟨ok2,l2⟩:=zct (n:=(n1:Int)) ok1;replace HS:=HS.out;generalize zbr (n1:Int) S1=R2 at*;obtain⟨s2,S2⟩:=R2;simp only at ok2 l2 HS P2;replace HS:=Hz HS;clear P1 B0 G0 G1 C1;go_wp2_with fail
 refine P2.out.mono ?_;rintro e w2 ⟨A2,n2,c2,rfl,e2,k2,C2,G2⟩;have B2:=B1.grown G2 (by simpa using hne);have G02:=G01.trans G2;have X2:=zd9 (c:=c2) k2.reads;have P3:=Hz (ze8 C2);have ok3:=zmx ok2;have lt3:=zhl ok2;replace HS:=HS.out;generalize zbf S2=R3 at*;obtain⟨t3,S3⟩:=R3;simp only at ok3 lt3 HS P3;replace HS:=Hz HS;clear P2 B1 G01 G2 C2 k2 e2;go_wp2_with fail
 refine P3.out.mono ?_;rintro e w3 ⟨rfl,C3,G3⟩;have B3:=B2.grown G3 (by simpa using hne);have G03:=G02.trans G3;have P4:=Hz (ze8 C3);have lt4:=zhl ok3;replace HS:=HS.out;generalize zbf S3=R4 at*;obtain⟨u4,S4⟩:=R4;simp only at lt4 HS P4;replace HS:=Hz HS;clear P3 B2 G02 G3 C3 X2;go_wp2_with fail
 refine P4.out.mono ?_;rintro e w4 ⟨rfl,C4,G4⟩;have B4:=B3.grown G4 (by simpa using hne);have G04:=G03.trans G4;clear P4 B3 G03 G4;by_cases hu:1<u4
 ·have P5:=Hz (zjq C4)
  go_wp2_with fail
  refine P5.out.mono ?_;rintro e w5 ⟨rfl,C5,G5⟩;have B5:=B4.grown G5 (by simpa using hne);have G05:=G04.trans G5;clear P5 B4 G04 G5 C4;obtain⟨p0,p1,p2⟩:=zad B5;have f0:=B5.frozen 0;have f1:=B5.frozen 1;have f2:=B5.frozen 2;have HB:=Hz B5;clear B5;go_wp2
  obtain⟨W3,hW3,R10,G10,K10⟩:=z4y HB.out (a:= .string (zac s2)) (b:= .int .i64 (t3:Int)) (c:= .bool ((u4:Int)==1)) G05 (Nat.le_refl _);rw[<-hW3];have s0:=R10.cell 0;have s1:=R10.cell 1;have s2':=R10.cell 2;simp at s0 s1 s2';have CW:CurS W3 g none:=by rw[hW3];exact((C5.keep zb0 HB.out (by omega) (by decide)).keep zb0 (HB.out.set_ 0 _) (by omega) (by decide)).keep zb0 ((HB.out.set_ 0 _).set_ 1 _) (by omega) (by decide)
  refine bodyPost_ret (v:= .agg #[.string (zac s2),.int .i64 (t3:Int),.bool ((u4:Int)==1)]) (by simp[results,Tryz.results109,go_sem,s0,s1,s2']) rfl ⟨?_,?_,G10⟩
  ·rw[<-HS.out,show((u4:Int)==1)=decide (u4=1) by rw[Bool.eq_iff_iff];simp;omega]
  ·rw[<-HS.out,if_pos hu]
   exact CW
 ·
  obtain⟨p0,p1,p2⟩:=zad B4;have f0:=B4.frozen 0;have f1:=B4.frozen 1;have f2:=B4.frozen 2;have HB:=Hz B4;clear B4;go_wp2
  obtain⟨W3,hW3,R10,G10,K10⟩:=z4y HB.out (a:= .string (zac s2)) (b:= .int .i64 (t3:Int)) (c:= .bool ((u4:Int)==1)) G04 (Nat.le_refl _);rw[<-hW3];have s0:=R10.cell 0;have s1:=R10.cell 1;have s2':=R10.cell 2;simp at s0 s1 s2';have CW:CurS W3 g S4:=by rw[hW3];exact((C4.keep zb0 HB.out (by omega) (by decide)).keep zb0 (HB.out.set_ 0 _) (by omega) (by decide)).keep zb0 ((HB.out.set_ 0 _).set_ 1 _) (by omega) (by decide)
  refine bodyPost_ret (v:= .agg #[.string (zac s2),.int .i64 (t3:Int),.bool ((u4:Int)==1)]) (by simp[results,Tryz.results109,go_sem,s0,s1,s2']) rfl ⟨?_,?_,G10⟩
  ·rw[<-HS.out,show((u4:Int)==1)=decide (u4=1) by rw[Bool.eq_iff_iff];simp;omega]
  ·rw[<-HS.out,if_neg hu]
   exact CW
theorem zir{w w1 w2:World}{row:Option Nat}(h:w.grownBy w1 row)(h2:w1.grownBy w2 row):w.grownBy w2 row:=h.trans h2
def qb7(l:List za1)(g:Nat)(S:St)(w:World)(e:Ending)(w':World):Prop:=∃A n c,e= .returned (.slice A n c)/\n<=c/\c<=maxLen/\w'.ownsRow w.heap.size 70 3 (.slice A n c) n (recs zhq l)/\CurS w' g S/\w.grownBy w' (some g)
theorem elC:ElT Tryz.prog 22 70 (.agg #[.string ⟨#[]⟩,.int .i64 0,.bool false]) 3 32:=⟨by kernel_rfl,by kernel_rfl,rfl,by omega⟩
set_option maxRecDepth 100000 in
theorem qb8{w:World}{g:Nat}{S:St}(h:CurS w g S):Calls Tryz.prog 78 #[.pointer (some ⟨g,0,none⟩)] w (qb7 (getC S).1 g (getC S).2 w):=by
 have hok:=h.ok;have hg:=h.lt;have P1:=Hz (zcc (m:=64) h (by omega) (by omega));have hl:=zbx (m:=64) S (by omega) hok;have ok1:=zba (m:=64) hok;have G1:=Hz (show getC S=_ from rfl);generalize hR:getC S=R at*;unfold getC at hR;generalize lenS 64 S=R1 at*;obtain⟨n,S1⟩:=R1;simp only at hl ok1 hR P1;have HR:=Hz hR;clear hR G1 h hok;go_enter Tryz.func78,Tryz.ntmps78
 go_wp2_with fail
 refine P1.out.mono ?_;rintro e w1 ⟨rfl,C1,G1⟩;have z1:=G1.size;clear P1;have g1:g<w1.heap.size:=C1.lt
 go_wp2_with (refine z1k elC rfl (.tmp 8) (.tmp 8) rfl (W:=w1) (B:=w1.heap.size) n rfl rfl rfl rfl (Below.refl _ w1) (Nat.le_refl _) (by omega) (by simp only[maxLen];omega) ?_
              intro w2 o2 g2 b2 s2)
 have C2:=C1.below b2;have G2:w.grownBy w2 (some g):=zhh G1 b2;obtain⟨gm,hgm⟩:∃gm,gm=w1.heap.size:=⟨_,rfl⟩;rw[<-hgm] at o2⊢;have hgm1:w.heap.size<=gm/\g≠gm:=by omega
 have o2:=zbg o2 hgm1.1;clear hgm C1 G1 z1 g2 b2 s2 g1;go_loopw [12] (fun i wr=>∃k:Nat,i= .int .i64 (k:Int)/\k<=n/\CurS wr g (zej k S1).2/\wr.ownsRow w.heap.size 70 3 (.slice (some ⟨gm,0,none⟩) n n) n (recs zhq ((zej k S1).1++List.replicate (n-k) ([],0,false)))/\w.grownBy wr (some g)) (fun i _=>n-(intOf i).toNat)
 case atStart=>exact⟨0,rfl,by omega,C2,by simpa[recs,zej,List.flatMap_replicate,zhq,zac] using o2,G2⟩
 case round=>
  obtain⟨k,rfl,hk,C3,o3,G3⟩:=hrel;by_cases hlt:k<n
  ·have P4:=Hz (z20 C3)
   obtain⟨q1,q2⟩:=zrf k S1;have okk:=z0h k ok1;have hlen:=zkv k S1;have fin:=zvi okk;have HQ1:=Hz q1;have HQ2:=Hz q2;clear q1 q2;generalize(zej k S1).1=pre at*;generalize(zej k S1).2=Sk at*;generalize zs9 Sk=R4 at*;obtain⟨⟨nm4,t4,u4⟩,S4⟩:=R4;simp only at P4;have hrep:List.replicate (n-k) (([],0,false):za1)=([],0,false)::List.replicate (n-(k+1)) ([],0,false):=by rw[show n-k=(n-(k+1))+1 by omega];rfl
   rw[hrep,zas,zg1] at o3;have hpl:(recs zhq pre).length=k*3:=by rw[zat (sz:=3) (fun _=>rfl),hlen]
   have hiz:(k:Int)<(n:Int):=by omega
   have HO3:=Hz o3;clear o3 C3 hrep;go_wp2_with fail
   refine P4.out.mono ?_;rintro e w4 ⟨rfl,C4,G4⟩;have o4:=World.ownsRow.kept HO3.out G4 (.inr (by simp[Value.ownBlock];exact fun e=>hgm1.2 e.symm));have G04:=zir G3 G4;obtain⟨cs,B4⟩:=zie o4;have c0:=o4.cellAt (k*3) (by omega);have c1:=o4.cellAt (k*3+1) (by omega);have c2:=o4.cellAt (k*3+2) (by omega);rw[List.getElem?_append_right (by omega),hpl] at c0 c1 c2;simp[zhq] at c0 c1 c2;have f0:=o4.frozenAt (k*3);have f1:=o4.frozenAt (k*3+1);have f2:=o4.frozenAt (k*3+2);have HO4:=Hz o4;clear o4 P4 HO3;go_wp2
   obtain⟨W5,hW5,o5,g5⟩:=qan (a:= .string (zac nm4)) (b:= .int .i64 t4) (d:= .bool u4) HO4.out hpl;rw[<-hW5];clear hW5;go_roundw
   case rel=>exact⟨k+1,by go_num,by omega,by rw[HQ2.out];exact C4.keep g5 B4 hgm1.2 (by decide),by rw[HQ1.out,List.append_assoc,zas];exact o5,z4x G04 g5 hgm1.1⟩
   case measure=>simp[intOf];omega
  ·obtain rfl:k=n:=by omega
   rw[Nat.sub_self,List.replicate_zero,List.append_nil] at o3;have hfin:=zrg k ok1;have HR:=HR.out;have hlen:=zkv k S1;generalize zej k S1=R5 at*;obtain⟨L,S5⟩:=R5;simp only at o3 hfin HR hlen C3;subst hlen;have r3:=Reads.of_own o3;have P6:=Hz (zm6 (c:=L.length) r3 (fun x hx=>⟨(hfin x hx).1,by have:=(hfin x hx).2;omega⟩) (Nat.le_refl _) (by omega));have P5:=Hz (zzi C3);rcases S5 with _|l5
   ·rw[if_pos (.inl rfl)] at HR
    subst HR;go_wp2_with fail
    refine P5.out.mono ?_;rintro e w5 ⟨rfl,rfl⟩;have P7:=Hz (zjq C3);go_wp2_with fail
    refine P7.out.mono ?_;rintro e w7 ⟨rfl,C7,G7⟩;go_wp2
    go_ret
    exact⟨none,0,0,rfl,by omega,by simp[maxLen],zcp,C7,zir G3 G7⟩
   ·by_cases hck:zb5 L=0
    ·rw[if_neg (by simp[hck])] at HR
     subst HR;rw[hck] at P6;go_wp2_with fail
     refine P5.out.mono ?_;rintro e w5 ⟨rfl,rfl⟩;go_wp2_with fail
     refine P6.out.mono ?_;rintro e w6 ⟨rfl,b6⟩;go_wp2
     go_ret
     exact⟨_,_,_,rfl,Nat.le_refl _,by simp only[maxLen];omega,zav o3 b6,C3.below b6,zhh G3 b6⟩
    ·rw[if_pos (.inr hck)] at HR
     subst HR;generalize zb5 L=ck at*;have e1:(ck != 0)=true:=by simpa using hck
     clear hck;go_wp2_with fail
     refine P5.out.mono ?_;rintro e w5 ⟨rfl,rfl⟩;go_wp2_with fail
     refine P6.out.mono ?_;rintro e w6 ⟨rfl,b6⟩;have P7:=Hz (zjq (C3.below b6));go_wp2_with fail
     refine P7.out.mono ?_;rintro e w7 ⟨rfl,C7,G7⟩;go_wp2
     go_ret
     exact⟨none,0,0,rfl,by omega,by simp[maxLen],zcp,C7,zir (zhh G3 b6) G7⟩
open Go.RowKit Go.Hm
set_option maxRecDepth 100000 in
theorem zga{w:World}{A:Option Addr}{n c:Nat}{D:List zh6}(h:Reads w w.heap.size 1 A n (recs zja D))(hD:∀d∈D,BytIn w d)(hn:n<=140737488351232)(hl:(zdb D).length<=140737488351232):
 Calls Tryz.prog 31 #[.slice A n c] w (zc4 (zdb D) w):=by
 have hlen:n=D.length:=by have:=h.1;rw[zat (sz:=1) (fun _=>rfl)] at this;omega
 subst hlen;have HR:=Hz h;have HD:=Hz hD;clear h hD;go_enter Tryz.func31,Tryz.ntmps31
 go_wp2_with fail
 go_loopw [3,11] (fun s i wr=>∃k:Nat,k<=D.length/\i= .int .i64 (k:Int)/\s= .int .i64 ((zdb (D.take k)).length:Int)/\wr=w) (fun _ i _=>D.length-(intOf i).toNat)
 case atStart=>exact⟨0,Nat.zero_le _,rfl,rfl,rfl⟩
 case round=>
  obtain⟨k,hk,rfl,rfl,rfl⟩:=hrel;by_cases hlt:k<D.length
  ·obtain⟨ad,rfl,_,hc⟩:=z8s HR.out hlt
   have e1:=zrw hlt;have e2:=zk1 D (k+1);have E1:=Hz e1;have e3:(zdb (D.take (k+1))).length=(zdb (D.take k)).length+(D.getD k (none,0,[])).2.2.length:=by rw[e1,List.length_append]
   clear e1;generalize D.getD k (none,0,[])=d at*;obtain⟨da,dc,dl⟩:=d;have i1:(k:Int)<(D.length:Int):=by omega
   have i2:wrap64 (((zdb (D.take k)).length:Int)+(dl.length:Int))=((zdb (D.take (k+1))).length:Int):=by rw[e3];dsimp only;unfold wrap64;dsimp only at e3;omega
   have i3: ¬(((zdb (D.take (k+1))).length:Int)<0):=by omega
   have E3:=Hz e3;clear e3;generalize(zdb (D.take k)).length=s0 at*;generalize hs1:(zdb (D.take (k+1))).length=s1 at*;have HS:=Hz hs1;clear hs1;go_wp2_with fail
   go_roundw
   case rel=>exact⟨k+1,by omega,by go_num,by rw[HS.out,i2],by trivial⟩
   case measure=>simp[intOf];omega
  ·obtain rfl:k=D.length:=by omega
   rw[List.take_length];generalize wr=w0 at*;have G:=Hz (z8t (w:=w0) (n:=(zdb D).length) hl);generalize hs1:(zdb D).length=s1 at*;have HS:=Hz hs1;clear hs1;go_wp2_with fail
   refine G.out.mono ?_;rintro e W1 ⟨A1,c1,rfl,o1,b1⟩;clear G;go_wp2_with fail
   go_loopw [6,27] (fun s i wr=>∃(k:Nat) (A2:Option Addr) (c2:Nat),k<=D.length/\i= .int .i64 (k:Int)/\s= .slice A2 (zdb (D.take k)).length c2/\Go.Hm.Own wr w0.heap.size 5 (.slice A2 (zdb (D.take k)).length c2) (za2 .u8 (zdb (D.take k)))/\New w0 wr) (fun _ i _=>D.length-(intOf i).toNat)
   case atStart=>exact⟨0,A1,c1,Nat.zero_le _,rfl,rfl,o1,b1⟩
   case round=>
    clear o1 b1;obtain⟨k,A2,c2,hk,rfl,rfl,o,b⟩:=hrel;by_cases hlt:k<D.length
    ·obtain⟨ad,rfl,_,hc⟩:=z8s (Reads.later HR.out b) hlt
     have hrd:=BytIn.later (HD.out _ (zc5 (none,0,[]) hlt)) b;have e1:=zrw hlt;have e2:=zk1 D (k+1);rw[HS.out] at e2;have E1:=Hz e1;have e3:(zdb (D.take (k+1))).length=(zdb (D.take k)).length+(D.getD k (none,0,[])).2.2.length:=by rw[e1,List.length_append]
     have e4:(zdb (D.take (k+1))).length<=140737488351232:=by omega
     clear e1;generalize D.getD k (none,0,[])=d at*;obtain⟨da,dc,dl⟩:=d;have i1:(k:Int)<(D.length:Int):=by omega
     have hrd:Reads _ _ 1 da dl.length (za2 .u8 dl):=hrd;have hsz:=b.size;generalize zdb (D.take k)=F at*;generalize hF1:zdb (D.take (k+1))=F1 at*;have HF:=Hz hF1;have e5:F.length+dl.length<=140737488351232:=by have e6:F1.length=F.length+dl.length:=e3;omega
     clear e3;clear hF1
     go_wp2_with (refine zau elB rfl (.tmp 31) (.tmp 32) rfl (W:=w0) (B:=w0.heap.size) (k:= .u8) (l:=F) (l2:=dl) (c2:=dc) o hrd rfl rfl b (Nat.le_refl _) hsz (by omega) (by simp only[maxLen];omega) ?_
                  intro A3 c3 w3 hq1 hq2 o3 g3 b3 hq3)
     go_roundw
     case rel=>exact⟨k+1,A3,c3,by omega,by go_num,by rw[HF.out,E1.out,List.length_append],by rw[HF.out,E1.out,List.length_append];exact o3,b3⟩
     case measure=>simp[intOf];omega
    ·obtain rfl:k=D.length:=by omega
     rw[List.take_length] at o⊢;go_wp2_with fail
     go_ret
     exact⟨A2,_,c2,rfl,o,b⟩
end Go.Proofs.Y
namespace Go.Hm
def Seen(l:List (Int × Int))(f t:Int)(k:Nat)(first:Int)(last:Nat):Prop:=
 (first= -1/\last=0/\ ∀i,i<k-> ¬z9r (l.getD i (0,0)) f t)\/
 (∃a:Nat,first=(a:Int)/\a<last/\last<=k/\z9r (l.getD a (0,0)) f t/\z9r (l.getD (last-1) (0,0)) f t/\(∀i,i<a-> ¬z9r (l.getD i (0,0)) f t)/\ ∀i,last<=i->i<k-> ¬z9r (l.getD i (0,0)) f t)
theorem Seen.zero(l:List (Int × Int))(f t:Int):Seen l f t 0 (-1) 0:= .inl ⟨rfl,rfl,fun i h=>by omega⟩
theorem Seen.no{l:List (Int × Int)}{f t:Int}{k:Nat}{first:Int}{last:Nat}(h:Seen l f t k first last)(hn: ¬z9r (l.getD k (0,0)) f t):Seen l f t (k+1) first last:=by
 rcases h with⟨h1,h2,h3⟩|⟨a,h1,h2,h3,h4,h5,h6,h7⟩
 ·refine .inl ⟨h1,h2,fun i hi=>?_⟩
  by_cases e:i=k
  ·subst e;exact hn
  ·exact h3 i (by omega)
 ·refine .inr ⟨a,h1,h2,by omega,h4,h5,h6,fun i hi hi2=>?_⟩
  by_cases e:i=k
  ·subst e;exact hn
  ·exact h7 i hi (by omega)
theorem Seen.first{l:List (Int × Int)}{f t:Int}{k:Nat}{first:Int}{last:Nat}(h:Seen l f t k first last)(hf:first<0)(hy:z9r (l.getD k (0,0)) f t):Seen l f t (k+1) (k:Int) (k+1):=by
 rcases h with⟨h1,h2,h3⟩|⟨a,h1,_⟩
 ·exact .inr ⟨k,rfl,by omega,by omega,hy,by simpa using hy,h3,fun i hi hi2=>by omega⟩
 ·omega
theorem Seen.more{l:List (Int × Int)}{f t:Int}{k:Nat}{first:Int}{last:Nat}(h:Seen l f t k first last)(hf: ¬first<0)(hy:z9r (l.getD k (0,0)) f t):Seen l f t (k+1) first (k+1):=by
 rcases h with⟨h1,h2,h3⟩|⟨a,h1,h2,h3,h4,h5,h6,h7⟩
 ·omega
 ·exact .inr ⟨a,h1,by omega,by omega,h4,by simpa using hy,h6,fun i hi hi2=>by omega⟩
end Go.Hm
namespace Go.Proofs.Y
open Go.RowKit Go.Hm
end Go.Proofs.Y
