/- Merged. -/
import Derived.Test.YtbahbnbpmfgimaaGreatDoorBun22
set_option maxHeartbeats 4000000
namespace Go.Hm
open Go Go.RowKit
abbrev zbv:za6:=(0,0,0,false,(false,0,[],0,0),(false,0,[],0,0))
theorem Reads.page14{w:World}{B n i:Nat}{A:Option Addr}{l:List za6}(h:Reads w B 14 A n (recs zhb l))(hi:i<n):
 ∃ad,A=some ad/\ad.block<B/\w.cell? (ad.add (i*14))=some (.int .i64 (l.getD i zbv).1)/\w.cell? ⟨(ad.add (i*14)).block,(ad.add (i*14)).off+1,none⟩=some (.int .i64 (l.getD i zbv).2.1)/\w.cell? ⟨(ad.add (i*14)).block,(ad.add (i*14)).off+2,none⟩=some (.int .i64 (l.getD i zbv).2.2.1)/\w.cell? ⟨(ad.add (i*14)).block,(ad.add (i*14)).off+3,none⟩=some (.bool (l.getD i zbv).2.2.2.1)/\w.cell? ⟨(ad.add (i*14)).block,(ad.add (i*14)).off+4,none⟩=some (.bool (l.getD i zbv).2.2.2.2.1.1)/\w.cell? ⟨(ad.add (i*14)).block,(ad.add (i*14)).off+5,none⟩=some (.int .i64 (l.getD i zbv).2.2.2.2.1.2.1)/\w.cell? ⟨(ad.add (i*14)).block,(ad.add (i*14)).off+6,none⟩=some (.string (zae (l.getD i zbv).2.2.2.2.1.2.2.1))/\w.cell? ⟨(ad.add (i*14)).block,(ad.add (i*14)).off+7,none⟩=some (.int .i64 (l.getD i zbv).2.2.2.2.1.2.2.2.1)/\w.cell? ⟨(ad.add (i*14)).block,(ad.add (i*14)).off+8,none⟩=some (.int .i64 (l.getD i zbv).2.2.2.2.1.2.2.2.2)/\w.cell? ⟨(ad.add (i*14)).block,(ad.add (i*14)).off+9,none⟩=some (.bool (l.getD i zbv).2.2.2.2.2.1)/\w.cell? ⟨(ad.add (i*14)).block,(ad.add (i*14)).off+10,none⟩=some (.int .i64 (l.getD i zbv).2.2.2.2.2.2.1)/\w.cell? ⟨(ad.add (i*14)).block,(ad.add (i*14)).off+11,none⟩=some (.string (zae (l.getD i zbv).2.2.2.2.2.2.2.1))/\w.cell? ⟨(ad.add (i*14)).block,(ad.add (i*14)).off+12,none⟩=some (.int .i64 (l.getD i zbv).2.2.2.2.2.2.2.2.1)/\w.cell? ⟨(ad.add (i*14)).block,(ad.add (i*14)).off+13,none⟩=some (.int .i64 (l.getD i zbv).2.2.2.2.2.2.2.2.2):=by
 obtain⟨ad,h1,h2,_,h3⟩:=h.rec_ (f:=zhb) (sz:=14) (fun _=>rfl) zbv hi (by omega);refine⟨ad,h1,h2,h3 0 _ rfl,?_,?_,?_,?_,?_,?_,?_,?_,?_,?_,?_,?_,?_⟩
 ·have:=h3 1 _ rfl
  rw[<-za3] at this;exact this
 ·have:=h3 2 _ rfl
  rw[<-za3] at this;exact this
 ·have:=h3 3 _ rfl
  rw[<-za3] at this;exact this
 ·have:=h3 4 _ rfl
  rw[<-za3] at this;exact this
 ·have:=h3 5 _ rfl
  rw[<-za3] at this;exact this
 ·have:=h3 6 _ rfl
  rw[<-za3] at this;exact this
 ·have:=h3 7 _ rfl
  rw[<-za3] at this;exact this
 ·have:=h3 8 _ rfl
  rw[<-za3] at this;exact this
 ·have:=h3 9 _ rfl
  rw[<-za3] at this;exact this
 ·have:=h3 10 _ rfl
  rw[<-za3] at this;exact this
 ·have:=h3 11 _ rfl
  rw[<-za3] at this;exact this
 ·have:=h3 12 _ rfl
  rw[<-za3] at this;exact this
 ·have:=h3 13 _ rfl
  rw[<-za3] at this;exact this
theorem Reads.lenPage{w:World}{B n:Nat}{A:Option Addr}{l:List za6}(h:Reads w B 14 A n (recs zhb l)):n=l.length:=h.lenR (f:=zhb) (sz:=14) (fun _=>rfl) (by omega)
theorem z8x{α:Type}(l:List α)(k:Nat)(d:α)(h:k<l.length):l.drop k=l.getD k d::l.drop (k+1):=by rw[qm4 h,qoa,qmm h];rfl
theorem zas{α:Type}{l:List α}{k:Nat}(d:α)(h:k<l.length):l.getD k d∈l:=by rw[qoa,qmm h];exact qm8 h
end Go.Hm
namespace Go.Proofs.Y
open Go.RowKit Go.Hm
def ztt(r:Int × Bool)(w:World)(e:Ending)(w':World):Prop:=e= .returned (.tuple #[.int .i64 r.1,.bool r.2])/\New w w'
set_option maxRecDepth 100000 in
theorem ztu{w:World}{c:zbb}{A:Option Addr}{n cap:Nat}{l:List za6}{rows:Int}(h:Reads w w.heap.size 14 A n (recs zhb l))(hl:∀p∈l,zeb p.2.2)(hn:n<=4611686018427387903)(hr:0<=rows/\rows<=65536):
 Calls Tryz.prog 110 #[ql0 c,.slice A n cap,.int .i64 rows] w (ztt (zez c.2.1 c.2.2 l rows 0) w):=by
 obtain rfl:=h.lenPage;obtain⟨nm,t,nu⟩:=c;have HR:=Hz h;have HL:=Hz hl;have HC:=Hz (show zez t nu l rows 0=zez t nu (l.drop 0) rows 0 from rfl);clear h hl;show Calls Tryz.prog 110 #[.agg #[.string (zae nm),.int .i64 t,.bool nu],.slice A l.length cap,.int .i64 rows] w (ztt (zez t nu l rows 0) w);generalize hX:zez t nu l rows 0=X at*;clear hX;have B0:=Blk.new w 71 #[.string (zae nm),.int .i64 t,.bool nu];have b0:New w (w.alloc (.cells #[.string (zae nm),.int .i64 t,.bool nu] 71)):=(Below.refl _ _).alloc (qmt _) _;go_enter Tryz.func110,Tryz.ntmps110
 go_wp2_with fail
 go_loopw [2,8,13] (fun r s i wr=>∃(k:Nat) (rr ss:Int),k<=l.length/\i= .int .i64 (k:Int)/\r= .int .i64 rr/\s= .int .i64 ss/\Hid (X=zez t nu (l.drop k) rr ss)/\(0<=rr/\rr+k<=rows)/\(0<=ss/\ss<=k*268435456)
  /\Blk wr w.heap.size 71 #[.string (zae nm),.int .i64 t,.bool nu]/\New w wr) (fun _ _ i _=>l.length-(intOf i).toNat)
 case atStart=>exact⟨0,rows,0,qmu _,rfl,rfl,rfl,HC,by omega,by omega,B0,b0⟩
 case round=>
  obtain⟨k,rr,ss,hk,rfl,rfl,rfl,H,hrr,hss,B,b⟩:=hrel;clear HC B0 b0;by_cases hlt:k<l.length
  ·obtain⟨ad,rfl,hb,d0,d1,d2,d3,d4,d5,d6,d7,d8,d9,d10,d11,d12,d13⟩:=(Reads.later HR.out b).page14 hlt
   have hd:=z8x l k zbv hlt;have RP:=fun(W:World)=>zts (w:=W) (c:=(nm,t,nu)) (p:=l.getD k zbv) (most:=rr) (HL.out _ (zas zbv hlt))
   have hst:zez t nu (l.drop k) rr ss=if zh9 t nu (l.getD k zbv) rr then zez t nu (l.drop (k+1)) (rr-(l.getD k zbv).2.1) (ss+(l.getD k zbv).1) else(0,false):=by rw[hd];rfl
   rw[<-H.out] at hst;have hok:=fun(e:zh9 t nu (l.getD k zbv) rr=true)=>(pageB_most.1 e).1
   clear hd H hb;dsimp only at RP;generalize zh9 t nu (l.getD k zbv) rr=R at*;generalize l.getD k zbv=p at*;obtain⟨sz,rw,nn,bb,⟨p1,p2,p3,p4,p5⟩,⟨q1,q2,q3,q4,q5⟩⟩:=p;dsimp only at hst hok d0 d1 d2 d3 d4 d5 d6 d7 d8 d9 d10 d11 d12 d13;have RP:Hid (∀W,Calls Tryz.prog 131 #[.agg #[.string (zae nm),.int .i64 t,.bool nu],.agg #[.int .i64 sz,.int .i64 rw,.int .i64 nn,.bool bb,.bool p1,.int .i64 p2,.string (zae p3),.int .i64 p4,.int .i64 p5,.bool q1,.int .i64 q2,.string (zae q3),.int .i64 q4,.int .i64 q5],.int .i64 rr] W (zal (.bool R) W)):=Hz RP;have ha:New wr (wr.alloc (.cells #[.int .i64 sz,.int .i64 rw,.int .i64 nn,.bool bb,.bool p1,.int .i64 p2,.string (zae p3),.int .i64 p4,.int .i64 p5,.bool q1,.int .i64 q2,.string (zae q3),.int .i64 q4,.int .i64 q5] 135)):=(Below.refl _ _).alloc (qmt _) _;have BP:=Blk.new wr 135 #[.int .i64 sz,.int .i64 rw,.int .i64 nn,.bool bb,.bool p1,.int .i64 p2,.string (zae p3),.int .i64 p4,.int .i64 p5,.bool q1,.int .i64 q2,.string (zae q3),.int .i64 q4,.int .i64 q5];have B1:=B.below ha B.lt;have b1:=New.trans b ha;obtain⟨y0,y1,y2⟩:=zao B1;obtain⟨e0,e1,e2,e3,e4,e5,e6,e7,e8,e9,e10,e11,e12,e13⟩:=zdq BP;have HST:=Hz hst;clear hst B ha;go_wp2_with fail
   refine(RP.out _).mono ?_;rintro e w2 ⟨rfl,b2⟩;have B2:=B1.below b2 B1.lt;have BP2:=BP.below b2 BP.lt;have b02:=New.trans b1 b2;clear RP B1 BP b2 b1 y0 y1 y2 d0 d1 d2 d3 d4 d5 d6 d7 d8 d9 d10 d11 d12 d13 e0 e1 e2 e3 e4 e5 e6 e7 e8 e9 e10 e11 e12 e13;obtain⟨e0,e1,e2,e3,e4,e5,e6,e7,e8,e9,e10,e11,e12,e13⟩:=zdq BP2;cases R with
   |false=>
    go_wp2_with fail
    go_ret2
    have hX:=HST.out;rw[if_neg (by simp)] at hX;rw[hX];exact⟨rfl,b02⟩
   |true=>
    have hX:=HST.out;rw[if_pos rfl] at hX;have HX:=Hz hX;have hok:=hok rfl;clear hX HST;go_wp2_with fail
    go_roundw
    case rel=>exact⟨k+1,rr-rw,ss+sz,by omega,by go_num,rfl,rfl,HX,by omega,by omega,B2,b02⟩
    case measure=>simp[intOf];omega
  ·obtain rfl:k=l.length:=by omega
   have hX:=H.out;rw[qq3] at hX;have HX:=Hz hX;clear hX H;go_wp2_with fail
   go_ret2
   rw[HX.out];exact⟨rfl,b⟩
end Go.Proofs.Y
namespace Go.Hm
open Go Go.RowKit
theorem zb5{α:Type}(f:α->Int)(l:List α)(k:Nat)(d:α)(h:k<l.length):((l.take (k+1)).map f).sum=((l.take k).map f).sum+f (l.getD k d):=by rw[zad l k d h,qp6,qp5];simp
theorem ze5{α:Type}(f:α->Int):∀(l:List α) (k:Nat),(∀x∈l,0<=f x)->((l.take k).map f).sum<=(l.map f).sum
 | [],_,_=>by simp
 |x::l,0,h=>by
  have h1:=h x (by simp);have:=ze5 f l 0 fun y hy=>h y (by simp[hy])
  simp at this⊢;omega
 |x::l,k+1,h=>by
  have:=ze5 f l k fun y hy=>h y (by simp[hy])
  simp only[qqu,qnc,qp2];omega
theorem zhd{α:Type}(f:α->Int):∀(l:List α),(∀x∈l,0<=f x)->0<=(l.map f).sum
 | [],_=>by simp
 |x::l,h=>by
  have h1:=h x (by simp);have:=zhd f l fun y hy=>h y (by simp[hy])
  simp only[qnc,qp2];omega
abbrev zak:za4:=(0,[])
abbrev zfv:zbb:=([],0,false)
theorem zm2{t:Int}{nu:Bool}{l:List za6}{r:Int}(h:zee t nu l r):0<=zco l/\0<=r:=by have:=zfg h.1;have:=h.2;omega
theorem GroupOk.sizes{cols:List zbb}{g:za4}(h:GroupOk cols g):∀l∈g.2,0<=zco l:=fun l hl=>by obtain⟨i,hi,rfl⟩:=qpq hl;have:=h.2.2 i (by rw[<-h.2.1];exact hi);rw[qoa (l:=g.2),qmm hi] at this;exact(zm2 this).1
theorem GroupOk.nonneg{cols:List zbb}{g:za4}(h:GroupOk cols g):0<=zch g:=zhd _ _ h.sizes
theorem zvy{F:FootS}(h:zbu F){k:Nat}(hk:k<F.groups.length):((F.groups.take k).map (·.1)).sum+(F.groups.getD k zak).1<=65536:=by have h1:=zb5 (fun g:za4=>g.1) F.groups k zak hk;have h2:=ze5 (fun g:za4=>g.1) F.groups (k+1) (fun g hg=>by have:=(h.2.1 g hg).1;omega);have:=h.2.2.1;have:=h.2.2.2.1;omega
theorem zvz{F:FootS}(h:zbu F){k c:Nat}(hk:k<F.groups.length):((F.groups.take k).map zch).sum+(((F.groups.getD k zak).2.take c).map zco).sum<=1073741824:=by have hg:F.groups.getD k zak∈F.groups:=zas zak hk;have h1:=zb5 zch F.groups k zak hk;have h2:=ze5 zch F.groups (k+1) (fun g hg=>(h.2.1 g hg).nonneg);have h3:=ze5 zco (F.groups.getD k zak).2 c (h.2.1 _ hg).sizes;have h4:=h.2.2.2.2;have h5:zch (F.groups.getD k zak)=((F.groups.getD k zak).2.map zco).sum:=rfl;omega
theorem zm3{t:Int}{nu:Bool}:∀(l:List za6) (rows size:Int),0<=rows->0<=size->0<=(zez t nu l rows size).1/\(zez t nu l rows size).1<=size+rows*268435456
 | [],rows,size,h1,h2=>by simp only[zez];omega
 |p::l,rows,size,h1,h2=>by
  unfold zez;split
  ·rename_i hp
   have h3:=(pageB_most.1 hp).1;have:=zm3 (t:=t) (nu:=nu) l (rows-p.2.1) (size+p.1) (by omega) (by omega);omega
  ·dsimp only;omega
structure FootTo(L:List zbb)(G:List za4)(k:Nat)(rows size:Int):Prop where
 ok:∀g∈G.take k,GroupOk L g
 rows_:rows=((G.take k).map (·.1)).sum
 size_:size=((G.take k).map zch).sum
 most:0<=rows/\rows<=65536
 few:0<=size/\size<=1073741824
theorem FootTo.zero(L:List zbb)(G:List za4):FootTo L G 0 0 0:=⟨by simp,by simp,by simp,by omega,by omega⟩
structure ChunkTo(L:List zbb)(G:List za4)(k c:Nat)(rows size:Int):Prop where
 ok:∀g∈G.take k,GroupOk L g
 rows_:rows=((G.take k).map (·.1)).sum+(G.getD k zak).1
 size_:size=((G.take k).map zch).sum+(((G.getD k zak).2.take c).map zco).sum
 here:1<=(G.getD k zak).1/\(G.getD k zak).2.length=L.length/\ ∀i,i<c->zee (L.getD i zfv).2.1 (L.getD i zfv).2.2 ((G.getD k zak).2.getD i []) (G.getD k zak).1
 most:(G.getD k zak).1<=rows/\rows<=65536
 few:0<=size/\size<=1073741824
theorem FootTo.enter{L:List zbb}{G:List za4}{k:Nat}{rows size:Int}(h:FootTo L G k rows size)(h1:1<=(G.getD k zak).1)(h2:(G.getD k zak).1<=65536-rows)(h3:(G.getD k zak).2.length=L.length):
 ChunkTo L G k 0 (rows+(G.getD k zak).1) size:=by
 have:=h.most;exact⟨h.ok,by rw[h.rows_],by rw[h.size_];simp,⟨h1,h3,fun i hi=>by omega⟩,by omega,h.few⟩
theorem ChunkTo.next{L:List zbb}{G:List za4}{k c:Nat}{rows size:Int}(h:ChunkTo L G k c rows size)(hc:c<(G.getD k zak).2.length)(h1:zee (L.getD c zfv).2.1 (L.getD c zfv).2.2 ((G.getD k zak).2.getD c []) (G.getD k zak).1)
 (h2:size+zco ((G.getD k zak).2.getD c [])<=1073741824):ChunkTo L G k (c+1) rows (size+zco ((G.getD k zak).2.getD c [])):=by
 have h3:=(zm2 h1).1;have h4:=h.few;refine⟨h.ok,h.rows_,?_,⟨h.here.1,h.here.2.1,fun i hi=>?_⟩,h.most,by omega⟩
 ·rw[zb5 zco _ c [] hc,h.size_];omega
 ·by_cases e:i=c
  ·subst e;exact h1
  ·exact h.here.2.2 i (by omega)
theorem ChunkTo.leave{L:List zbb}{G:List za4}{k c:Nat}{rows size:Int}(h:ChunkTo L G k c rows size)(hc:c=(G.getD k zak).2.length)(hk:k<G.length):FootTo L G (k+1) rows size:=by
 subst hc;have hm:=h.most;have h1:=h.here.1;refine⟨fun g hg=>?_,by rw[h.rows_,zb5 (fun g:za4=>g.1) G k zak hk],?_,by omega,h.few⟩
 ·rw[zad G k zak hk] at hg
  rcases qny.1 hg with hg|hg
  ·exact h.ok g hg
  ·rw[qnz.1 hg]
   exact⟨h.here.1,h.here.2.1,fun i hi=>h.here.2.2 i (by rw[h.here.2.1];exact hi)⟩
 ·rw[zb5 zch G k zak hk,h.size_,qql]
  rfl
theorem FootTo.no_rows{L:List zbb}{G:List za4}{k:Nat}{rows size r:Int}(h:FootTo L G k rows size)(hk:k<G.length)(hb:(G.getD k zak).1<1\/65536-rows<(G.getD k zak).1\/(G.getD k zak).2.length≠L.length): ¬zbu ⟨L,r,G⟩:=fun hF=>by
 have hg:=hF.2.1 (G.getD k zak) (zas zak hk);have h1:=zvy hF hk;have h2:=h.rows_;dsimp only at h1;rcases hb with hb|hb|hb
 ·have:=hg.1;omega
 ·omega
 ·exact hb hg.2.1
theorem ChunkTo.no_chunk{L:List zbb}{G:List za4}{k c:Nat}{rows size r:Int}(h:ChunkTo L G k c rows size)(hk:k<G.length)(hc:c<(G.getD k zak).2.length)
 (hb: ¬zee (L.getD c zfv).2.1 (L.getD c zfv).2.2 ((G.getD k zak).2.getD c []) (G.getD k zak).1\/1073741824<size+zco ((G.getD k zak).2.getD c [])): ¬zbu ⟨L,r,G⟩:=fun hF=>by
 have hg:=hF.2.1 (G.getD k zak) (zas zak hk);rcases hb with hb|hb
 ·exact hb (hg.2.2 c (by dsimp only;rw[<-h.here.2.1];exact hc))
 ·have h1:=zvz hF (k:=k) (c:=c+1) hk
  dsimp only at h1;rw[zb5 zco _ c [] hc] at h1;have:=h.size_;omega
theorem FootTo.yes{L:List zbb}{G:List za4}{rows size r:Int}(h:FootTo L G G.length rows size)(hc:zph L):zbu ⟨L,r,G⟩↔rows=r:=by
 have h1:=h.rows_;have h2:=h.size_;rw[qql] at h1 h2;have h3:=h.most;have h4:=h.few;have hok:=h.ok;rw[qql] at hok;constructor
 ·intro hF
  have:=hF.2.2.1;dsimp only at this;omega
 ·intro e
  exact⟨hc,hok,by dsimp only;omega,by dsimp only;omega,by dsimp only;omega⟩
theorem Reads.gr2{w:World}{B n i:Nat}{A:Option Addr}{l:List GrD}(h:Reads w B 2 A n (recs grV l))(hi:i<n):
 ∃ad,A=some ad/\ad.block<B/\w.cell? (ad.add (i*2))=some (.int .i64 (l.getD i (0,none,0,[])).1)/\w.cell? ⟨(ad.add (i*2)).block,(ad.add (i*2)).off+1,none⟩=some (.slice (l.getD i (0,none,0,[])).2.1 (l.getD i (0,none,0,[])).2.2.2.length (l.getD i (0,none,0,[])).2.2.1):=by
 obtain⟨ad,h1,h2,_,h3⟩:=h.rec_ (f:=grV) (sz:=2) (fun _=>rfl) (0,none,0,[]) hi (by omega);refine⟨ad,h1,h2,h3 0 _ rfl,?_⟩;have:=h3 1 _ rfl;rw[<-za3] at this;exact this
theorem Reads.ch1{w:World}{B n i:Nat}{A:Option Addr}{l:List ChD}(h:Reads w B 1 A n (recs chV l))(hi:i<n):
 ∃ad,A=some ad/\ad.block<B/\w.cell? (ad.add i)=some (.slice (l.getD i (none,0,[])).1 (l.getD i (none,0,[])).2.2.length (l.getD i (none,0,[])).2.1):=by
 obtain⟨ad,h1,h2,_,h3⟩:=h.rec_ (f:=chV) (sz:=1) (fun _=>rfl) (none,0,[]) hi (by omega);refine⟨ad,h1,h2,?_⟩;have:=h3 0 _ rfl;rw[qm0] at this;exact this
open Go Go.RowKit
abbrev grZ:GrD:=(0,none,0,[])
abbrev chZ:ChD:=(none,0,[])
open Classical in
noncomputable def zfh(F:FootS):Bool:=decide (zbu F)
theorem zmc{F:FootS}(h:zbu F):zfh F=true:=by unfold zfh;simp[h]
theorem zpi{F:FootS}(h: ¬zbu F):zfh F=false:=by unfold zfh;simp[h]
theorem zbq{α β:Type}(f:α->β)(l:List α){k:Nat}(d:α)(e:β)(hk:k<l.length):(l.map f).getD k e=f (l.getD k d):=by rw[qoa,qpf,qmm hk,qoa,qmm hk];rfl
end Go.Hm
namespace Go.Proofs.Y
open Go.RowKit Go.Hm
set_option maxRecDepth 100000 in
theorem zmd{w:World}{Ac:Option Addr}{cc:Nat}{L:List zbb}{r:Int}{Ag:Option Addr}{cg:Nat}{G:List GrD}(h:FootIn w Ac cc L Ag G)(hp:∀g∈G,∀x∈g.2.2.2,∀p∈x.2.2,zeb p.2.2):
 Calls Tryz.prog 87 #[zli Ac cc L r Ag cg G] w (zal (.bool (zfh (zbx L r G))) w):=by
 have CK:=Hz (fun(W:World) (hW:New w W)=>znu (c:=cc) (Reads.later h.cols hW) h.fine h.cap h.few);have HG:=Hz h.groups;have HL:=Hz h.cols;have hfew:=h.few;have hfew2:=h.few2;have HCH:=Hz h.chunks;have HPG:=Hz h.pages;have HP:=Hz hp;have HY:=Hz (fun e:zbu (zbx L r G)=>zmc e);have HN:=Hz (fun e: ¬zbu (zbx L r G)=>zpi e);have hz:FootTo L (G.map grP) 0 0 0:=FootTo.zero _ _;have HZ:=Hz hz;clear h hp hz;generalize zfh (zbx L r G)=M at*;unfold zbx at HY HN;have HMap:=Hz (fun(k:Nat) (hk:k<G.length)=>zbq grP G (k:=k) grZ zak hk);have HLen:=Hz (show(G.map grP).length=G.length from qpg ..);generalize hGP:G.map grP=GP at*;have hck:=zeh L;clear hGP;show Calls Tryz.prog 87 #[.agg #[.slice Ac L.length cc,.int .i64 r,.slice Ag G.length cg]] w (zal (.bool M) w);have B0:=Blk.new w 79 #[.slice Ac L.length cc,.int .i64 r,.slice Ag G.length cg];have b0:New w (w.alloc (.cells #[.slice Ac L.length cc,.int .i64 r,.slice Ag G.length cg] 79)):=(Below.refl _ _).alloc (qmt _) _;obtain⟨x0,x1,x2⟩:=zao B0;go_enter Tryz.func87,Tryz.ntmps87
 go_wp2_with fail
 refine(CK.out _ b0).mono ?_;rintro e w1 ⟨rfl,b1⟩;have B1:=B0.below b1 B0.lt;have b01:=New.trans b0 b1;clear CK B0 b0 b1 x0 x1 x2;obtain⟨x0,x1,x2⟩:=zao B1;by_cases hk0:zcy L=0
 ·have hcok:=hck.1 hk0
  have HCO:=Hz hcok;rw[hk0];clear hck hk0 hcok;go_wp2_with fail
  clear x0 x1 x2;go_loopw [3,4,18] (fun a s i wr=>∃(k:Nat) (rows size:Int),k<=G.length/\i= .int .i64 (k:Int)/\a= .int .i64 rows/\s= .int .i64 size/\Hid (FootTo L GP k rows size)/\(0<=rows/\rows<=65536)/\(0<=size/\size<=1073741824)
   /\Blk wr w.heap.size 79 #[.slice Ac L.length cc,.int .i64 r,.slice Ag G.length cg]/\New w wr) (fun _ _ i _=>G.length-(intOf i).toNat)
  case atStart=>exact⟨0,0,0,qmu _,rfl,rfl,rfl,HZ,by omega,by omega,B1,b01⟩
  case round=>
   obtain⟨k,rows,size,hk,rfl,rfl,rfl,H,hrw,hsz,B,b⟩:=hrel;clear HZ B1 b01;by_cases hlt:k<G.length
   ·obtain⟨ad,rfl,hb,d0,d1⟩:=(Reads.later HG.out b).gr2 hlt
    have hgm:=zas grZ hlt;have hch:=HCH.out _ hgm;have hpg:=HPG.out _ hgm;have hpp:=HP.out _ hgm;have hmap:=HMap.out k hlt;have hltP:k<GP.length:=by rw[HLen.out];exact hlt
    generalize G.getD k grZ=g at*;obtain⟨gr,Ach,cch,D⟩:=g;dsimp only at d0 d1 hch hpg hpp;unfold grP at hmap;dsimp only at hmap;have hl2:(GP.getD k zak).2.length=D.length:=by rw[hmap];exact qpg ..
    have hg1:(GP.getD k zak).1=gr:=by rw[hmap]
    have HM2:=Hz (fun(c:Nat) (hc:c<D.length)=>show(GP.getD k zak).2.getD c []=(D.getD c chZ).2.2 by rw[hmap];exact zbq (fun x:ChD=>x.2.2) D chZ [] hc);have NR:=Hz (fun hb=>HN.out (H.out.no_rows (r:=r) hltP hb));have EN:=Hz (fun h1 h2 h3=>H.out.enter h1 h2 h3);rw[hl2,hg1] at NR EN;have HL2:=Hz hl2;have HG1:=Hz hg1;have HCHk:=Hz hch.1;have hchl:=hch.2;have HPGk:=Hz hpg;have HPPk:=Hz hpp;have HLTP:=Hz hltP;clear hmap hl2 hg1 hch hpg hpp hgm hb H hltP;have ha:New wr (wr.alloc (.cells #[.int .i64 gr,.slice Ach D.length cch] 114)):=(Below.refl _ _).alloc (qmt _) _;have BG:=Blk.new wr 114 #[.int .i64 gr,.slice Ach D.length cch];have B2:=B.below ha B.lt;have b2:=New.trans b ha;obtain⟨y0,y1,y2⟩:=zao B2;obtain⟨z0,z1⟩:=zbz BG;clear B b ha;by_cases h1:gr<1
    ·have hM:=Hz (NR.out (.inl h1))
     clear NR EN;go_wp2
     go_ret
     exact⟨by rw[hM.out];rfl,b2⟩
    by_cases h2:65536-rows<gr
    ·have hM:=Hz (NR.out (.inr (.inl h2)))
     clear NR EN;go_wp2
     go_ret
     exact⟨by rw[hM.out];rfl,b2⟩
    by_cases h3:D.length=L.length
    ·have t3:((D.length:Int) != (L.length:Int))=false:=by simp;omega
     have hE:=EN.out (by omega) (by omega) h3;have HE:=Hz hE;have hDL:D.length<=L.length:=by omega
     have H3:=Hz h3;clear NR EN hE h3;go_wp2_with fail
     clear y0 y1 y2 z0 z1 d0 d1 t3;generalize wr.heap.size=gB at*;go_loopw [4,48] (fun s i wr=>∃(c:Nat) (sz:Int),c<=D.length/\i= .int .i64 (c:Int)/\s= .int .i64 sz/\Hid (ChunkTo L GP k c (rows+gr) sz)/\(0<=sz/\sz<=1073741824)
      /\Blk wr w.heap.size 79 #[.slice Ac L.length cc,.int .i64 r,.slice (some ad) G.length cg]/\Blk wr gB 114 #[.int .i64 gr,.slice Ach D.length cch]/\New w wr) (fun _ i _=>D.length-(intOf i).toNat)
     case atStart=>exact⟨0,size,qmu _,rfl,rfl,HE,hsz,B2,BG,b2⟩
     case round=>
      obtain⟨c,sz,hc,rfl,rfl,H,hsz2,B,BGq,bq⟩:=hrel;clear HE B2 BG b2;by_cases hlc:c<D.length
      ·have hcL:c<L.length:=by omega
       obtain⟨ac,rfl,hbc,e0⟩:=(Reads.later HCHk.out bq).ch1 hlc;obtain⟨al,rfl,hbl,-⟩:=(Reads.later HL.out bq).colT hcL;have hxm:=zas chZ hlc;have hpx:=HPGk.out _ hxm;have hsx:=HPPk.out _ hxm;have hm2:=HM2.out c hlc;have NC:=Hz (fun hb=>HN.out (H.out.no_chunk (r:=r) HLTP.out (by rw[HL2.out];exact hlc) hb));have NX:=Hz (fun h1 h2=>H.out.next (by rw[HL2.out];exact hlc) h1 h2);rw[hm2,HG1.out] at NC NX;have FC:=Hz (fun(W:World) (hW:New w W)=>show(W.cell? (al.add (c*3))=some (.string (zae (L.getD c zfv).1))/\W.cell? ⟨(al.add (c*3)).block,(al.add (c*3)).off+1,none⟩=some (.int .i64 (L.getD c zfv).2.1)/\W.cell? ⟨(al.add (c*3)).block,(al.add (c*3)).off+2,none⟩=some (.bool (L.getD c zfv).2.2)) from by obtain⟨al',e,_,f⟩:=(Reads.later HL.out hW).colT hcL;injection e with e;subst e;exact f)
       generalize D.getD c chZ=x at*;obtain⟨Ax,cx,pl⟩:=x;dsimp only at e0 hpx hsx NC NX;have CSZ:=fun(W:World) (hW:New w W)=>ztu (c:=L.getD c zfv) (cap:=cx) (rows:=gr) (Reads.later hpx.1 hW) hsx hpx.2 (by omega)
       have hiff:=zrv (t:=(L.getD c zfv).2.1) (nu:=(L.getD c zfv).2.2) pl gr 0 (by omega);have hbd:=zm3 (t:=(L.getD c zfv).2.1) (nu:=(L.getD c zfv).2.2) pl gr 0 (by omega) (by omega);generalize L.getD c zfv=col at*;obtain⟨nm,t,nu⟩:=col;dsimp only at hiff hbd NC NX CSZ;unfold ztt at CSZ;generalize zez t nu pl gr 0=S at*;obtain⟨sn,so⟩:=S;dsimp only at hiff hbd CSZ;have CSZ:Hid (∀W,New w W->Calls Tryz.prog 110 #[.agg #[.string (zae nm),.int .i64 t,.bool nu],.slice Ax pl.length cx,.int .i64 gr] W (fun e w'=>e= .returned (.tuple #[.int .i64 sn,.bool so])/\New W w')):=Hz CSZ;have HIF:=Hz hiff;clear hiff hpx hsx hm2 hxm hbc hbl H;obtain⟨y0,y1,y2⟩:=zao B;obtain⟨z0,z1⟩:=zbz BGq;dsimp only at FC;go_wp2_with fail
       refine zax New [(true,0),(true,1),(true,2),(true,3),(true,4),(true,5),(true,6),(true,7),(false,8),(true,9),(true,10),(true,11),(true,12),(true,13)]
        New.refl New.trans (by kernel_rfl) (by kernel_rfl) (by kernel_rfl) (by kernel_rfl) ?_
       have F:=Hz (fun(W:World) (hW:New wr W)=>qo8 (B.below hW B.lt) (BGq.below hW BGq.lt));have hU:=New.drew wr;clear y0 y1 y2 z0 z1 e0;repeat(first
        |(refine zar rfl rfl (v:=?_) (fun W hQ=>?_) ?_;rotate_left;(obtain⟨f0,f1,f2⟩:=FC.out W (New.trans bq (New.trans hU hQ));obtain⟨F1,F2⟩:=F.out W (New.trans hU hQ);obtain⟨y0,y1,y2⟩:=zao F1;obtain⟨z0,z1⟩:=zbz F2;clear F1 F2;go_simp<;> with_reducible rfl);simp only[Act.put,qo6,qou,qo7]))
       refine zba rfl rfl (fun K0 hK0=>?_);go_simp
       (with_reducible refine(CSZ.out _ (New.trans bq hU)).mono ?_)
       rintro e u ⟨rfl,bu⟩;refine hK0 _ _ bu ?_;replace hU:=New.trans hU bu;clear hK0 bu;repeat(first
        |(refine zar rfl rfl (v:=?_) (fun W hQ=>?_) ?_;rotate_left;(go_simp<;> with_reducible rfl);simp only[Act.put,qo6,qou,qo7]))
       refine zdh ?_;obtain⟨B3,BG3⟩:=F.out _ hU;have b3:=New.trans bq hU;clear F FC CSZ hU B BGq bq;cases so with
       |false=>
        have hM:=Hz (NC.out (.inl (fun hh=>by have:=HIF.out.1.2 hh;simp at this)));clear NC NX HIF;go_wp2
        go_ret
        exact⟨by rw[hM.out];rfl,b3⟩
       |true=>
        have hco:=HIF.out.1.1 (by trivial);have hsn:=HIF.out.2 hco;rw[Int.zero_add] at hsn;by_cases hbig:1073741824<sz+sn
        ·have hM:=Hz (NC.out (.inr (by rw[<-hsn];exact hbig)))
         clear NC NX HIF hco hsn;go_wp2
         go_ret
         exact⟨by rw[hM.out];rfl,b3⟩
        ·have hN:=Hz (NX.out hco (by rw[<-hsn];omega))
         rw[<-hsn] at hN;clear NC NX HIF hco hsn;go_wp2
         go_roundw
         case rel=>exact⟨c+1,sz+sn,by omega,by go_num,rfl,hN,by omega,B3,BG3,b3⟩
         case measure=>simp[intOf];omega
      ·obtain rfl:c=D.length:=by omega
       have hLv:=Hz (H.out.leave (by rw[HL2.out]) HLTP.out);have hrr:=H.out.most;rw[HG1.out] at hrr;clear H;go_wp2
       go_roundw
       case rel=>exact⟨k+1,rows+gr,sz,by omega,by go_num,rfl,rfl,hLv,by omega,hsz2,B,bq⟩
       case measure=>simp[intOf];omega
    ·have t3:((D.length:Int) != (L.length:Int))=true:=by simp;omega
     have hM:=Hz (NR.out (.inr (.inr h3)));clear NR EN h3;go_wp2
     go_ret
     exact⟨by rw[hM.out];rfl,b2⟩
   ·obtain rfl:k=G.length:=by omega
    have hY:=H.out;rw[<-HLen.out] at hY;have hY:=hY.yes (r:=r) HCO.out;obtain⟨x0,x1,x2⟩:=zao B;by_cases he:rows=r
    ·have hM:=Hz (HY.out (hY.2 he))
     have t1:(rows==r)=true:=by simpa using he
     clear hY HY HN H he;go_wp2
     go_ret
     exact⟨by rw[hM.out];rfl,b⟩
    ·have hM:=Hz (HN.out (fun hF=>he (hY.1 hF)))
     have t1:(rows==r)=false:=by simpa using he
     clear hY HY HN H he;go_wp2
     go_ret
     exact⟨by rw[hM.out];rfl,b⟩
 ·have hM:=Hz (HN.out (fun hF=>hk0 (hck.2 hF.1)))
  have t1:(zcy L != 0)=true:=by simpa using hk0
  clear HY HN hck hk0;generalize zcy L=ck at*;go_wp2
  go_ret
  exact⟨by rw[hM.out];rfl,b01⟩
end Go.Proofs.Y
namespace Go.Hm
open Go Go.RowKit
def inB(nl ng:Nat)(g c:Int):Bool:=decide (0<=g/\g<(ng:Int)/\0<=c/\c<(nl:Int))
def zaw(G:List za4)(g c:Nat):List za6:=(G.getD g zak).2.getD c []
theorem zct{F:FootS}(h:zbu F){k:Nat}(hk:k<F.groups.length):GroupOk F.cols (F.groups.getD k zak):=h.2.1 _ (zas zak hk)
end Go.Hm
namespace Go.Proofs.Y
open Go.RowKit Go.Hm
set_option maxRecDepth 100000 in
theorem zm4{w:World}{Ac Ag:Option Addr}{nl cc ng cg:Nat}{r g c:Int}:
 Calls Tryz.prog 101 #[.agg #[.slice Ac nl cc,.int .i64 r,.slice Ag ng cg],.int .i64 g,.int .i64 c] w (zal (.bool (inB nl ng g c)) w):=by
 have B0:=Blk.new w 79 #[.slice Ac nl cc,.int .i64 r,.slice Ag ng cg];have b0:New w (w.alloc (.cells #[.slice Ac nl cc,.int .i64 r,.slice Ag ng cg] 79)):=(Below.refl _ _).alloc (qmt _) _;obtain⟨x0,x1,x2⟩:=zao B0;obtain⟨R,hR⟩:∃R,R=inB nl ng g c:=⟨_,rfl⟩;rw[<-hR];unfold inB at hR;by_cases h1:0<=g<;> by_cases h2:g<(ng:Int)<;> by_cases h3:0<=c<;> by_cases h4:c<(nl:Int);all_goals
  first
   |(have e:R=true:=by rw[hR];simp;omega)
   |(have e:R=false:=by rw[hR];simp;omega)
  subst e;clear hR;go_enter Tryz.func101,Tryz.ntmps101
  go_wp2
  all_goals
   first
    |(exfalso;omega)
    |(go_ret;exact⟨rfl,b0⟩)
theorem z8z{nl ng:Nat}{g c:Int}(h:inB nl ng g c=true):∃gk ck:Nat,g=(gk:Int)/\c=(ck:Int)/\gk<ng/\ck<nl:=by unfold inB at h;simp only[decide_eq_true_eq] at h;exact⟨g.toNat,c.toNat,by omega,by omega,by omega,by omega⟩
theorem zji{F:FootS}(h:zbu F){k c:Nat}(hk:k<F.groups.length)(hc:c<F.cols.length):zee (F.cols.getD c zfv).2.1 (F.cols.getD c zfv).2.2 (zaw F.groups k c) (F.groups.getD k zak).1/\(F.groups.getD k zak).2.length=F.cols.length:=by have:=zct h hk;exact⟨this.2.2 c hc,this.2.1⟩
end Go.Proofs.Y
