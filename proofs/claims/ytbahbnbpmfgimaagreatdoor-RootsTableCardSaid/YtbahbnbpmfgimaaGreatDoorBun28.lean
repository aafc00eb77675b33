import Derived.Test.YtbahbnbpmfgimaaGreatDoorBun23
set_option maxHeartbeats 4000000
set_option maxRecDepth 100000
namespace Go.Hm
open Go Go.RowKit
abbrev zby:za3:=(0,0,0,false,(false,0,[],0,0),(false,0,[],0,0))
theorem Reads.page14{w:World}{B n i:Nat}{A:Option Addr}{l:List za3}(h:Reads w B 14 A n (recs zh1 l))(hi:i<n):
 ∃ad,A=some ad/\ad.block<B/\w.cell? (ad.add (i*14))=some (.int .i64 (l.getD i zby).1)/\w.cell? ⟨(ad.add (i*14)).block,(ad.add (i*14)).off+1,none⟩=some (.int .i64 (l.getD i zby).2.1)/\w.cell? ⟨(ad.add (i*14)).block,(ad.add (i*14)).off+2,none⟩=some (.int .i64 (l.getD i zby).2.2.1)/\w.cell? ⟨(ad.add (i*14)).block,(ad.add (i*14)).off+3,none⟩=some (.bool (l.getD i zby).2.2.2.1)/\w.cell? ⟨(ad.add (i*14)).block,(ad.add (i*14)).off+4,none⟩=some (.bool (l.getD i zby).2.2.2.2.1.1)/\w.cell? ⟨(ad.add (i*14)).block,(ad.add (i*14)).off+5,none⟩=some (.int .i64 (l.getD i zby).2.2.2.2.1.2.1)/\w.cell? ⟨(ad.add (i*14)).block,(ad.add (i*14)).off+6,none⟩=some (.string (zaf (l.getD i zby).2.2.2.2.1.2.2.1))/\w.cell? ⟨(ad.add (i*14)).block,(ad.add (i*14)).off+7,none⟩=some (.int .i64 (l.getD i zby).2.2.2.2.1.2.2.2.1)/\w.cell? ⟨(ad.add (i*14)).block,(ad.add (i*14)).off+8,none⟩=some (.int .i64 (l.getD i zby).2.2.2.2.1.2.2.2.2)/\w.cell? ⟨(ad.add (i*14)).block,(ad.add (i*14)).off+9,none⟩=some (.bool (l.getD i zby).2.2.2.2.2.1)/\w.cell? ⟨(ad.add (i*14)).block,(ad.add (i*14)).off+10,none⟩=some (.int .i64 (l.getD i zby).2.2.2.2.2.2.1)/\w.cell? ⟨(ad.add (i*14)).block,(ad.add (i*14)).off+11,none⟩=some (.string (zaf (l.getD i zby).2.2.2.2.2.2.2.1))/\w.cell? ⟨(ad.add (i*14)).block,(ad.add (i*14)).off+12,none⟩=some (.int .i64 (l.getD i zby).2.2.2.2.2.2.2.2.1)/\w.cell? ⟨(ad.add (i*14)).block,(ad.add (i*14)).off+13,none⟩=some (.int .i64 (l.getD i zby).2.2.2.2.2.2.2.2.2):=by
 obtain⟨ad,b,c,_,a⟩:=h.rec_ (f:=zh1) (sz:=14) (fun _=>rfl) zby hi (by omega);refine⟨ad,b,c,a 0 _ rfl,?_,?_,?_,?_,?_,?_,?_,?_,?_,?_,?_,?_,?_⟩
 ·have:=a 1 _ rfl
  rw[<-zbc] at this;exact this
 ·have:=a 2 _ rfl
  rw[<-zbc] at this;exact this
 ·have:=a 3 _ rfl
  rw[<-zbc] at this;exact this
 ·have:=a 4 _ rfl
  rw[<-zbc] at this;exact this
 ·have:=a 5 _ rfl
  rw[<-zbc] at this;exact this
 ·have:=a 6 _ rfl
  rw[<-zbc] at this;exact this
 ·have:=a 7 _ rfl
  rw[<-zbc] at this;exact this
 ·have:=a 8 _ rfl
  rw[<-zbc] at this;exact this
 ·have:=a 9 _ rfl
  rw[<-zbc] at this;exact this
 ·have:=a 10 _ rfl
  rw[<-zbc] at this;exact this
 ·have:=a 11 _ rfl
  rw[<-zbc] at this;exact this
 ·have:=a 12 _ rfl
  rw[<-zbc] at this;exact this
 ·have:=a 13 _ rfl
  rw[<-zbc] at this;exact this
theorem Reads.lenPage{w:World}{B n:Nat}{A:Option Addr}{l:List za3}(h:Reads w B 14 A n (recs zh1 l)):n=l.length:=h.lenR (f:=zh1) (sz:=14) (fun _=>rfl) (by omega)
theorem qa9{α:Type}(l:List α)(k:Nat)(d:α)(h:k<l.length):l.drop k=l.getD k d::l.drop (k+1):=by rw[qrb h,qsh,qqt h];rfl
theorem zah{α:Type}{l:List α}{k:Nat}(d:α)(h:k<l.length):l.getD k d∈l:=by rw[qsh,qqt h];exact qrf h
end Go.Hm
namespace Go.Proofs.Y
open Go.RowKit Go.Hm
def zu7(r:Int × Bool)(w:World)(e:Ending)(w':World):Prop:=e= .returned (.tuple #[.int .i64 r.1,.bool r.2])/\New w w'
theorem zu8{w:World}{c:za2}{A:Option Addr}{n cap:Nat}{l:List za3}{rows:Int}(h:Reads w w.heap.size 14 A n (recs zh1 l))(hl:∀p∈l,zew p.2.2)(hn:n<=4611686018427387903)(hr:0<=rows/\rows<=65536):
 Calls Tryz.prog 110 #[qpw c,.slice A n cap,.int .i64 rows] w (zu7 (zfl c.2.1 c.2.2 l rows 0) w):=by
 obtain rfl:=h.lenPage;obtain⟨nm,t,a⟩:=c;have HR:=qwk h;have HL:=qwk hl;have HC:=qwk (show zfl t a l rows 0=zfl t a (l.drop 0) rows 0 from rfl);clear h hl;show Calls Tryz.prog 110 #[.agg #[.string (zaf nm),.int .i64 t,.bool a],.slice A l.length cap,.int .i64 rows] w (zu7 (zfl t a l rows 0) w);generalize f:zfl t a l rows 0=X at*;clear f;have B0:=qw1 w 71 #[.string (zaf nm),.int .i64 t,.bool a];have b0:New w (w.alloc (.cells #[.string (zaf nm),.int .i64 t,.bool a] 71)):=(qwd _ _).alloc (qq0 _) _;go_enter Tryz.func110,Tryz.ntmps110
 go_wp2_with fail
 go_loopw [2,8,13] (fun r s i wr=>∃(k:Nat) (d j:Int),k<=l.length/\i= .int .i64 (k:Int)/\r= .int .i64 d/\s= .int .i64 j/\Hid (X=zfl t a (l.drop k) d j)/\(0<=d/\d+k<=rows)/\(0<=j/\j<=k*268435456)
  /\Blk wr w.heap.size 71 #[.string (zaf nm),.int .i64 t,.bool a]/\New w wr) (fun _ _ i _=>l.length-(intOf i).toNat)
 case atStart=>exact⟨0,rows,0,qq1 _,rfl,rfl,rfl,HC,by omega,by omega,B0,b0⟩
 case round=>
  obtain⟨k,d,j,hk,rfl,rfl,rfl,H,a0,a1,B,b⟩:=hrel;clear HC B0 b0;by_cases o:k<l.length
  ·obtain⟨ad,rfl,hb,d0,d1,d2,d3,d4,d5,d6,d7,d8,d9,x,y,z,C⟩:=(qxj HR.out b).page14 o
   have hd:=qa9 l k zby o;have u:=fun(W:World)=>zu6 (w:=W) (c:=(nm,t,a)) (p:=l.getD k zby) (most:=d) (HL.out _ (zah zby o))
   have g:zfl t a (l.drop k) d j=if zi8 t a (l.getD k zby) d then zfl t a (l.drop (k+1)) (d-(l.getD k zby).2.1) (j+(l.getD k zby).1) else(0,false):=by rw[hd];rfl
   rw[<-H.out] at g;have q:=fun(e:zi8 t a (l.getD k zby) d=true)=>(pageB_most.1 e).1
   clear hd H hb;dsimp only at u;generalize zi8 t a (l.getD k zby) d=R at*;generalize l.getD k zby=p at*;obtain⟨sz,rw,P,N,⟨Q,S,T,U,V⟩,⟨Y,Z,q3,q4,q5⟩⟩:=p;dsimp only at g q d0 d1 d2 d3 d4 d5 d6 d7 d8 d9 x y z C;have u:Hid (∀W,Calls Tryz.prog 131 #[.agg #[.string (zaf nm),.int .i64 t,.bool a],.agg #[.int .i64 sz,.int .i64 rw,.int .i64 P,.bool N,.bool Q,.int .i64 S,.string (zaf T),.int .i64 U,.int .i64 V,.bool Y,.int .i64 Z,.string (zaf q3),.int .i64 q4,.int .i64 q5],.int .i64 d] W (zap (.bool R) W)):=qwk u;have O:New wr (wr.alloc (.cells #[.int .i64 sz,.int .i64 rw,.int .i64 P,.bool N,.bool Q,.int .i64 S,.string (zaf T),.int .i64 U,.int .i64 V,.bool Y,.int .i64 Z,.string (zaf q3),.int .i64 q4,.int .i64 q5] 135)):=(qwd _ _).alloc (qq0 _) _;have J:=qw1 wr 135 #[.int .i64 sz,.int .i64 rw,.int .i64 P,.bool N,.bool Q,.int .i64 S,.string (zaf T),.int .i64 U,.int .i64 V,.bool Y,.int .i64 Z,.string (zaf q3),.int .i64 q4,.int .i64 q5];have I:=B.below O B.lt;have b1:=qw5 b O;obtain⟨y0,y1,y2⟩:=zan I;obtain⟨e0,e1,e2,e3,e4,e5,e6,e7,e8,e9,D,E,F,G⟩:=zec J;have m:=qwk g;clear g B O;go_wp2_with fail
   refine(u.out _).mono ?_;rintro e w2 ⟨rfl,K⟩;have B2:=I.below K I.lt;have L:=J.below K J.lt;have v:=qw5 b1 K;clear u I J K b1 y0 y1 y2 d0 d1 d2 d3 d4 d5 d6 d7 d8 d9 x y z C e0 e1 e2 e3 e4 e5 e6 e7 e8 e9 D E F G;obtain⟨e0,e1,e2,e3,e4,e5,e6,e7,e8,e9,D,E,F,G⟩:=zec L;cases R with
   |false=>
    go_wp2_with fail
    go_ret2
    have f:=m.out;rw[if_neg (by simp)] at f;rw[f];exact⟨rfl,v⟩
   |true=>
    have f:=m.out;rw[if_pos rfl] at f;have M:=qwk f;have q:=q rfl;clear f m;go_wp2_with fail
    go_roundw
    case rel=>exact⟨k+1,d-rw,j+sz,by omega,by go_num,rfl,rfl,M,by omega,by omega,B2,v⟩
    case measure=>simp[intOf];omega
  ·obtain rfl:k=l.length:=by omega
   have f:=H.out;rw[qvi] at f;have M:=qwk f;clear f H;go_wp2_with fail
   go_ret2
   rw[M.out];exact⟨rfl,b⟩
end Go.Proofs.Y
namespace Go.Hm
open Go Go.RowKit
theorem zb6{α:Type}(f:α->Int)(l:List α)(k:Nat)(d:α)(h:k<l.length):((l.take (k+1)).map f).sum=((l.take k).map f).sum+f (l.getD k d):=by rw[zac l k d h,que,qud];simp
theorem zfr{α:Type}(f:α->Int):∀(l:List α) (k:Nat),(∀x∈l,0<=f x)->((l.take k).map f).sum<=(l.map f).sum
 | [],_,_=>by simp
 |x::l,0,h=>by
  have h1:=h x (by simp);have:=zfr f l 0 fun y a=>h y (by simp[a])
  simp at this⊢;omega
 |x::l,k+1,h=>by
  have:=zfr f l k fun y a=>h y (by simp[a])
  simp only[qva,qrj,qt7];omega
theorem zh3{α:Type}(f:α->Int):∀(l:List α),(∀x∈l,0<=f x)->0<=(l.map f).sum
 | [],_=>by simp
 |x::l,h=>by
  have h1:=h x (by simp);have:=zh3 f l fun y a=>h y (by simp[a])
  simp only[qrj,qt7];omega
abbrev zao:za6:=(0,[])
abbrev zeo:za2:=([],0,false)
theorem zom{t:Int}{nu:Bool}{l:List za3}{r:Int}(h:ze0 t nu l r):0<=zc0 l/\0<=r:=by have:=zfy h.1;have:=h.2;omega
theorem GroupOk.sizes{cols:List za2}{g:za6}(h:GroupOk cols g):∀l∈g.2,0<=zc0 l:=fun l b=>by obtain⟨i,a,rfl⟩:=qtv b;have:=h.2.2 i (by rw[<-h.2.1];exact a);rw[qsh (l:=g.2),qqt a] at this;exact(zom this).1
theorem GroupOk.nonneg{cols:List za2}{g:za6}(h:GroupOk cols g):0<=zco g:=zh3 _ _ h.sizes
theorem zxj{F:FootS}(h:zbs F){k:Nat}(b:k<F.groups.length):((F.groups.take k).map (·.1)).sum+(F.groups.getD k zao).1<=65536:=by have c:=zb6 (fun g:za6=>g.1) F.groups k zao b;have d:=zfr (fun g:za6=>g.1) F.groups (k+1) (fun g a=>by have:=(h.2.1 g a).1;omega);have:=h.2.2.1;have:=h.2.2.2.1;omega
theorem zxk{F:FootS}(h:zbs F){k c:Nat}(b:k<F.groups.length):((F.groups.take k).map zco).sum+(((F.groups.getD k zao).2.take c).map zc0).sum<=1073741824:=by have a:F.groups.getD k zao∈F.groups:=zah zao b;have d:=zb6 zco F.groups k zao b;have e:=zfr zco F.groups (k+1) (fun g a=>(h.2.1 g a).nonneg);have f:=zfr zc0 (F.groups.getD k zao).2 c (h.2.1 _ a).sizes;have i:=h.2.2.2.2;have j:zco (F.groups.getD k zao)=((F.groups.getD k zao).2.map zc0).sum:=rfl;omega
theorem zon{t:Int}{nu:Bool}:∀(l:List za3) (rows size:Int),0<=rows->0<=size->0<=(zfl t nu l rows size).1/\(zfl t nu l rows size).1<=size+rows*268435456
 | [],rows,size,h1,h2=>by simp only[zfl];omega
 |p::l,rows,size,h1,h2=>by
  unfold zfl;split
  ·rename_i hp
   have h3:=(pageB_most.1 hp).1;have:=zon (t:=t) (nu:=nu) l (rows-p.2.1) (size+p.1) (by omega) (by omega);omega
  ·dsimp only;omega
structure FootTo(L:List za2)(G:List za6)(k:Nat)(rows size:Int):Prop where
 ok:∀g∈G.take k,GroupOk L g
 rows_:rows=((G.take k).map (·.1)).sum
 size_:size=((G.take k).map zco).sum
 most:0<=rows/\rows<=65536
 few:0<=size/\size<=1073741824
theorem FootTo.zero(L:List za2)(G:List za6):FootTo L G 0 0 0:=⟨by simp,by simp,by simp,by omega,by omega⟩
structure ChunkTo(L:List za2)(G:List za6)(k c:Nat)(rows size:Int):Prop where
 ok:∀g∈G.take k,GroupOk L g
 rows_:rows=((G.take k).map (·.1)).sum+(G.getD k zao).1
 size_:size=((G.take k).map zco).sum+(((G.getD k zao).2.take c).map zc0).sum
 here:1<=(G.getD k zao).1/\(G.getD k zao).2.length=L.length/\ ∀i,i<c->ze0 (L.getD i zeo).2.1 (L.getD i zeo).2.2 ((G.getD k zao).2.getD i []) (G.getD k zao).1
 most:(G.getD k zao).1<=rows/\rows<=65536
 few:0<=size/\size<=1073741824
theorem FootTo.enter{L:List za2}{G:List za6}{k:Nat}{rows size:Int}(h:FootTo L G k rows size)(a:1<=(G.getD k zao).1)(c:(G.getD k zao).1<=65536-rows)(b:(G.getD k zao).2.length=L.length):
 ChunkTo L G k 0 (rows+(G.getD k zao).1) size:=by
 have:=h.most;exact⟨h.ok,by rw[h.rows_],by rw[h.size_];simp,⟨a,b,fun i d=>by omega⟩,by omega,h.few⟩
theorem ChunkTo.next{L:List za2}{G:List za6}{k c:Nat}{rows size:Int}(h:ChunkTo L G k c rows size)(b:c<(G.getD k zao).2.length)(a:ze0 (L.getD c zeo).2.1 (L.getD c zeo).2.2 ((G.getD k zao).2.getD c []) (G.getD k zao).1)
 (d:size+zc0 ((G.getD k zao).2.getD c [])<=1073741824):ChunkTo L G k (c+1) rows (size+zc0 ((G.getD k zao).2.getD c [])):=by
 have f:=(zom a).1;have g:=h.few;refine⟨h.ok,h.rows_,?_,⟨h.here.1,h.here.2.1,fun i j=>?_⟩,h.most,by omega⟩
 ·rw[zb6 zc0 _ c [] b,h.size_];omega
 ·by_cases e:i=c
  ·subst e;exact a
  ·exact h.here.2.2 i (by omega)
theorem ChunkTo.leave{L:List za2}{G:List za6}{k c:Nat}{rows size:Int}(h:ChunkTo L G k c rows size)(d:c=(G.getD k zao).2.length)(b:k<G.length):FootTo L G (k+1) rows size:=by
 subst d;have j:=h.most;have f:=h.here.1;refine⟨fun g a=>?_,by rw[h.rows_,zb6 (fun g:za6=>g.1) G k zao b],?_,by omega,h.few⟩
 ·rw[zac G k zao b] at a
  rcases qr5.1 a with a|a
  ·exact h.ok g a
  ·rw[qr6.1 a]
   exact⟨h.here.1,h.here.2.1,fun i e=>h.here.2.2 i (by rw[h.here.2.1];exact e)⟩
 ·rw[zb6 zco G k zao b,h.size_,quw]
  rfl
theorem FootTo.no_rows{L:List za2}{G:List za6}{k:Nat}{rows size r:Int}(h:FootTo L G k rows size)(c:k<G.length)(a:(G.getD k zao).1<1\/65536-rows<(G.getD k zao).1\/(G.getD k zao).2.length≠L.length): ¬zbs ⟨L,r,G⟩:=fun hF=>by
 have b:=hF.2.1 (G.getD k zao) (zah zao c);have d:=zxj hF c;have e:=h.rows_;dsimp only at d;rcases a with a|a|a
 ·have:=b.1;omega
 ·omega
 ·exact a b.2.1
theorem ChunkTo.no_chunk{L:List za2}{G:List za6}{k c:Nat}{rows size r:Int}(h:ChunkTo L G k c rows size)(e:k<G.length)(d:c<(G.getD k zao).2.length)
 (a: ¬ze0 (L.getD c zeo).2.1 (L.getD c zeo).2.2 ((G.getD k zao).2.getD c []) (G.getD k zao).1\/1073741824<size+zc0 ((G.getD k zao).2.getD c [])): ¬zbs ⟨L,r,G⟩:=fun hF=>by
 have f:=hF.2.1 (G.getD k zao) (zah zao e);rcases a with a|a
 ·exact a (f.2.2 c (by dsimp only;rw[<-h.here.2.1];exact d))
 ·have b:=zxk hF (k:=k) (c:=c+1) e
  dsimp only at b;rw[zb6 zc0 _ c [] d] at b;have:=h.size_;omega
theorem FootTo.yes{L:List za2}{G:List za6}{rows size r:Int}(h:FootTo L G G.length rows size)(d:zq6 L):zbs ⟨L,r,G⟩↔rows=r:=by
 have b:=h.rows_;have c:=h.size_;rw[quw] at b c;have f:=h.most;have g:=h.few;have a:=h.ok;rw[quw] at a;constructor
 ·intro hF
  have:=hF.2.2.1;dsimp only at this;omega
 ·intro e
  exact⟨d,a,by dsimp only;omega,by dsimp only;omega,by dsimp only;omega⟩
theorem Reads.gr2{w:World}{B n i:Nat}{A:Option Addr}{l:List GrD}(h:Reads w B 2 A n (recs grV l))(hi:i<n):
 ∃ad,A=some ad/\ad.block<B/\w.cell? (ad.add (i*2))=some (.int .i64 (l.getD i (0,none,0,[])).1)/\w.cell? ⟨(ad.add (i*2)).block,(ad.add (i*2)).off+1,none⟩=some (.slice (l.getD i (0,none,0,[])).2.1 (l.getD i (0,none,0,[])).2.2.2.length (l.getD i (0,none,0,[])).2.2.1):=by
 obtain⟨ad,b,c,_,a⟩:=h.rec_ (f:=grV) (sz:=2) (fun _=>rfl) (0,none,0,[]) hi (by omega);refine⟨ad,b,c,a 0 _ rfl,?_⟩;have:=a 1 _ rfl;rw[<-zbc] at this;exact this
theorem Reads.ch1{w:World}{B n i:Nat}{A:Option Addr}{l:List ChD}(h:Reads w B 1 A n (recs chV l))(hi:i<n):
 ∃ad,A=some ad/\ad.block<B/\w.cell? (ad.add i)=some (.slice (l.getD i (none,0,[])).1 (l.getD i (none,0,[])).2.2.length (l.getD i (none,0,[])).2.1):=by
 obtain⟨ad,a,b,_,c⟩:=h.rec_ (f:=chV) (sz:=1) (fun _=>rfl) (none,0,[]) hi (by omega);refine⟨ad,a,b,?_⟩;have:=c 0 _ rfl;rw[qq7] at this;exact this
open Go Go.RowKit
abbrev grZ:GrD:=(0,none,0,[])
abbrev chZ:ChD:=(none,0,[])
open Classical in
noncomputable def ze6(F:FootS):Bool:=decide (zbs F)
theorem znu{F:FootS}(h:zbs F):ze6 F=true:=by unfold ze6;simp[h]
theorem zq7{F:FootS}(h: ¬zbs F):ze6 F=false:=by unfold ze6;simp[h]
theorem zbm{α β:Type}(f:α->β)(l:List α){k:Nat}(d:α)(e:β)(a:k<l.length):(l.map f).getD k e=f (l.getD k d):=by rw[qsh,qtk,qqt a,qsh,qqt a];rfl
end Go.Hm
namespace Go.Proofs.Y
open Go.RowKit Go.Hm
theorem znv{w:World}{Ac:Option Addr}{cc:Nat}{L:List za2}{r:Int}{Ag:Option Addr}{cg:Nat}{G:List GrD}(h:FootIn w Ac cc L Ag G)(hp:∀g∈G,∀x∈g.2.2.2,∀p∈x.2.2,zew p.2.2):
 Calls Tryz.prog 87 #[zmp Ac cc L r Ag cg G] w (zap (.bool (ze6 (zb0 L r G))) w):=by
 have CK:=qwk (fun(W:World) (X:New w W)=>zpi (c:=cc) (qxj h.cols X) h.fine h.cap h.few);have HG:=qwk h.groups;have HL:=qwk h.cols;have e2:=h.few;have d7:=h.few2;have c6:=qwk h.chunks;have c9:=qwk h.pages;have HP:=qwk hp;have HY:=qwk (fun e:zbs (zb0 L r G)=>znu e);have R:=qwk (fun e: ¬zbs (zb0 L r G)=>zq7 e);have hz:FootTo L (G.map grP) 0 0 0:=FootTo.zero _ _;have HZ:=qwk hz;clear h hp hz;generalize ze6 (zb0 L r G)=M at*;unfold zb0 at HY R;have b6:=qwk (fun(k:Nat) (hk:k<G.length)=>zbm grP G (k:=k) grZ zao hk);have Q:=qwk (show(G.map grP).length=G.length from qtl ..);generalize d3:G.map grP=GP at*;have I:=zdv L;clear d3;show Calls Tryz.prog 87 #[.agg #[.slice Ac L.length cc,.int .i64 r,.slice Ag G.length cg]] w (zap (.bool M) w);have B0:=qw1 w 79 #[.slice Ac L.length cc,.int .i64 r,.slice Ag G.length cg];have b0:New w (w.alloc (.cells #[.slice Ac L.length cc,.int .i64 r,.slice Ag G.length cg] 79)):=(qwd _ _).alloc (qq0 _) _;obtain⟨x0,x1,x2⟩:=zan B0;go_enter Tryz.func87,Tryz.ntmps87
 go_wp2_with fail
 refine(CK.out _ b0).mono ?_;rintro e w1 ⟨rfl,b1⟩;have B1:=B0.below b1 B0.lt;have a2:=qw5 b0 b1;clear CK B0 b0 b1 x0 x1 x2;obtain⟨x0,x1,x2⟩:=zan B1;by_cases q:zcz L=0
 ·have Y:=I.1 q
  have c7:=qwk Y;rw[q];clear I q Y;go_wp2_with fail
  clear x0 x1 x2;go_loopw [3,4,18] (fun a s i wr=>∃(k:Nat) (rows j:Int),k<=G.length/\i= .int .i64 (k:Int)/\a= .int .i64 rows/\s= .int .i64 j/\Hid (FootTo L GP k rows j)/\(0<=rows/\rows<=65536)/\(0<=j/\j<=1073741824)
   /\Blk wr w.heap.size 79 #[.slice Ac L.length cc,.int .i64 r,.slice Ag G.length cg]/\New w wr) (fun _ _ i _=>G.length-(intOf i).toNat)
  case atStart=>exact⟨0,0,0,qq1 _,rfl,rfl,rfl,HZ,by omega,by omega,B1,a2⟩
  case round=>
   obtain⟨k,rows,j,hk,rfl,rfl,rfl,H,e5,d9,B,b⟩:=hrel;clear HZ B1 a2;by_cases N:k<G.length
   ·obtain⟨ad,rfl,hb,d0,d1⟩:=(qxj HG.out b).gr2 N
    have K:=zah grZ N;have E:=c6.out _ K;have a6:=c9.out _ K;have a7:=HP.out _ K;have d:=b6.out k N;have A:k<GP.length:=by rw[Q.out];exact N
    generalize G.getD k grZ=g at*;obtain⟨gr,a0,a3,D⟩:=g;dsimp only at d0 d1 E a6 a7;unfold grP at d;dsimp only at d;have a5:(GP.getD k zao).2.length=D.length:=by rw[d];exact qtl ..
    have a4:(GP.getD k zao).1=gr:=by rw[d]
    have c8:=qwk (fun(c:Nat) (hc:c<D.length)=>show(GP.getD k zao).2.getD c []=(D.getD c chZ).2.2 by rw[d];exact zbm (fun x:ChD=>x.2.2) D chZ [] hc);have U:=qwk (fun hb=>R.out (H.out.no_rows (r:=r) A hb));have EN:=qwk (fun h1 h2 h3=>H.out.enter h1 h2 h3);rw[a5,a4] at U EN;have a1:=qwk a5;have b5:=qwk a4;have b4:=qwk E.1;have e1:=E.2;have b7:=qwk a6;have b8:=qwk a7;have P:=qwk A;clear d a5 a4 E a6 a7 K hb H A;have ha:New wr (wr.alloc (.cells #[.int .i64 gr,.slice a0 D.length a3] 114)):=(qwd _ _).alloc (qq0 _) _;have BG:=qw1 wr 114 #[.int .i64 gr,.slice a0 D.length a3];have B2:=B.below ha B.lt;have b2:=qw5 b ha;obtain⟨y0,y1,y2⟩:=zan B2;obtain⟨z0,z1⟩:=zb3 BG;clear B b ha;by_cases h1:gr<1
    ·have m:=qwk (U.out (.inl h1))
     clear U EN;go_wp2
     go_ret
     exact⟨by rw[m.out];rfl,b2⟩
    by_cases h2:65536-rows<gr
    ·have m:=qwk (U.out (.inr (.inl h2)))
     clear U EN;go_wp2
     go_ret
     exact⟨by rw[m.out];rfl,b2⟩
    by_cases h3:D.length=L.length
    ·have t3:((D.length:Int) != (L.length:Int))=false:=by simp;omega
     have hE:=EN.out (by omega) (by omega) h3;have HE:=qwk hE;have e4:D.length<=L.length:=by omega
     have H3:=qwk h3;clear U EN hE h3;go_wp2_with fail
     clear y0 y1 y2 z0 z1 d0 d1 t3;generalize wr.heap.size=gB at*;go_loopw [4,48] (fun s i wr=>∃(c:Nat) (Z:Int),c<=D.length/\i= .int .i64 (c:Int)/\s= .int .i64 Z/\Hid (ChunkTo L GP k c (rows+gr) Z)/\(0<=Z/\Z<=1073741824)
      /\Blk wr w.heap.size 79 #[.slice Ac L.length cc,.int .i64 r,.slice (some ad) G.length cg]/\Blk wr gB 114 #[.int .i64 gr,.slice a0 D.length a3]/\New w wr) (fun _ i _=>D.length-(intOf i).toNat)
     case atStart=>exact⟨0,j,qq1 _,rfl,rfl,HE,d9,B2,BG,b2⟩
     case round=>
      obtain⟨c,Z,hc,rfl,rfl,H,c4,B,C,bq⟩:=hrel;clear HE B2 BG b2;by_cases z:c<D.length
      ·have c2:c<L.length:=by omega
       obtain⟨ac,rfl,d5,e0⟩:=(qxj b4.out bq).ch1 z;obtain⟨al,rfl,d6,-⟩:=(qxj HL.out bq).colT c2;have a9:=zah chZ z;have O:=b7.out _ a9;have a8:=b8.out _ a9;have c3:=c8.out c z;have T:=qwk (fun hb=>R.out (H.out.no_chunk (r:=r) P.out (by rw[a1.out];exact z) hb));have NX:=qwk (fun h1 h2=>H.out.next (by rw[a1.out];exact z) h1 h2);rw[c3,b5.out] at T NX;have FC:=qwk (fun(W:World) (X:New w W)=>show(W.cell? (al.add (c*3))=some (.string (zaf (L.getD c zeo).1))/\W.cell? ⟨(al.add (c*3)).block,(al.add (c*3)).off+1,none⟩=some (.int .i64 (L.getD c zeo).2.1)/\W.cell? ⟨(al.add (c*3)).block,(al.add (c*3)).off+2,none⟩=some (.bool (L.getD c zeo).2.2)) from by obtain⟨e3,e,_,f⟩:=(qxj HL.out X).colT c2;injection e with e;subst e;exact f)
       generalize D.getD c chZ=x at*;obtain⟨Ax,cx,pl⟩:=x;dsimp only at e0 O a8 T NX;have l:=fun(W:World) (X:New w W)=>zu8 (c:=L.getD c zeo) (cap:=cx) (rows:=gr) (qxj O.1 X) a8 O.2 (by omega)
       have n:=ztg (t:=(L.getD c zeo).2.1) (nu:=(L.getD c zeo).2.2) pl gr 0 (by omega);have c0:=zon (t:=(L.getD c zeo).2.1) (nu:=(L.getD c zeo).2.2) pl gr 0 (by omega) (by omega);generalize L.getD c zeo=d2 at*;obtain⟨nm,t,nu⟩:=d2;dsimp only at n c0 T NX l;unfold zu7 at l;generalize zfl t nu pl gr 0=S at*;obtain⟨sn,so⟩:=S;dsimp only at n c0 l;have l:Hid (∀W,New w W->Calls Tryz.prog 110 #[.agg #[.string (zaf nm),.int .i64 t,.bool nu],.slice Ax pl.length cx,.int .i64 gr] W (fun e w'=>e= .returned (.tuple #[.int .i64 sn,.bool so])/\New W w')):=qwk l;have o:=qwk n;clear n O a8 c3 a9 d5 d6 H;obtain⟨y0,y1,y2⟩:=zan B;obtain⟨z0,z1⟩:=zb3 C;dsimp only at FC;go_wp2_with fail
       refine zav New [(true,0),(true,1),(true,2),(true,3),(true,4),(true,5),(true,6),(true,7),(false,8),(true,9),(true,10),(true,11),(true,12),(true,13)]
        qw4 qw5 (by kernel_rfl) (by kernel_rfl) (by kernel_rfl) (by kernel_rfl) ?_
       have F:=qwk (fun(W:World) (X:New wr W)=>qtc (B.below X B.lt) (C.below X C.lt));have V:=qw6 wr;clear y0 y1 y2 z0 z1 e0;repeat(first
        |(refine zas rfl rfl (v:=?_) (fun W hQ=>?_) ?_;rotate_left;(obtain⟨f0,f1,f2⟩:=FC.out W (qw5 bq (qw5 V hQ));obtain⟨F1,F2⟩:=F.out W (qw5 V hQ);obtain⟨y0,y1,y2⟩:=zan F1;obtain⟨z0,z1⟩:=zb3 F2;clear F1 F2;go_simp<;> with_reducible rfl);simp only[Act.put,qta,qs1,qtb]))
       refine za7 rfl rfl (fun K0 b9=>?_);go_simp
       (with_reducible refine(l.out _ (qw5 bq V)).mono ?_)
       rintro e u ⟨rfl,bu⟩;refine b9 _ _ bu ?_;replace V:=qw5 V bu;clear b9 bu;repeat(first
        |(refine zas rfl rfl (v:=?_) (fun W hQ=>?_) ?_;rotate_left;(go_simp<;> with_reducible rfl);simp only[Act.put,qta,qs1,qtb]))
       refine zdr ?_;obtain⟨B3,c5⟩:=F.out _ V;have b3:=qw5 bq V;clear F FC l V B C bq;cases so with
       |false=>
        have m:=qwk (T.out (.inl (fun hh=>by have:=o.out.1.2 hh;simp at this)));clear T NX o;go_wp2
        go_ret
        exact⟨by rw[m.out];rfl,b3⟩
       |true=>
        have J:=o.out.1.1 (by trivial);have y:=o.out.2 J;rw[Int.zero_add] at y;by_cases c1:1073741824<Z+sn
        ·have m:=qwk (T.out (.inr (by rw[<-y];exact c1)))
         clear T NX o J y;go_wp2
         go_ret
         exact⟨by rw[m.out];rfl,b3⟩
        ·have hN:=qwk (NX.out J (by rw[<-y];omega))
         rw[<-y] at hN;clear T NX o J y;go_wp2
         go_roundw
         case rel=>exact⟨c+1,Z+sn,by omega,by go_num,rfl,hN,by omega,B3,c5,b3⟩
         case measure=>simp[intOf];omega
      ·obtain rfl:c=D.length:=by omega
       have d4:=qwk (H.out.leave (by rw[a1.out]) P.out);have d8:=H.out.most;rw[b5.out] at d8;clear H;go_wp2
       go_roundw
       case rel=>exact⟨k+1,rows+gr,Z,by omega,by go_num,rfl,rfl,d4,by omega,c4,B,bq⟩
       case measure=>simp[intOf];omega
    ·have t3:((D.length:Int) != (L.length:Int))=true:=by simp;omega
     have m:=qwk (U.out (.inr (.inr h3)));clear U EN h3;go_wp2
     go_ret
     exact⟨by rw[m.out];rfl,b2⟩
   ·obtain rfl:k=G.length:=by omega
    have hY:=H.out;rw[<-Q.out] at hY;have hY:=hY.yes (r:=r) c7.out;obtain⟨x0,x1,x2⟩:=zan B;by_cases he:rows=r
    ·have m:=qwk (HY.out (hY.2 he))
     have t1:(rows==r)=true:=by simpa using he
     clear hY HY R H he;go_wp2
     go_ret
     exact⟨by rw[m.out];rfl,b⟩
    ·have m:=qwk (R.out (fun hF=>he (hY.1 hF)))
     have t1:(rows==r)=false:=by simpa using he
     clear hY HY R H he;go_wp2
     go_ret
     exact⟨by rw[m.out];rfl,b⟩
 ·have m:=qwk (R.out (fun hF=>q (I.2 hF.1)))
  have t1:(zcz L != 0)=true:=by simpa using q
  clear HY R I q;generalize zcz L=ck at*;go_wp2
  go_ret
  exact⟨by rw[m.out];rfl,a2⟩
end Go.Proofs.Y
namespace Go.Hm
open Go Go.RowKit
def inB(nl ng:Nat)(g c:Int):Bool:=decide (0<=g/\g<(ng:Int)/\0<=c/\c<(nl:Int))
def zax(G:List za6)(g c:Nat):List za3:=(G.getD g zao).2.getD c []
theorem zc5{F:FootS}(h:zbs F){k:Nat}(a:k<F.groups.length):GroupOk F.cols (F.groups.getD k zao):=h.2.1 _ (zah zao a)
end Go.Hm
namespace Go.Proofs.Y
open Go.RowKit Go.Hm
theorem zoo{w:World}{Ac Ag:Option Addr}{nl cc ng cg:Nat}{r g c:Int}:
 Calls Tryz.prog 101 #[.agg #[.slice Ac nl cc,.int .i64 r,.slice Ag ng cg],.int .i64 g,.int .i64 c] w (zap (.bool (inB nl ng g c)) w):=by
 have b:=qw1 w 79 #[.slice Ac nl cc,.int .i64 r,.slice Ag ng cg];have d:New w (w.alloc (.cells #[.slice Ac nl cc,.int .i64 r,.slice Ag ng cg] 79)):=(qwd _ _).alloc (qq0 _) _;obtain⟨k,l,m⟩:=zan b;obtain⟨R,a⟩:∃R,R=inB nl ng g c:=⟨_,rfl⟩;rw[<-a];unfold inB at a;by_cases f:0<=g<;> by_cases h:g<(ng:Int)<;> by_cases i:0<=c<;> by_cases j:c<(nl:Int);all_goals
  first
   |(have e:R=true:=by rw[a];simp;omega)
   |(have e:R=false:=by rw[a];simp;omega)
  subst e;clear a;go_enter Tryz.func101,Tryz.ntmps101
  go_wp2
  all_goals
   first
    |(exfalso;omega)
    |(go_ret;exact⟨rfl,d⟩)
theorem qbb{nl ng:Nat}{g c:Int}(h:inB nl ng g c=true):∃gk a:Nat,g=(gk:Int)/\c=(a:Int)/\gk<ng/\a<nl:=by unfold inB at h;simp only[decide_eq_true_eq] at h;exact⟨g.toNat,c.toNat,by omega,by omega,by omega,by omega⟩
theorem zkg{F:FootS}(h:zbs F){k c:Nat}(b:k<F.groups.length)(a:c<F.cols.length):ze0 (F.cols.getD c zeo).2.1 (F.cols.getD c zeo).2.2 (zax F.groups k c) (F.groups.getD k zao).1/\(F.groups.getD k zao).2.length=F.cols.length:=by have:=zc5 h b;exact⟨this.2.2 c a,this.2.1⟩
end Go.Proofs.Y
namespace Go.Hm
open Go Go.RowKit
def Grows(w w':World)(v v':Value):Prop:=w.grownBy w' v.ownBlock/\(v'.ownBlock=v.ownBlock\/ ∃g,v'.ownBlock=some g/\w.heap.size<=g)
theorem Grows.trans{a b c:World}{u v x:Value}(h:Grows a b u v)(k:Grows b c v x):Grows a c u x:=by
 obtain⟨d,f⟩:=h;obtain⟨l,m⟩:=k;refine⟨⟨l.os.trans d.os,l.tape.trans d.tape,l.output.trans d.output,qqs d.size l.size,fun i o j=>?_⟩,?_⟩
 ·refine(l.block i (qqv o d.size) fun e=>?_).trans (d.block i o j)
  rcases f with f|⟨g,f,n⟩
  ·rw[f] at e;exact j e
  ·rw[f] at e;injection e with e;omega
 ·rcases m with m|⟨g,m,n⟩
  ·rw[m];exact f
  ·exact .inr ⟨g,m,qqs d.size n⟩
theorem zdq{w w':World}{row:Option Nat}(h:New w w'):w.grownBy w' row:=⟨h.os,h.tape,h.output,h.size,fun k a _=>h.block k a⟩
theorem Grows.of_new{w w':World}{v:Value}(h:New w w'):Grows w w' v v:=⟨zdq h,.inl rfl⟩
theorem Grows.size{w w':World}{v a:Value}(h:Grows w w' v a):w.heap.size<=w'.heap.size:=h.1.size
theorem Grows.blk{w w':World}{v c:Value}{g:Nat}{t e:TypeId}{cs:Array Value}{base:Nat}{xs:List Value}(h:Grows w w' v c)(o:Own w base e v xs)(B:Blk w g t cs)(a:e≠t):Blk w' g t cs:=
 B.grown h.1 (fun b=>o.blk_ne B a b.symm)
theorem Grows.below{a w w':World}{v f:Value}{base B:Nat}{e:TypeId}{xs:List Value}(h:Grows w w' v f)(o:Own w base e v xs)(b:Below B a w)(g:B<=base)(c:B<=w.heap.size):Below B a w':=by refine b.trans ⟨h.1.os,h.1.tape,h.1.output,h.1.size,fun k i=>h.1.block k (by omega) fun d=>?_⟩;have:=(o.lt k d.symm).1;omega
end Go.Hm
namespace Go.Proofs.Y
open Go.RowKit Go.Hm
def qb9(base:Nat)(v:Value)(l:List Nat)(w:World)(e:Ending)(w':World):Prop:=
 ∃A n c,e= .returned (.slice A n c)/\Go.Hm.Own w' base 5 (.slice A n c) (zar .u8 l)/\Grows w w' v (.slice A n c)
theorem zel{w:World}{base n c N:Nat}{A:Option Addr}{l:List Nat}(o:Go.Hm.Own w base 5 (.slice A n c) (zar .u8 l))(h:base<=w.heap.size)(t:n<=100000000000000)(s:N<=9223372036854775807):
 Calls Tryz.prog 89 #[.slice A n c,.int .i64 (N:Int)] w (qb9 base (.slice A n c) (l++vp N) w):=by
 have P:=qwk (zdc none 0 0 [] N w qwy (by omega) (by omega));have V:=zae (n:=N) (by omega);have v:IntKind.u64.wrap (N:Int)=(N:Int):=by rw[qwp];omega
 have d:=qwk o;clear o;go_enter Tryz.func89,Tryz.ntmps89
 go_wp2_with fail
 refine P.out.mono ?_;rintro e y ⟨m,i,q,rfl,b,a⟩;rw[qrr] at b;have u:i<=10:=by have:=b.len;rw[zaa] at this;omega
 have j:=d.out.later a;have x:=a.size
 go_wp2_with (refine zaq elB rfl (.tmp 5) (.tmp 8) rfl (W:=w) (B:=base) j b.reads rfl rfl (qwo a h) (qq0 _) (by omega) (by omega) (by simp only[maxLen];omega) ?_
              intro p r z _ _ k g _ f)
 go_ret
 exact⟨_,_,_,rfl,k,(Grows.of_new a).trans ⟨g,f⟩⟩
theorem zx6{t:Int}{p:za3}(d:p.1.toNat<18446744073709551616)(e:p.2.1.toNat<18446744073709551616):(zfj t p).length<=140020:=by have a:=zae (n:=p.1.toNat) d;have b:=zae (n:=p.2.1.toNat) e;have c:=z2n (l:=[]) (t:=t) (s:=p.2.2);unfold zfj;simp only[qrp,qub] at c⊢;omega
theorem zn2{t:Int}:∀l:List za3,(∀p∈l,p.1.toNat<18446744073709551616/\p.2.1.toNat<18446744073709551616)->(l.flatMap (zfj t)).length<=l.length*140020
 | [],_=>by simp
 |p::l,h=>by
  have a:=zx6 (t:=t) (h p (by simp)).1 (h p (by simp)).2;have b:=zn2 (t:=t) l fun q c=>h q (by simp[c])
  rw[qt6,qrp,qr1];omega
def z00(p:za3):Prop:=(0<=p.1/\p.1<=9223372036854775807)/\(0<=p.2.1/\p.2.1<=9223372036854775807)/\statData p.2.2
theorem zx7{w:World}{base n c np cp:Nat}{A Ap:Option Addr}{t:Int}{l:List Nat}{a:List za3}(o:Go.Hm.Own w base 5 (.slice A n c) (zar .u8 l))(hb:base<=w.heap.size)(h:Reads w base 14 Ap np (recs zh1 a))(hp:∀p∈a,z00 p)
 (hn:n+10+np*140020<=100000000000000):
 Calls Tryz.prog 90 #[.slice A n c,.int .i64 t,.slice Ap np cp] w (qb9 base (.slice A n c) (l++zf4 t a) w):=by
 obtain rfl:=h.lenPage;have a1:l.length=n:=by have:=o.len;rw[zaa] at this;exact this.symm
 have V:=zae (n:=a.length) (by omega);have PN:=qwk (zel (N:=a.length) o hb (by omega) (by omega));have a0:=fun k=>zn2 (t:=t) (a.take k) (fun p b0=>by have:=hp p (qro b0);have H:=this.1;have h2:=this.2.1;omega)
 have HF:=qwk (fun k=>by have:=a0 k;rw[qqx] at this;exact this);have HR:=qwk h;have HP:=qwk hp;have HO:=qwk o;have a5:=qwk a1;clear h hp o a1 a0;go_enter Tryz.func90,Tryz.ntmps90
 go_wp2_with fail
 refine PN.out.mono ?_;rintro e w1 ⟨A1,n1,c1,rfl,o1,g1⟩;have a8:=g1.size;have b1:Below base w w1:=g1.below HO.out (qwd _ _) (qq0 _) hb;clear PN;go_wp2_with fail
 go_loopw [0,15] (fun v i wr=>∃(k:Nat) (B:Option Addr) (m d:Nat),k<=a.length/\i= .int .i64 (k:Int)/\v= .slice B m d/\Go.Hm.Own wr base 5 (.slice B m d) (zar .u8 (l++vp a.length++(a.take k).flatMap (zfj t)))/\Grows w wr (.slice A n c) (.slice B m d)/\Below base w wr) (fun _ i _=>a.length-(intOf i).toNat)
 case atStart=>exact⟨0,A1,n1,c1,qq1 _,rfl,rfl,by simpa using o1,g1,b1⟩
 case round=>
  obtain⟨k,B,m,d,hk,rfl,rfl,o,g,b⟩:=hrel;clear o1 g1 b1 a8;have b9:m<=n+10+k*140020:=by have H:=o.len;rw[zaa,qrp,qrp] at H;have h2:=HF.out k;have h3:=a5.out;omega
  have c9:=g.size;by_cases E:k<a.length
  ·obtain⟨ad,rfl,a9,d0,d1,d2,d3,d4,d5,d6,d7,d8,d9,K,L,M,O⟩:=(HR.out.below b).page14 E
   have a4:=zac a k zby E;have b2:=HP.out _ (zah zby E);have G:(a.take (k+1)).flatMap (zfj t)=(a.take k).flatMap (zfj t)++zfj t (a.getD k zby):=by rw[a4,quf];simp
   rw[show zfj t (a.getD k zby)=vp (a.getD k zby).1.toNat++vp (a.getD k zby).2.1.toNat++Go.Hm.putS [] t (a.getD k zby).2.2 from rfl] at G;have y:=qwk G;clear a4 G a9;generalize a.getD k zby=p at*;obtain⟨a2,a3,F⟩:=b2;have J:=fun(W:World)=>qan (w:=W) (c:=0) (t:=t) (l:=[]) (n:=0) (A:=none) qwy (by omega) F
   have u:=z2n (l:=[]) (t:=t) (s:=p.2.2);obtain⟨f1,f0,nn,bb,⟨p1,p2,p3,p4,p5⟩,⟨q1,q2,q3,q4,q5⟩⟩:=p;dsimp only at a2 a3 F J u y d0 d1 d2 d3 d4 d5 d6 d7 d8 d9 K L M O;obtain⟨sz,rfl⟩:=qsu a2.1;obtain⟨rw,rfl⟩:=qsu a3.1;simp only[qrn] at y;generalize Go.Hm.putS [] t (nn,bb,(p1,p2,p3,p4,p5),(q1,q2,q3,q4,q5))=SB at*;have J:Hid (∀W,Calls Tryz.prog 113 #[.slice none 0 0,.int .i64 t,.agg #[.int .i64 nn,.bool bb,.bool p1,.int .i64 p2,.string (zaf p3),.int .i64 p4,.int .i64 p5,.bool q1,.int .i64 q2,.string (zaf q3),.int .i64 q4,.int .i64 q5]] W (zcx SB W)):=qwk J;have V1:=zae (n:=sz) (by omega);have V2:=zae (n:=rw) (by omega);simp only[qub] at u;have u:SB.length<=140000:=by omega
   have ha:New wr (wr.alloc (.cells #[.int .i64 (sz:Int),.int .i64 (rw:Int),.int .i64 nn,.bool bb,.bool p1,.int .i64 p2,.string (zaf p3),.int .i64 p4,.int .i64 p5,.bool q1,.int .i64 q2,.string (zaf q3),.int .i64 q4,.int .i64 q5] 135)):=(qwd _ _).alloc (qq0 _) _;have BP:=qw1 wr 135 #[.int .i64 (sz:Int),.int .i64 (rw:Int),.int .i64 nn,.bool bb,.bool p1,.int .i64 p2,.string (zaf p3),.int .i64 p4,.int .i64 p5,.bool q1,.int .i64 q2,.string (zaf q3),.int .i64 q4,.int .i64 q5];have o2:=o.later ha;have g2:=g.trans (Grows.of_new ha);have b3:=g2.size;have N1:=qwk (zel (N:=sz) o2 (by omega) (by omega) (by omega));obtain⟨P,Q,R,S,T,U,X,Y,Z,e9,f,j,q,r⟩:=zec BP;have c0:m+140020<=100000000000000:=by omega
   clear o g ha F;go_wp2_with fail
   refine N1.out.mono ?_;rintro e w3 ⟨A3,n3,c3,rfl,o3,g3⟩;have x:=g3.blk o2 BP (by decide);have z:=g2.trans g3;have c2:n3<=m+10:=by have H:=o3.len;have h2:=o2.len;rw[zaa,qrp] at H;rw[zaa] at h2;omega
   have b4:=z.size;have N2:=qwk (zel (N:=rw) o3 (by omega) (by omega) (by omega));clear N1 o2 g2 g3 BP P Q R S T U X Y Z e9 f j q r d0 d1 d2 d3 d4 d5 d6 d7 d8 d9 K L M O;obtain⟨P,Q,R,S,T,U,X,Y,Z,e9,f,j,q,r⟩:=zec x;go_wp2_with fail
   refine N2.out.mono ?_;rintro e w4 ⟨A4,n4,c4,rfl,o4,g4⟩;have I:=g4.blk o3 x (by decide);have C:=z.trans g4;have c7:n4<=m+20:=by have H:=o4.len;have h2:=o3.len;rw[zaa,qrp] at H;rw[zaa] at h2;omega
   have b7:=C.size;clear N2 o3 z g4 x P Q R S T U X Y Z e9 f j q r;obtain⟨P,Q,R,S,T,U,X,Y,Z,e9,f,j,q,r⟩:=zec I;go_wp2_with fail
   refine(J.out _).mono ?_;rintro e w5 ⟨A5,n5,c5,rfl,k5,b5⟩;have c8:n5<=140000:=by have:=k5.len;rw[zaa] at this;omega
   have o5:=o4.later b5;have D:=C.trans (Grows.of_new b5);have b8:=D.size;have a7:Below base w w5:=D.below HO.out (qwd _ _) (qq0 _) hb;clear J o4 C I P Q R S T U X Y Z e9 f j q r b5
   go_wp2_with (refine zaq elB rfl (.tmp 27) (.tmp 31) rfl (W:=w) (B:=base) o5 k5.reads rfl rfl a7 (qq0 _) (by omega) (by omega) (by simp only[maxLen];omega) ?_
                intro A6 c6 w6 _ _ o6 g6 b6 d6)
   go_roundw
   case rel=>exact⟨k+1,A6,_,c6,by omega,by go_num,rfl,by rw[y.out];simpa using o6,D.trans ⟨g6,d6⟩,b6⟩
   case measure=>simp[intOf];omega
  ·obtain rfl:k=a.length:=by omega
   rw[quw] at o;have a6:=qwk o;clear o;go_wp2_with fail
   go_ret
   refine⟨_,_,_,rfl,?_,g⟩;have:=a6.out;rw[qrc] at this;exact this
end Go.Proofs.Y
