import Derived.Test.YtbahbnbpmfgimaaGreatDoorBun30
import Derived.Test.YtbahbnbpmfgimaaGreatDoorBun41
set_option maxHeartbeats 8000000
set_option maxRecDepth 100000
namespace Go.Hm
open Go Go.RowKit
abbrev dZ:zdw:=(none,0,[])
def ztx(d:zdw):Value:= .slice d.1 d.2.2.length d.2.1
theorem zro{α:Type}{f:α->List Value}(b:∀x,(f x).length=1):∀(X:List α) (x:α) (k:Nat) {v:Value},f x=[v]->(recs f X).toArray.setIfInBounds k v=(recs f (X.set k x)).toArray
 | [],x,k,v,hv=>by simp[recs]
 |y::X,x,0,v,hv=>by
  have h1:=b y
  match hy:f y,h1 with
  | [a],_=>simp[recs,hy,hv]
 |y::X,x,k+1,v,hv=>by
  have h1:=b y;have c:=zro b X x k hv
  match hy:f y,h1 with
  | [a],_=>
    have e:∀Z:List α,recs f (y::Z)=a::recs f Z:=fun Z=>by simp[recs,hy]
    rw[qtb,e,e];rw[qta] at c⊢;rw[qtb];have:=congrArg Array.toList c;simp only at this;rw[this]
theorem qho{α:Type}{f:α->List Value}(a:∀x,(f x).length=1)(X:List α)(d:α)(k:Nat)(h:k<X.length){v:Value}(b:f (X.getD k d)=[v]):(recs f X).toArray[k]? =some v:=by have e:=zpy (f:=f) (sz:=1) a X d k 0 h (by omega);rw[qq7,quc] at e;rw[List.getElem?_toArray,e,b];rfl
theorem zvl{α:Type}{D:List α}{j:Nat}{d x:α}(h:j<D.length):(D.set j x).getD j d=x:=by rw[qsh,qv1 h];rfl
theorem z3g{α:Type}{D:List α}{i j:Nat}{d x:α}(h:i≠j):(D.set j x).getD i d=D.getD i d:=by rw[qsh,qv2 (by omega),qsh]
end Go.Hm
namespace Go.Proofs.Y
open Go.RowKit Go.Hm
structure ColsIn(w:World)(B:Nat)(D:List zdw):Prop where
 rows:RowsIn w B D
 apart:∀i j,i<D.length->j<D.length->i≠j->(ztx (D.getD i dZ)).ownBlock=none\/(ztx (D.getD i dZ)).ownBlock≠(ztx (D.getD j dZ)).ownBlock
theorem ColsIn.later{w w':World}{B:Nat}{D:List zdw}(h:ColsIn w B D)(a:New w w'):ColsIn w' B D:=⟨h.rows.later a,h.apart⟩
theorem ColsIn.keepT{w w':World}{B g:Nat}{t:TypeId}{cs:Array Value}{D:List zdw}(h:ColsIn w B D)(b:Blk w g t cs)(a:75≠t)(c:w.grownBy w' (some g)):ColsIn w' B D:=⟨h.rows.keepT b a c,h.apart⟩
theorem ColsIn.nil{w:World}{B n:Nat}:ColsIn w B (List.replicate n dZ):=by
 refine⟨fun d b=>?_,fun i j a e c=>?_⟩
 ·rw[qv3 b]
  exact zd8
 ·rw[qtd] at a
  left;rw[qsh,qv4,if_pos a];rfl
theorem ColsIn.at_{w:World}{B j:Nat}{D:List zdw}(h:ColsIn w B D)(a:j<D.length):w.ownsRow B 75 5 (ztx (D.getD j dZ)) (D.getD j dZ).2.2.length (recs zay (D.getD j dZ).2.2):=h.rows _ (zah dZ a)
theorem ColsIn.put{w w':World}{B j:Nat}{D:List zdw}{d:zdw}(h:ColsIn w B D)(n:j<D.length)(o:w'.ownsRow B 75 5 (ztx d) d.2.2.length (recs zay d.2.2))(p:w.grownBy w' (ztx (D.getD j dZ)).ownBlock)
 (b:(ztx d).ownBlock=(ztx (D.getD j dZ)).ownBlock\/ ∃g,(ztx d).ownBlock=some g/\w.heap.size<=g):ColsIn w' B (D.set j d):=by
 have f:∀i,i<D.length->i≠j->(ztx (D.getD i dZ)).ownBlock=none\/(ztx (D.getD i dZ)).ownBlock≠(ztx d).ownBlock:=by
  intro i hi c;rcases b with b|⟨g,b,q⟩
  ·rw[b]
   exact h.apart i j hi n c
  ·rcases hu:(ztx (D.getD i dZ)).ownBlock with _|k
   ·exact .inl rfl
   ·right
    rw[b];intro e;injection e with e;have:=(qqj (h.at_ hi) _ hu).2;omega
 refine⟨fun x r=>?_,fun i k hi m c=>?_⟩
 ·obtain⟨i,hi,rfl⟩:=qtv r
  have e:(D.set j d)[i]'hi=(D.set j d).getD i dZ:=by rw[qsh,qqt hi];rfl
  have hi:i<D.length:=by simpa using hi
  rw[e];by_cases a:i=j
  ·subst a
   rw[zvl n];exact o
  ·rw[z3g a]
   exact qqi (h.at_ hi) p (h.apart i j hi n a)
 ·rw[qq3] at hi m
  by_cases a:i=j
  ·subst a
   rw[zvl hi,z3g (fun e=>c e.symm)];exact zgu (f k m (fun e=>c e.symm))
  ·rw[z3g a]
   by_cases l:k=j
   ·subst l
    rw[zvl m];exact f i hi a
   ·rw[z3g l]
    exact h.apart i k hi m c
structure TabSt(w0:World)(B gt gd:Nat)(L:List za2)(Aq:Option Addr)(cq:Nat)(r:Int)(fa:Array Value)(w:World)(D:List zdw):Prop where
 new:New w0 w
 tab:Blk w gt 56 #[.slice Aq L.length cq,.int .i64 r,.slice (some ⟨gd,0,none⟩) L.length L.length]
 cols:w.ownsRow B 71 3 (.slice Aq L.length cq) L.length (recs zle L)
 data:Blk w gd 76 (recs zjl D).toArray
 rows:ColsIn w B D
 res:Blk w (w0.heap.size+1) 56 #[.slice none 0 0,.int .i64 0,.slice none 0 0]
 foot:Blk w w0.heap.size 79 fa
theorem TabSt.later{g w w':World}{B f e:Nat}{L:List za2}{b:Option Addr}{c:Nat}{r:Int}{d:Array Value}{D:List zdw}(h:TabSt g B f e L b c r d w D)(a:New w w'):TabSt g B f e L b c r d w' D:=
 ⟨qw5 h.new a,h.tab.below a h.tab.lt,zba h.cols a,h.data.below a h.data.lt,h.rows.later a,h.res.below a h.res.lt,h.foot.below a h.foot.lt⟩
theorem TabSt.put{p w w6 w7:World}{B y o j:Nat}{L:List za2}{s:Option Addr}{u:Nat}{r:Int}{x:Array Value}{D:List zdw}{d:zdw}(h:TabSt p B y o L s u r x w D)(z:j<D.length)(A:p.heap.size<=o)
 (C:New p w6)(E:w6.ownsRow B 75 5 (ztx d) d.2.2.length (recs zay d.2.2))(c:w.grownBy w6 (ztx (D.getD j dZ)).ownBlock)
 (q:(ztx d).ownBlock=(ztx (D.getD j dZ)).ownBlock\/ ∃g,(ztx d).ownBlock=some g/\w.heap.size<=g)
 (k:Blk w7 o 76 ((recs zjl D).toArray.setIfInBounds j (ztx d)))(i:w6.grownBy w7 (some o)):TabSt p B y o L s u r x w7 (D.set j d):=by
 have b:=h.rows.at_ z;have a:=h.data.grown c (fun e=>zat b h.data (by decide) e.symm);have n:=h.tab.grown c (fun e=>zat b h.tab (by decide) e.symm);have m:=h.res.grown c (fun e=>zat b h.res (by decide) e.symm);have l:=h.foot.grown c (fun e=>zat b h.foot (by decide) e.symm);have t:=qqi h.cols c (zem h.cols b (by decide));refine⟨zbg C i A (qq0 _),n.grown i (fun e=>by injection e with e;exact qw2 n a (by decide) e),qqi t i (.inr (zat t a (by decide))),?_,(h.rows.put z E c q).keepT a (by decide) i,
  m.grown i (fun e=>by injection e with e;exact qw2 m a (by decide) e),l.grown i (fun e=>by injection e with e;exact qw2 l a (by decide) e)⟩
 have e:=zro (f:=zjl) (fun _=>rfl) D d j (v:=ztx d) rfl;rw[e] at k;exact k
structure PgsIn(w:World)(A:Option Addr)(c:Nat)(R:List zju):Prop where
 row:Reads w w.heap.size 1 A R.length (recs zjb R)
 cap:R.length<=c
 pages:∀d∈R,BytIn w d/\(∀x∈d.2.2,x<256)/\d.2.2.length<=140737488351232
theorem PgsIn.later{w w':World}{A:Option Addr}{c:Nat}{R:List zju}(h:PgsIn w A c R)(a:New w w'):PgsIn w' A c R:=⟨qxj h.row a,h.cap,fun d b=>⟨(h.pages d b).1.later a,(h.pages d b).2⟩⟩
theorem PgsIn.cut{w:World}{A:Option Addr}{c m:Nat}{R:List zju}(h:PgsIn w A c R)(hm:m<=R.length):PgsIn w (if c=m then A else A.map (·.add (m*1))) (c-m) (R.drop m):=by
 refine⟨?_,by have:=h.cap;rw[qqw];omega,fun d a=>h.pages d (qte a)⟩;have:=h.row.cut (k:=m) hm h.cap;rw[qqw];have e:(recs zjb R).drop (m*1)=recs zjb (R.drop m):=by
  rw[qq7];clear this h;induction R generalizing m with
  |nil=>simp[recs]
  |cons x R b=>
   cases m with
   |zero=>rfl
   |succ m=>
    have:=b (m:=m) (by simpa using hm);simpa[recs,zjb] using this
 rw[e] at this;exact this
theorem qpi{t:Int}{nu:Bool}{e:Int}{l:List zab}(h:ckE t nu e l=0):(0<=t/\t<=3)/\l.length<=65536/\(∀c∈l,zad c t nu=true)/\fitsV t (encOf t e l)=true:=by
 unfold ckE at h;split at h
 ·omega
 ·rename_i b
  split at h
  ·omega
  ·rename_i g
   split at h
   ·rename_i a
    rw[qs9] at a;have d:0<=t/\t<=3:=by
     by_cases q:0<=t/\t<=3
     ·exact q
     ·exact absurd (.inl q) b
    refine⟨d,by omega,a,?_⟩;unfold encOf;split
    ·exact(zq3 (z0f d (by omega) a)).1
    ·rename_i f
     cases hf:fitsV t e with
     |true=>rfl
     |false=>exact absurd (.inr ⟨f,hf⟩) b
   ·omega
theorem z63{l:List zab}(h:∀y∈l,CellFine y):∀y∈zcc l,CellFine y:=fun y a=>h y (by unfold zcc at a;exact(qvw.1 a).1)
theorem z05{w:World}{cn:List Nat}{t:Int}{nu:Bool}{e:Int}{A:Option Addr}{n c:Nat}{L:List zab}(h:Reads w w.heap.size 5 A n (recs zay L))(hL:∀y∈L,CellFine y)(hn:n<=4611686018427387903):
 Calls Tryz.prog 108 #[.agg #[.string (zaf cn),.int .i64 t,.bool nu],.int .i64 e,.slice A n c] w (zkn (pgE t nu e L) w):=by
 obtain rfl:=h.lenCell;have n1:New w (w.alloc (.cells #[.string (zaf cn),.int .i64 t,.bool nu] 71)):=(qwd _ _).alloc (qq0 _) _;have g1:Blk (w.alloc (.cells #[.string (zaf cn),.int .i64 t,.bool nu] 71)) w.heap.size 71 #[.string (zaf cn),.int .i64 t,.bool nu]:=qw1 _ _ _;have HD:Hid (∀y∈L,zaj y):=qwk (fun y hy=>zkb (hL y hy));have CK:=qwk (z6w (cn:=cn) (t:=t) (nu:=nu) (e:=e) (c:=c) (qxj h n1) (fun y hy=>(hL y hy).1.1) hn);have T:=qwk (qns t nu e L);have HX:=qwk (fun k b=>zvh (t:=t) (nu:=nu) (e:=e) (l:=L) (b:=b) (k:=k) HD.out);have H0:=qwk (@qpi t nu e L);have HR:=qwk (qxj h n1);have HF:=qwk hL;have HE:Hid (encOf t e L=if e= -1 then bestV t (zcc L) else e):=qwk rfl;generalize hX:pgE t nu e L=X at*;generalize ckE t nu e L=M at*;generalize encOf t e L=E at*;have F:=qwk n1;have I:=qwk g1;obtain⟨J,K,N⟩:=zan g1;clear h hL g1 n1 hX;go_enter Tryz.func108,Tryz.ntmps108
 go_wp2_with fail
 refine CK.out.mono ?_;rintro e W1 ⟨rfl,b1⟩;clear CK J K N;by_cases hm:M=0
 ·subst hm
  obtain⟨ht,a4,hr,hf⟩:=H0.out rfl;have hp:=T.out;rw[if_pos rfl] at hp;replace T:=qwk hp;clear hp H0;have a3:=(ziz hf).1;obtain⟨q,rfl⟩:=qsu a3.1;have a7:=zph L;have SP:=qwk (zsi (c:=c) (qxj HR.out b1) a4);have VE:Hid (z0v t (q:Int) (zcc L)=match zez t (q:Int) (zcc L) with|some d=>(0,d)|none=>(1,[])):=qwk (by unfold z0v;rw[if_pos hf];generalize zez t (q:Int) (zcc L)=Z;cases Z<;> rfl);have VL:Hid (∀d,zez t (q:Int) (zcc L)=some d->d.length<=100000000000):=qwk (fun d hd=>z29 (zjq HD.out) hd);have U:=qwk (z63 HF.out);have HS:=qwk (ztu a4);have Q:=qwk (zae (n:=L.length) (by omega));have a6:q<=4:=by omega
  clear hr hf a3 ht;go_wp2_with fail
  refine SP.out.mono ?_;rintro e W2 ⟨H,m1,O,A2,m2,k2,rfl,o1,o2,b2⟩;clear SP;have R2:=qwk (qwz o2);have a0:=qw5 b1 b2;obtain⟨J,K,N⟩:=zan (I.out.below a0 I.out.lt);have a2:m2<=65536:=by have:=R2.out.lenCell;omega
  by_cases he:e= -1
  ·subst he
   have hE:=HE.out;rw[if_pos rfl] at hE;have B:=qwk (qb4 (t:=t) (c:=k2) R2.out U.out a2);rw[<-hE] at B;clear hE;go_wp2_with fail
   refine B.out.mono ?_;rintro e W3 ⟨rfl,b3⟩;clear B;have V:=qwk (zlo (t:=t) (e:=(q:Int)) (c:=k2) (qxj R2.out b3) U.out a2);have G:=qw5 a0 b3;clear J K N;obtain⟨J,K,N⟩:=zan (I.out.below G I.out.lt);obtain rfl:m1=(zcb L).length:=by simpa[zar] using o1.len
   have R1:=qwk (qxs (show BytIn W2 (H,O,zcb L) from o1.reads) b3);generalize zez t (q:Int) (zcc L)=Y at*;generalize z0v t (q:Int) (zcc L)=Z at*;go_wp2_with fail
   refine V.out.mono ?_;rintro e g ⟨r,m3,u,rfl,o3,b4⟩;clear V;have i:=qw5 G b4;clear J K N;obtain⟨J,K,N⟩:=zan (I.out.below i I.out.lt);cases Y with
   |none=>
    have hz:Z=(1,[]):=VE.out;have a:X=(1,[]):=T.out;subst hz a;go_wp2_with fail
    go_ret2
    exact⟨none,0,0,rfl,qw0,qw5 F.out i⟩
   |some d=>
    have hz:Z=(0,d):=VE.out;have a:X=(0,q::(vp L.length++((if nu=true then zcb L else [])++d))):=T.out;subst hz;have a5:=VL.out d rfl;obtain rfl:m3=d.length:=by simpa[zar] using o3.len
    have R3:=qwk (show BytIn g (r,u,d) from o3.reads);have W:=qwk (qxs R1.out b4);obtain⟨c3,a1⟩:∃c3:Value,c3= .int .u8 (q:Int):=⟨_,rfl⟩;have iw:IntKind.u8.wrap (q:Int)=(q:Int):=by rw[qwl];omega
    have v:New g (g.alloc (.cells #[.int .u8 (q:Int)] 5)):=(qwd _ _).alloc (qq0 _) _;have R5:Hid (BytIn (g.alloc (.cells #[.int .u8 (q:Int)] 5)) (some ⟨g.heap.size,0,none⟩,1,[q])):=qwk (qxi _ _ _ 1 _ rfl rfl);have P:=qwk (zdc none 0 0 [] L.length (g.alloc (.cells #[.int .u8 (q:Int)] 5)) qwy (by omega) (by omega));have iz:IntKind.u64.wrap (L.length:Int)=(L.length:Int):=by rw[qwp];omega
    clear a1 c3;cases nu with
    |false=>
     go_wp2_with fail
     refine P.out.mono ?_;rintro e s ⟨m,m5,o,rfl,z,p⟩;clear P;rw[qrr] at z;obtain rfl:m5=(vp L.length).length:=by simpa[zar] using z.len
     have R6:=qwk (show BytIn s (m,o,vp L.length) from z.reads);have j:New s (s.alloc (.cells #[.slice (some ⟨g.heap.size,0,none⟩) 1 1,.slice m (vp L.length).length o,.slice none 0 0,.slice r d.length u] 24)):=(qwd _ _).alloc (qq0 _) _;have f:zdh [(some ⟨g.heap.size,0,none⟩,1,[q]),(m,o,vp L.length),(none,0,[]),(r,u,d)]=q::(vp L.length++d):=by simp[zdh]
     have C:=qwk (zgy (w:=s.alloc (.cells #[.slice (some ⟨g.heap.size,0,none⟩) 1 1,.slice m (vp L.length).length o,.slice none 0 0,.slice r d.length u] 24)) (c:=4) (D:=[(some ⟨g.heap.size,0,none⟩,1,[q]),(m,o,vp L.length),(none,0,[]),(r,u,d)]) (qxi _ _ _ 4 _ rfl rfl) (by
      intro x a;rcases qsm.1 a with rfl|a
      ·exact qxs R5.out (qw5 p j)
      rcases qsm.1 a with rfl|a
      ·exact qxs R6.out j
      rcases qsm.1 a with rfl|a
      ·exact qwy
      obtain rfl:=qr6.1 a;exact qxs R3.out (qw5 v (qw5 p j))) (by omega) (by rw[f];have:=Q.out;simp only[qr1,qrp];omega))
     rw[f] at C;have S:Hid (X=(0,q::(vp L.length++d))):=qwk (a.trans (by simp));clear a f;generalize vp L.length=vL at*;go_wp2_with fail
     refine C.out.mono ?_;rintro e W6 ⟨R,m6,k6,rfl,o6,b6⟩;clear C;go_wp2_with fail
     go_ret2
     rw[S.out];exact⟨R,m6,k6,rfl,o6.base_le (by have:=F.out.size;have:=i.size;have:=v.size;have:=p.size;have:=j.size;omega),qw5 F.out (qw5 i (qw5 v (qw5 p (qw5 j b6))))⟩
    |true=>
     go_wp2_with fail
     refine P.out.mono ?_;rintro e s ⟨m,m5,o,rfl,z,p⟩;clear P;rw[qrr] at z;obtain rfl:m5=(vp L.length).length:=by simpa[zar] using z.len
     have R6:=qwk (show BytIn s (m,o,vp L.length) from z.reads);have j:New s (s.alloc (.cells #[.slice (some ⟨g.heap.size,0,none⟩) 1 1,.slice m (vp L.length).length o,.slice H (zcb L).length O,.slice r d.length u] 24)):=(qwd _ _).alloc (qq0 _) _;have f:zdh [(some ⟨g.heap.size,0,none⟩,1,[q]),(m,o,vp L.length),(H,O,zcb L),(r,u,d)]=q::(vp L.length++(zcb L++d)):=by simp[zdh]
     have C:=qwk (zgy (w:=s.alloc (.cells #[.slice (some ⟨g.heap.size,0,none⟩) 1 1,.slice m (vp L.length).length o,.slice H (zcb L).length O,.slice r d.length u] 24)) (c:=4) (D:=[(some ⟨g.heap.size,0,none⟩,1,[q]),(m,o,vp L.length),(H,O,zcb L),(r,u,d)]) (qxi _ _ _ 4 _ rfl rfl) (by
      intro x a;rcases qsm.1 a with rfl|a
      ·exact qxs R5.out (qw5 p j)
      rcases qsm.1 a with rfl|a
      ·exact qxs R6.out j
      rcases qsm.1 a with rfl|a
      ·exact qxs W.out (qw5 v (qw5 p j))
      obtain rfl:=qr6.1 a;exact qxs R3.out (qw5 v (qw5 p j))) (by omega) (by rw[f];have:=Q.out;have:=HS.out;simp only[qr1,qrp];omega))
     rw[f] at C;have S:Hid (X=(0,q::(vp L.length++(zcb L++d)))):=qwk (a.trans (by simp));clear a f;generalize vp L.length=vL at*;generalize zcb L=sL at*;go_wp2_with fail
     refine C.out.mono ?_;rintro e W6 ⟨R,m6,k6,rfl,o6,b6⟩;clear C;go_wp2_with fail
     go_ret2
     rw[S.out];exact⟨R,m6,k6,rfl,o6.base_le (by have:=F.out.size;have:=i.size;have:=v.size;have:=p.size;have:=j.size;omega),qw5 F.out (qw5 i (qw5 v (qw5 p (qw5 j b6))))⟩
  ·have hE:=HE.out
   rw[if_neg he] at hE;subst hE;have i1:((q:Int)== -1)=false:=beq_eq_false_iff_ne.2 (by omega);have b3:New W2 W2:=qw4 _;clear he;have V:=qwk (zlo (t:=t) (e:=(q:Int)) (c:=k2) (qxj R2.out b3) U.out a2);have G:=qw5 a0 b3;clear J K N;obtain⟨J,K,N⟩:=zan (I.out.below G I.out.lt);obtain rfl:m1=(zcb L).length:=by simpa[zar] using o1.len
   have R1:=qwk (qxs (show BytIn W2 (H,O,zcb L) from o1.reads) b3);generalize zez t (q:Int) (zcc L)=Y at*;generalize z0v t (q:Int) (zcc L)=Z at*;go_wp2_with fail
   refine V.out.mono ?_;rintro e g ⟨r,m3,u,rfl,o3,b4⟩;clear V;have i:=qw5 G b4;clear J K N;obtain⟨J,K,N⟩:=zan (I.out.below i I.out.lt);cases Y with
   |none=>
    have hz:Z=(1,[]):=VE.out;have a:X=(1,[]):=T.out;subst hz a;go_wp2_with fail
    go_ret2
    exact⟨none,0,0,rfl,qw0,qw5 F.out i⟩
   |some d=>
    have hz:Z=(0,d):=VE.out;have a:X=(0,q::(vp L.length++((if nu=true then zcb L else [])++d))):=T.out;subst hz;have a5:=VL.out d rfl;obtain rfl:m3=d.length:=by simpa[zar] using o3.len
    have R3:=qwk (show BytIn g (r,u,d) from o3.reads);have W:=qwk (qxs R1.out b4);obtain⟨c3,a1⟩:∃c3:Value,c3= .int .u8 (q:Int):=⟨_,rfl⟩;have iw:IntKind.u8.wrap (q:Int)=(q:Int):=by rw[qwl];omega
    have v:New g (g.alloc (.cells #[.int .u8 (q:Int)] 5)):=(qwd _ _).alloc (qq0 _) _;have R5:Hid (BytIn (g.alloc (.cells #[.int .u8 (q:Int)] 5)) (some ⟨g.heap.size,0,none⟩,1,[q])):=qwk (qxi _ _ _ 1 _ rfl rfl);have P:=qwk (zdc none 0 0 [] L.length (g.alloc (.cells #[.int .u8 (q:Int)] 5)) qwy (by omega) (by omega));have iz:IntKind.u64.wrap (L.length:Int)=(L.length:Int):=by rw[qwp];omega
    clear a1 c3;cases nu with
    |false=>
     go_wp2_with fail
     refine P.out.mono ?_;rintro e s ⟨m,m5,o,rfl,z,p⟩;clear P;rw[qrr] at z;obtain rfl:m5=(vp L.length).length:=by simpa[zar] using z.len
     have R6:=qwk (show BytIn s (m,o,vp L.length) from z.reads);have j:New s (s.alloc (.cells #[.slice (some ⟨g.heap.size,0,none⟩) 1 1,.slice m (vp L.length).length o,.slice none 0 0,.slice r d.length u] 24)):=(qwd _ _).alloc (qq0 _) _;have f:zdh [(some ⟨g.heap.size,0,none⟩,1,[q]),(m,o,vp L.length),(none,0,[]),(r,u,d)]=q::(vp L.length++d):=by simp[zdh]
     have C:=qwk (zgy (w:=s.alloc (.cells #[.slice (some ⟨g.heap.size,0,none⟩) 1 1,.slice m (vp L.length).length o,.slice none 0 0,.slice r d.length u] 24)) (c:=4) (D:=[(some ⟨g.heap.size,0,none⟩,1,[q]),(m,o,vp L.length),(none,0,[]),(r,u,d)]) (qxi _ _ _ 4 _ rfl rfl) (by
      intro x a;rcases qsm.1 a with rfl|a
      ·exact qxs R5.out (qw5 p j)
      rcases qsm.1 a with rfl|a
      ·exact qxs R6.out j
      rcases qsm.1 a with rfl|a
      ·exact qwy
      obtain rfl:=qr6.1 a;exact qxs R3.out (qw5 v (qw5 p j))) (by omega) (by rw[f];have:=Q.out;simp only[qr1,qrp];omega))
     rw[f] at C;have S:Hid (X=(0,q::(vp L.length++d))):=qwk (a.trans (by simp));clear a f;generalize vp L.length=vL at*;go_wp2_with fail
     refine C.out.mono ?_;rintro e W6 ⟨R,m6,k6,rfl,o6,b6⟩;clear C;go_wp2_with fail
     go_ret2
     rw[S.out];exact⟨R,m6,k6,rfl,o6.base_le (by have:=F.out.size;have:=i.size;have:=v.size;have:=p.size;have:=j.size;omega),qw5 F.out (qw5 i (qw5 v (qw5 p (qw5 j b6))))⟩
    |true=>
     go_wp2_with fail
     refine P.out.mono ?_;rintro e s ⟨m,m5,o,rfl,z,p⟩;clear P;rw[qrr] at z;obtain rfl:m5=(vp L.length).length:=by simpa[zar] using z.len
     have R6:=qwk (show BytIn s (m,o,vp L.length) from z.reads);have j:New s (s.alloc (.cells #[.slice (some ⟨g.heap.size,0,none⟩) 1 1,.slice m (vp L.length).length o,.slice H (zcb L).length O,.slice r d.length u] 24)):=(qwd _ _).alloc (qq0 _) _;have f:zdh [(some ⟨g.heap.size,0,none⟩,1,[q]),(m,o,vp L.length),(H,O,zcb L),(r,u,d)]=q::(vp L.length++(zcb L++d)):=by simp[zdh]
     have C:=qwk (zgy (w:=s.alloc (.cells #[.slice (some ⟨g.heap.size,0,none⟩) 1 1,.slice m (vp L.length).length o,.slice H (zcb L).length O,.slice r d.length u] 24)) (c:=4) (D:=[(some ⟨g.heap.size,0,none⟩,1,[q]),(m,o,vp L.length),(H,O,zcb L),(r,u,d)]) (qxi _ _ _ 4 _ rfl rfl) (by
      intro x a;rcases qsm.1 a with rfl|a
      ·exact qxs R5.out (qw5 p j)
      rcases qsm.1 a with rfl|a
      ·exact qxs R6.out j
      rcases qsm.1 a with rfl|a
      ·exact qxs W.out (qw5 v (qw5 p j))
      obtain rfl:=qr6.1 a;exact qxs R3.out (qw5 v (qw5 p j))) (by omega) (by rw[f];have:=Q.out;have:=HS.out;simp only[qr1,qrp];omega))
     rw[f] at C;have S:Hid (X=(0,q::(vp L.length++(zcb L++d)))):=qwk (a.trans (by simp));clear a f;generalize vp L.length=vL at*;generalize zcb L=sL at*;go_wp2_with fail
     refine C.out.mono ?_;rintro e W6 ⟨R,m6,k6,rfl,o6,b6⟩;clear C;go_wp2_with fail
     go_ret2
     rw[S.out];exact⟨R,m6,k6,rfl,o6.base_le (by have:=F.out.size;have:=i.size;have:=v.size;have:=p.size;have:=j.size;omega),qw5 F.out (qw5 i (qw5 v (qw5 p (qw5 j b6))))⟩
 ·have hp:=T.out
  rw[if_neg hm] at hp;subst hp;have i1:(M==0)=false:=by simpa using hm
  clear hm;go_wp2_with fail
  go_ret2
  exact⟨none,0,0,rfl,qw0,qw5 F.out b1⟩
structure WrT where
 Ac:Option Addr
 cc:Nat
 L:List za2
 r:Int
 Ad:Option Addr
 cd:Nat
 D:List zdw
 gr:Int
 pr:Int
 Ae:Option Addr
 ce:Nat
 E:List Int
abbrev WrT.dat(T:WrT):List (List zab):=T.D.map (·.2.2)
structure WrIn(w:World)(T:WrT):Prop where
 tab:TabIn w T.Ac T.cc T.L T.Ad T.D
 encs:Reads w w.heap.size 1 T.Ae T.E.length (za5 .i64 T.E)
 len:T.D.length=T.L.length
 elen:T.E.length=T.L.length
 few:T.L.length<=64
 rows:0<=T.r/\T.r<=65536
 all:∀d∈T.D,((d.2.2.length:Nat):Int)=T.r
 right:∀c,c<T.L.length-> ∀y∈(T.D.getD c dZ).2.2,zad y (T.L.getD c zeo).2.1 (T.L.getD c zeo).2.2=true
 data:∀d∈T.D,∀y∈d.2.2,CellFine y
 conf:(1<=T.gr/\T.gr<=65536)/\1<=T.pr/\T.pr<=65536
theorem WrIn.later{w w':World}{T:WrT}(h:WrIn w T)(a:New w w'):WrIn w' T:=⟨h.tab.later a,qxj h.encs a,h.len,h.elen,h.few,h.rows,h.all,h.right,h.data,h.conf⟩
def wrC(T:WrT)(V:Value)(z:Int):Array Value:= #[.slice T.Ac T.L.length T.cc,.int .i64 T.r,.slice T.Ad T.D.length T.cd,.int .i64 T.gr,.int .i64 T.pr,.slice T.Ae T.E.length T.ce,V,.int .i64 z]
structure WrOf(w:World)(base g:Nat)(T:WrT)(V:Value)(F:List (List Nat))(z:Int):Prop where
 blk:Blk w g 107 (wrC T V z)
 pages:∃A c P,V= .slice A P.length c/\w.ownsRow base 24 1 (.slice A P.length c) P.length (recs zjb P)/\P.map byP=F/\ ∀d∈P,TR w 5 d.1 d.2.2.length (zar .u8 d.2.2)
def KeepW(W W':World):Prop:=W.heap.size<=W'.heap.size/\ ∀t b cs,t≠107->t≠24->Blk W b t cs->Blk W' b t cs
theorem KeepW.refl(W:World):KeepW W W:=⟨qq0 _,fun _ _ _ _ _ h=>h⟩
theorem KeepW.trans{a b c:World}(h:KeepW a b)(k:KeepW b c):KeepW a c:=⟨qqs h.1 k.1,fun t x d e f g=>k.2 t x d e f (h.2 t x d e f g)⟩
theorem KeepW.new{W a:World}(h:New W a):KeepW W a:=⟨h.size,fun _ _ _ _ _ b=>b.below h b.lt⟩
abbrev qxt:=@KeepW.new
theorem KeepW.of{W d:World}{g:Nat}{t:TypeId}{cs:Array Value}(f:W.grownBy d (some g))(a:Blk W g t cs)(b:t=107\/t=24):KeepW W d:=
 ⟨f.size,fun k x h i j c=>c.grown f (fun e=>by
  injection e with e;subst e;unfold Blk at c a;rw[c] at a;injection a with a;injection a with _ a;rcases b with b|b
  ·exact i (a.trans b)
  ·exact j (a.trans b))⟩
theorem KeepW.row{W c:World}{base n:Nat}{v:Value}{xs:List Value}(o:W.ownsRow base 24 1 v n xs)(a:W.grownBy c v.ownBlock):KeepW W c:=by
 rcases hu:v.ownBlock with _|k
 ·rw[hu] at a
  exact⟨a.size,fun _ _ _ _ _ b=>b.grown a (by simp)⟩
 ·rw[hu] at a
  refine⟨a.size,fun h x d g f b=>b.grown a (fun e=>?_)⟩;injection e with e;subst e;exact zat o b (fun e=>f e.symm) hu
theorem ze2{w:World}{g:Nat}{ty:TypeId}{a b c d e f i j:Value}(h:Blk w g ty #[a,b,c,d,e,f,i,j]):
 w.cell? ⟨g,0,none⟩=some a/\w.cell? ⟨g,1,none⟩=some b/\w.cell? ⟨g,2,none⟩=some c/\w.cell? ⟨g,3,none⟩=some d/\w.cell? ⟨g,4,none⟩=some e/\w.cell? ⟨g,5,none⟩=some f/\w.cell? ⟨g,6,none⟩=some i/\w.cell? ⟨g,7,none⟩=some j:=by
 have k:=h.cell 0;have l:=h.cell 1;have m:=h.cell 2;have n:=h.cell 3;have o:=h.cell 4;have p:=h.cell 5;have q:=h.cell 6;have r:=h.cell 7;simp at k l m n o p q r;exact⟨k,l,m,n,o,p,q,r⟩
theorem WrOf.new{w w':World}{base g:Nat}{T:WrT}{V:Value}{F:List (List Nat)}{z:Int}(h:WrOf w base g T V F z)(a:New w w'):WrOf w' base g T V F z:=by obtain⟨b,A,c,P,e,f,i,j⟩:=h;exact⟨b.below a b.lt,A,c,P,e,zba f a,i,fun d k=>(j d k).below a⟩
def qcq(T:WrT)(c:Nat)(s:Int × Int)(w0:World)(base g:Nat)(F:List (List Nat))(z:Int)(w:World)(e:Ending)(w':World):Prop:=
 match pgW T.L T.E T.dat c (some (F,z)) s with
 |none=>e= .returned (.tuple #[zu5 (0,0,zb4),.bool false])/\KeepW w w'/\New w0 w'
 |some x=>e= .returned (.tuple #[zu5 (zcw T.L T.E T.dat c s),.bool true])/\(∃V',WrOf w' base g T V' x.1 x.2)/\KeepW w w'/\New w0 w'
end Go.Proofs.Y
