import Derived.Test.YtbahbnbpmfgimaaGreatDoorBun28
import Derived.Test.YtbahbnbpmfgimaaGreatDoorBun39
set_option maxHeartbeats 8000000
set_option maxRecDepth 100000
namespace Go.Hm
open Go Go.RowKit
end Go.Hm
namespace Go.Proofs.Y
open Go.RowKit Go.Hm
theorem OptI.u{o:Option (List Int)}{w w':World}{e:Ending}(h:OptI o w e w'):
 ∃A n c,e= .returned (.tuple #[.slice A n c,.bool o.isSome])/\Go.Hm.Own w' w.heap.size 3 (.slice A n c) (za5 .i64 (o.getD []))/\New w w':=by
 cases o with
 |none=>exact⟨none,0,0,h.1,qw0,h.2⟩
 |some l=>exact h
theorem OptCX.u{o:Option (List zab)}{w w':World}{e:Ending}(h:OptCX o w e w'):∃v,e= .returned (.tuple #[v,.bool o.isSome])/\New w w'/\ ∀l,o=some l-> ∃A n c,v= .slice A n c/\w'.ownsRow w.heap.size 75 5 (.slice A n c) n (recs zay l):=by
 cases o with
 |none=>obtain⟨⟨v,rfl⟩,d⟩:=h;exact⟨v,rfl,d,fun b a=>by cases a⟩
 |some l=>obtain⟨A,n,c,rfl,d,f⟩:=h;exact⟨_,rfl,f,fun b a=>by injection a with a;subst a;exact⟨_,_,_,rfl,d⟩⟩
theorem OptCX.of{o:Option (List zab)}{w w':World}{v:Value}(a:New w w')(b:∀l,o=some l-> ∃A n c,v= .slice A n c/\w'.ownsRow w.heap.size 75 5 (.slice A n c) n (recs zay l)):OptCX o w (.returned (.tuple #[v,.bool o.isSome])) w':=by
 cases o with
 |none=>exact⟨⟨v,rfl⟩,a⟩
 |some l=>obtain⟨A,n,c,rfl,d⟩:=b l rfl;exact⟨A,n,c,rfl,d,a⟩
def DecVPost(t e:Int)(b:List Nat)(n:Int)(w:World)(en:Ending)(w':World):Prop:=
 New w w'/\((fitsV t e=false/\en= .returned (.tuple #[.slice none 0 0,.int .i64 3]))\/
  (fitsV t e=true/\IsVal t e b n none/\en= .returned (.tuple #[.slice none 0 0,.int .i64 2]))\/
  (fitsV t e=true/\ ∃l A m c,IsVal t e b n (some l)/\en= .returned (.tuple #[.slice A m c,.int .i64 0])/\w'.ownsRow w.heap.size 75 5 (.slice A m c) m (recs zay l)))
theorem qnr(t:Int):fitsV t 0=decide (0<=t/\t<=3):=by unfold fitsV;rw[decide_eq_decide];omega
def ckE(t:Int)(nu:Bool)(e:Int)(l:List zab):Int:=
 if¬(0<=t/\t<=3)\/(e≠ -1/\fitsV t e=false) then 3 else if 65536<l.length then 4 else if(l.all fun c=>zad c t nu)=true then 0 else 1
theorem qns(t:Int)(nu:Bool)(e:Int)(l:List zab):pgE t nu e l=if ckE t nu e l=0 then(match zez t (encOf t e l) (zcc l) with
 |some d=>(0,(encOf t e l).toNat::(vp l.length++((if nu=true then zcb l else [])++d)))
 |none=>(1,[])) else(ckE t nu e l,[]):=by
 unfold pgE ckE;split
 ·simp
 ·split
  ·simp
  ·split
   ·rw[if_pos rfl]
    all_goals(generalize zez t (encOf t e l) (zcc l)=Z;cases Z<;> rfl)
   ·simp
theorem z6v{w:World}{t:Int}:Calls Tryz.prog 141 #[.int .i64 t] w (zd5 (.bool (decide (0<=t/\t<=3))) w):=by
 have F:=qwk (zmm t 0 w);rw[qnr] at F;generalize decide (0<=t/\t<=3)=K at*;go_enter Tryz.func141,Tryz.ntmps141
 go_wp2_with fail
 refine F.out.mono ?_;rintro e a ⟨rfl,rfl⟩;go_wp2_with fail
 go_ret
 exact⟨rfl,rfl⟩
theorem z6w{w:World}{cn:List Nat}{t:Int}{nu:Bool}{e:Int}{A:Option Addr}{n c:Nat}{L:List zab}(h:Reads w w.heap.size 5 A n (recs zay L))(hL:∀y∈L,y.2.2.1.length<=140737488351232)(hn:n<=4611686018427387903):
 Calls Tryz.prog 125 #[.agg #[.string (zaf cn),.int .i64 t,.bool nu],.int .i64 e,.slice A n c] w (zap (.int .i64 (ckE t nu e L)) w):=by
 obtain rfl:=h.lenCell;have HR:=qwk h;have HL:=qwk hL;clear h hL;have B:=qwk (fun W=>z6v (w:=W) (t:=t));have F:=qwk (fun W=>zmm t e W);obtain⟨M,p⟩:∃M,M=ckE t nu e L:=⟨_,rfl⟩;rw[<-p];unfold ckE at p;have n1:New w (w.alloc (.cells #[.string (zaf cn),.int .i64 t,.bool nu] 71)):=(qwd _ _).alloc (qq0 _) _;have g1:Blk (w.alloc (.cells #[.string (zaf cn),.int .i64 t,.bool nu] 71)) w.heap.size 71 #[.string (zaf cn),.int .i64 t,.bool nu]:=qw1 _ _ _;obtain⟨R,S,T⟩:=zan g1;have C:=qwk n1;have G:=qwk g1;clear n1 g1;by_cases r:0<=t/\t<=3
 ·rw[decide_eq_true r] at B
  by_cases I:e= -1
  ·subst I
   rw[if_neg (by rintro(q|q);exact q r;exact q.1 rfl)] at p;have u:=qwk p;clear p r F;go_enter Tryz.func125,Tryz.ntmps125
   go_wp2_with fail
   refine(B.out _).mono ?_;rintro e V ⟨rfl,rfl⟩;clear B;by_cases d:65536<L.length
   ·have l:M=4:=by rw[u.out,if_pos d]
    subst l;have i2:(65536:Int)<(L.length:Int):=by omega
    go_wp2_with fail
    go_ret
    exact⟨rfl,C.out⟩
   ·have l:=u.out
    rw[if_neg d] at l;replace u:=qwk l;have i2:(L.length:Int)<=65536:=by omega
    have hs:L.length<=65536:=by omega
    clear l d;go_wp2_with fail
    go_loopw [29] (fun i wr=>∃k:Nat,k<=L.length/\i= .int .i64 (k:Int)/\New (w.alloc (.cells #[.string (zaf cn),.int .i64 t,.bool nu] 71)) wr/\Hid (∀c∈L.take k,zad c t nu=true)) (fun i _=>L.length-(intOf i).toNat)
    case atStart=>exact⟨0,qq1 _,rfl,qw4 _,qwk (by simp)⟩
    case round=>
     clear R S T;obtain⟨k,r,rfl,v,J⟩:=hrel;by_cases j:k<L.length
     ·obtain⟨ad,rfl,hb,d0,d1,d2,d3,d4⟩:=(qxj HR.out (qw5 C.out v)).cell5 j
      have z:=zac L k (false,0,[],0,0) j;have f:=zdt (false,0,[],0,0) j;have Z:=HL.out _ f;have D:=fun(W:World)=>zgf (w:=W) (b:=(L.getD k (false,0,[],0,0)).1) (n:=(L.getD k (false,0,[],0,0)).2.1) (s:=(L.getD k (false,0,[],0,0)).2.2.1) (x:=(L.getD k (false,0,[],0,0)).2.2.2.1) (y:=(L.getD k (false,0,[],0,0)).2.2.2.2) (cn:=cn) (t:=t) (nu:=nu) Z
      have g:zad (L.getD k (false,0,[],0,0)) t nu=false->M=1:=fun e=>by rw[u.out,if_neg];intro e2;have:=(qs9.1 e2) _ f;rw[e] at this;cases this
      have a:zad (L.getD k (false,0,[],0,0)) t nu=true-> ∀c∈L.take (k+1),zad c t nu=true:=fun e c o=>by
       rw[z] at o;rcases qr5.1 o with o|o
       ·exact J.out c o
       ·rw[qr6.1 o];exact e
      clear z f Z J;generalize L.getD k (false,0,[],0,0)=y at*;obtain⟨K,N,O,P,Q⟩:=y;dsimp only at D d0 d1 d2 d3 d4;generalize zad (K,N,O,P,Q) t nu=m at*;have D:Hid (∀W,Calls Tryz.prog 83 #[.agg #[.bool K,.int .i64 N,.string (zaf O),.int .i64 P,.int .i64 Q],.agg #[.string (zaf cn),.int .i64 t,.bool nu]] W (zap (.bool m) W)):=qwk D;have g:=qwk g;have a:=qwk a;have X:New wr (wr.alloc (.cells #[.bool K,.int .i64 N,.string (zaf O),.int .i64 P,.int .i64 Q] 75)):=(qwd _ _).alloc (qq0 _) _;have U:=(G.out.below v G.out.lt).below X (G.out.below v G.out.lt).lt;obtain⟨R,S,T⟩:=zan U;clear U;have i3:(k:Int)<(L.length:Int):=by omega
      go_wp2_with fail
      refine(D.out _).mono ?_;rintro e w1 ⟨rfl,b1⟩;have Y:=qw5 (qw5 v X) b1;clear R S T;cases m with
      |false=>
       have E:=g.out (by trivial);have H:=qwk E;clear g a E;go_wp2_with fail
       go_ret
       rw[H.out];exact⟨rfl,qw5 C.out Y⟩
      |true=>
       have E:=qwk (a.out (by trivial));clear g a;go_wp2_with fail
       go_roundw
       case rel=>exact⟨k+1,by omega,by go_num,Y,E⟩
       case measure=>simp[intOf];omega
     ·obtain rfl:k=L.length:=by omega
      have l:M=0:=by rw[u.out,if_pos];exact qs9.2 (by simpa using J.out)
      subst l;go_wp2_with fail
      go_ret
      exact⟨rfl,qw5 C.out v⟩
  ·have i1:(e== -1)=false:=by simpa using I
   cases hf:fitsV t e with
   |false=>
    rw[if_pos (.inr ⟨I,hf⟩)] at p;subst p;rw[hf] at F;have HE:=qwk I;clear I hf r;go_enter Tryz.func125,Tryz.ntmps125
    go_wp2_with fail
    refine(B.out _).mono ?_;rintro e V ⟨rfl,rfl⟩;clear B;go_wp2_with fail
    refine(F.out _).mono ?_;rintro e V ⟨rfl,rfl⟩;clear F;go_wp2_with fail
    go_ret
    exact⟨rfl,C.out⟩
   |true=>
    rw[if_neg (by rintro(q|q);exact q r;rw[hf] at q;cases q.2)] at p;have u:=qwk p;rw[hf] at F;have HE:=qwk I;clear p r I hf;go_enter Tryz.func125,Tryz.ntmps125
    go_wp2_with fail
    refine(B.out _).mono ?_;rintro e V ⟨rfl,rfl⟩;clear B;go_wp2_with fail
    refine(F.out _).mono ?_;rintro e V ⟨rfl,rfl⟩;clear F;by_cases d:65536<L.length
    ·have l:M=4:=by rw[u.out,if_pos d]
     subst l;have i2:(65536:Int)<(L.length:Int):=by omega
     go_wp2_with fail
     go_ret
     exact⟨rfl,C.out⟩
    ·have l:=u.out
     rw[if_neg d] at l;replace u:=qwk l;have i2:(L.length:Int)<=65536:=by omega
     have hs:L.length<=65536:=by omega
     clear l d;go_wp2_with fail
     go_loopw [29] (fun i wr=>∃k:Nat,k<=L.length/\i= .int .i64 (k:Int)/\New (w.alloc (.cells #[.string (zaf cn),.int .i64 t,.bool nu] 71)) wr/\Hid (∀c∈L.take k,zad c t nu=true)) (fun i _=>L.length-(intOf i).toNat)
     case atStart=>exact⟨0,qq1 _,rfl,qw4 _,qwk (by simp)⟩
     case round=>
      clear R S T;obtain⟨k,r,rfl,v,J⟩:=hrel;by_cases j:k<L.length
      ·obtain⟨ad,rfl,hb,d0,d1,d2,d3,d4⟩:=(qxj HR.out (qw5 C.out v)).cell5 j
       have z:=zac L k (false,0,[],0,0) j;have f:=zdt (false,0,[],0,0) j;have Z:=HL.out _ f;have D:=fun(W:World)=>zgf (w:=W) (b:=(L.getD k (false,0,[],0,0)).1) (n:=(L.getD k (false,0,[],0,0)).2.1) (s:=(L.getD k (false,0,[],0,0)).2.2.1) (x:=(L.getD k (false,0,[],0,0)).2.2.2.1) (y:=(L.getD k (false,0,[],0,0)).2.2.2.2) (cn:=cn) (t:=t) (nu:=nu) Z
       have g:zad (L.getD k (false,0,[],0,0)) t nu=false->M=1:=fun e=>by rw[u.out,if_neg];intro e2;have:=(qs9.1 e2) _ f;rw[e] at this;cases this
       have a:zad (L.getD k (false,0,[],0,0)) t nu=true-> ∀c∈L.take (k+1),zad c t nu=true:=fun e c o=>by
        rw[z] at o;rcases qr5.1 o with o|o
        ·exact J.out c o
        ·rw[qr6.1 o];exact e
       clear z f Z J;generalize L.getD k (false,0,[],0,0)=y at*;obtain⟨K,N,O,P,Q⟩:=y;dsimp only at D d0 d1 d2 d3 d4;generalize zad (K,N,O,P,Q) t nu=m at*;have D:Hid (∀W,Calls Tryz.prog 83 #[.agg #[.bool K,.int .i64 N,.string (zaf O),.int .i64 P,.int .i64 Q],.agg #[.string (zaf cn),.int .i64 t,.bool nu]] W (zap (.bool m) W)):=qwk D;have g:=qwk g;have a:=qwk a;have X:New wr (wr.alloc (.cells #[.bool K,.int .i64 N,.string (zaf O),.int .i64 P,.int .i64 Q] 75)):=(qwd _ _).alloc (qq0 _) _;have U:=(G.out.below v G.out.lt).below X (G.out.below v G.out.lt).lt;obtain⟨R,S,T⟩:=zan U;clear U;have i3:(k:Int)<(L.length:Int):=by omega
       go_wp2_with fail
       refine(D.out _).mono ?_;rintro e w1 ⟨rfl,b1⟩;have Y:=qw5 (qw5 v X) b1;clear R S T;cases m with
       |false=>
        have E:=g.out (by trivial);have H:=qwk E;clear g a E;go_wp2_with fail
        go_ret
        rw[H.out];exact⟨rfl,qw5 C.out Y⟩
       |true=>
        have E:=qwk (a.out (by trivial));clear g a;go_wp2_with fail
        go_roundw
        case rel=>exact⟨k+1,by omega,by go_num,Y,E⟩
        case measure=>simp[intOf];omega
      ·obtain rfl:k=L.length:=by omega
       have l:M=0:=by rw[u.out,if_pos];exact qs9.2 (by simpa using J.out)
       subst l;go_wp2_with fail
       go_ret
       exact⟨rfl,qw5 C.out v⟩
 ·rw[decide_eq_false r] at B
  rw[if_pos (.inl r)] at p;subst p;have HK:=qwk r;clear r F;go_enter Tryz.func125,Tryz.ntmps125
  go_wp2_with fail
  refine(B.out _).mono ?_;rintro e V ⟨rfl,rfl⟩;clear B;go_wp2_with fail
  go_ret
  exact⟨rfl,C.out⟩
theorem DecVPost.u{t e:Int}{b:List Nat}{n:Int}{w w':World}{g:Ending}(h:DecVPost t e b n w g w'):
 ∃v k,g= .returned (.tuple #[v,.int .i64 k])/\New w w'/\((k≠0/\(fitsV t e=true->IsVal t e b n none))\/(k=0/\fitsV t e=true/\ ∃l A m c,v= .slice A m c/\IsVal t e b n (some l)/\w'.ownsRow w.heap.size 75 5 (.slice A m c) m (recs zay l))):=by
 obtain⟨f,h⟩:=h;rcases h with⟨a,rfl⟩|⟨a,d,rfl⟩|⟨a,l,A,m,c,d,rfl,i⟩
 ·exact⟨_,_,rfl,f,.inl ⟨by omega,fun q=>by rw[a] at q;cases q⟩⟩
 ·exact⟨_,_,rfl,f,.inl ⟨by omega,fun _=>d⟩⟩
 ·exact⟨_,_,rfl,f,.inr ⟨rfl,a,l,A,m,c,rfl,d,i⟩⟩
theorem qb6:∀m:List Nat,(∀y∈m,y<2^1)->m.sum<=m.length
 | [],_=>by simp
 |y::m,h=>by
  have h1:=h y (by simp);have b:=qb6 m (fun z a=>h z (by simp[a]));simp only[qt7,qr1];omega
theorem qhh{b:List Nat}{n:Int}(c:∀x∈b,x<256): -1<=qgr (zch b 1 n)/\qgr (zch b 1 n)<=65536:=by
 cases h:zch b 1 n with
 |none=>exact⟨qu2 _,by simp[qgr]⟩
 |some m=>
  obtain⟨_,_,a,d⟩:=qa5 c h;have:=qb6 m a;simp only[qgr];omega
def SheOk(t:Int)(nu:Bool)(p:za3)(b:List Nat)(l:List zab):Prop:=IsPg t nu b (some l)/\(b.length:Int)=p.1/\(l.length:Int)=p.2.1/\IsStat t l p.2.2
theorem zn1{c:zab}{t:Int}{nu:Bool}(h:zad c t nu=true):zad c t true=true:=by
 cases nu with
 |false=>exact zxg true h
 |true=>exact h
theorem SheOk.uniq{t:Int}{nu:Bool}{p:za3}{b:List Nat}{l m:List zab}(h:SheOk t nu p b l)(k:SheOk t nu p b m):l=m:=by have:=h.1.uniq k.1;injection this
open Classical in
noncomputable def qpd(t:Int)(nu:Bool)(p:za3)(b:List Nat):Option (List zab):=if h:∃l,SheOk t nu p b l then some h.choose else none
theorem qce{t:Int}{nu:Bool}{p:za3}{b:List Nat}{l:List zab}(h:SheOk t nu p b l):qpd t nu p b=some l:=by unfold qpd;have e:∃l,SheOk t nu p b l:=⟨l,h⟩;rw[dif_pos e,e.choose_spec.uniq h]
abbrev TSt:=Option (List (List zab) × List (List Nat))
noncomputable def pgT(c:za2)(j:Nat)(S:TSt)(p:za3):TSt:=
 match S with
 |none=>none
 |some (_,[])=>none
 |some (D,b::R)=>match qpd c.2.1 c.2.2 p b with
  |none=>none
  |some x=>some (D.set j (D.getD j []++x),R)
noncomputable def chT(c:za2)(j:Nat)(S:TSt)(l:List za3):TSt:=l.foldl (pgT c j) S
noncomputable def qos(cols:List za2):Nat->List (List za3)->TSt->TSt
 |_,[],S=>S
 |j,l::C,S=>qos cols (j+1) C (chT (cols.getD j zeo) j S l)
noncomputable def grT(cols:List za2)(S:TSt)(g:za6):TSt:=qos cols 0 g.2 S
noncomputable def qot(F:FootS)(P:List (List Nat))(k:Nat):TSt:=(F.groups.take k).foldl (grT F.cols) (some (List.replicate F.cols.length [],P))
noncomputable def qpe(F:FootS)(P:List (List Nat)):Option (List (List zab)):=
 match qot F P F.groups.length with
 |some (D,[])=>some D
 |_=>none
noncomputable def qpf(F:FootS)(P:List (List Nat)):Option (List (List zab)):=if ze6 F=true then qpe F P else none
theorem zvj{α:Type}{D:List α}{j:Nat}{d:α}(h:j<D.length):D.set j (D.getD j d)=D:=by rw[qsh,qqt h];exact List.set_getElem_self h
theorem qnv{c:za2}{j:Nat}{D:List (List zab)}{b:List Nat}{R:List (List Nat)}{p:za3}{x:List zab}(h:SheOk c.2.1 c.2.2 p b x):pgT c j (some (D,b::R)) p=some (D.set j (D.getD j []++x),R):=by unfold pgT;dsimp only;rw[qce h]
theorem qhm{F:FootS}{P:List (List Nat)}{D:List (List zab)}{R:List (List Nat)}(h:qot F P F.groups.length=some (D,R)):qpe F P=if R=[] then some D else none:=by
 unfold qpe;rw[h];cases R with
 |nil=>simp
 |cons x R=>simp
theorem zyb:Tryz.prog.underlying 24=some (.slice (Tryz.prog.elem 24)):=by kernel_rfl
theorem zyc(w:World):(sizeOf (Tryz.prog.elem 24)).run Tryz.prog w= .ok 1 w:=by kernel_rfl
theorem qck{l:List Nat}(a:∀x∈l,x<256):((zaf l).toList== [72,89,80,79])=decide (l=headL_film):=by rw[<-zg2 a (m:=headL_film) (by decide)];rw[show(zaf headL_film).toList=[72,89,80,79] by simp[zaf,headL_film]]
theorem qcl{l:List Nat}(a:∀x∈l,x<256):((zaf l).toList== [79,80,89,72])=decide (l=tailL):=by rw[<-zg2 a (m:=tailL) (by decide)];rw[show(zaf tailL).toList=[79,80,89,72] by simp[zaf,tailL]]
def zn3(b:List Nat)(w:World)(e:Ending)(w':World):Prop:=
 New w w'/\match zq5 b with
 |none=>e= .returned (.tuple #[.slice none 0 0,.bool false])
 |some s=>∃A c,e= .returned (.tuple #[.slice A s.length c,.bool true])/\Reads w' w.heap.size 1 A s.length (zar .u8 s)/\s.length<=c/\c<=9223372036854775807
theorem zyd{w:World}{A:Option Addr}{c:Nat}{b:List Nat}(h:Reads w w.heap.size 1 A b.length (zar .u8 b))(H:∀x∈b,x<256)(hb:b.length<=140737488351232)(P:b.length<=c)(a2:c<=9223372036854775807):
 Calls Tryz.prog 67 #[.slice A b.length c] w (zn3 b w):=by
 have HR:=qwk h;by_cases V:b.length<12
 ·have f:zq5 b=none:=by unfold zq5;rw[if_pos (.inl V)]
  have i1:(b.length:Int)<12:=by omega
  go_enter Tryz.func67,Tryz.ntmps67
  go_wp2_with fail
  go_ret2
  unfold zn3;rw[f];exact⟨qw4 _,rfl⟩
 ·have i1:(12:Int)<=(b.length:Int):=by omega
  have S1:(Instr.sliceAt 24 (.slice A b.length c) none (some (.int .i64 4)) none).run Tryz.prog w= .ok (.slice A 4 c) w:=qhb zyb zyc A b.length c 4 (by omega) w;have I:=zjz (c:=c) (show Reads w w.heap.size 1 A 4 (zar .u8 (b.take 4)) by have:=h.take (k:=4) (by omega);rwa[show 4*1=4 from rfl,zfa] at this)
  have Y:=qck (l:=b.take 4) (fun x G=>H x (qro G));have a3:=zbq (b.take 4);by_cases o:b.take 4=headL_film
  ·rw[decide_eq_true o] at Y
   have S2:(Instr.sliceAt 24 (.slice A b.length c) (some (.int .i64 ((b.length:Int)-4))) none none).run Tryz.prog w= .ok (.slice (if c=b.length-4 then A else A.map (·.add ((b.length-4)*1))) (b.length-(b.length-4)) (c-(b.length-4))) w:=by have:=qhc zyb zyc A b.length c (b.length-4) (by omega) w;rwa[show((b.length-4:Nat):Int)=(b.length:Int)-4 by omega] at this
   have C2:=zjz (c:=c-(b.length-4)) (show Reads w w.heap.size 1 (if c=b.length-4 then A else A.map (·.add ((b.length-4)*1))) (b.length-(b.length-4)) (zar .u8 (b.drop (b.length-4))) by have:=h.cut (k:=b.length-4) (cap:=c) (by omega) P;simpa only[qq7,zeq] using this)
   have Z:=qcl (l:=b.drop (b.length-4)) (fun x G=>H x (qte G));generalize v:(if c=b.length-4 then A else A.map (·.add ((b.length-4)*1)))=A2 at*;have a0:=qwk v;generalize y:b.drop (b.length-4)=D2 at*;have p:=qwk y;generalize B:b.length-4=N4 at*;have s:=qwk B;have HH:=qwk o;clear v y B o;by_cases D:D2=tailL
   ·rw[decide_eq_true D] at Z
    subst D;have S3:(Instr.sliceAt 24 (.slice A b.length c) (some (.int .i64 ((b.length:Int)-4-4))) (some (.int .i64 ((b.length:Int)-4))) none).run Tryz.prog w= .ok (.slice (if c=b.length-8 then A else A.map (·.add ((b.length-8)*1))) 4 (c-(b.length-8))) w:=by have:=zh7 zyb zyc A b.length c (b.length-8) (b.length-4) (by omega) (by omega) w;rwa[show((b.length-8:Nat):Int)=(b.length:Int)-4-4 by omega,show((b.length-4:Nat):Int)=(b.length:Int)-4 by omega,show b.length-4-(b.length-8)=4 by omega] at this
    have d:((b.drop (b.length-8)).take 4).length=4:=by rw[qqx,qqw];omega
    have R:Reads w w.heap.size 1 (if c=b.length-8 then A else A.map (·.add ((b.length-8)*1))) 4 (zar .u8 ((b.drop (b.length-8)).take 4)):=by have:=(h.cut (k:=b.length-8) (cap:=c) (by omega) P).take (k:=4) (by omega);simpa only[qq7,zeq,zfa] using this
    have m:∀x∈(b.drop (b.length-8)).take 4,x<256:=fun x G=>H x (qte (qro G))
    have u:Reads w w.heap.size 1 (if c=b.length-8 then A else A.map (·.add ((b.length-8)*1))) ((b.drop (b.length-8)).take 4).length (zar .u8 ((b.drop (b.length-8)).take 4)):=by rw[d];exact R
    have C:=qwk (zuk (c:=c-(b.length-8)) u (by omega) m);rw[d] at C;have n:=zsl _ m;rw[d] at n;have O:num ((b.drop (b.length-8)).take 4)=ownN b:=rfl;rw[O] at n;have X:ownN b<4294967296:=n;generalize M:(if c=b.length-8 then A else A.map (·.add ((b.length-8)*1)))=A3 at*;generalize z:(b.drop (b.length-8)).take 4=D4 at*;have a1:=qwk z;have HN:=qwk O;have r:=qwk d;have S4:Hid (∀W,ownN b<=b.length-12->(Instr.sliceAt 24 (.slice A b.length c) (some (.int .i64 ((b.length:Int)-4-4-(ownN b:Int)))) (some (.int .i64 ((b.length:Int)-4-4))) none).run Tryz.prog W= .ok (.slice (if c=b.length-8-ownN b then A else A.map (·.add ((b.length-8-ownN b)*1))) (ownN b) (c-(b.length-8-ownN b))) W):=qwk (fun W hW=>by have:=zh7 zyb zyc A b.length c (b.length-8-ownN b) (b.length-8) (by omega) (by omega) W;rwa[show((b.length-8-ownN b:Nat):Int)=(b.length:Int)-4-4-(ownN b:Int) by omega,show((b.length-8:Nat):Int)=(b.length:Int)-4-4 by omega,show b.length-8-(b.length-8-ownN b)=ownN b by omega] at this)
    have R4:Hid (ownN b<=b.length-12->Reads w w.heap.size 1 (if c=b.length-8-ownN b then A else A.map (·.add ((b.length-8-ownN b)*1))) (ownN b) (zar .u8 ((b.drop (b.length-8-ownN b)).take (ownN b)))):=qwk (fun hW=>by have:=(h.cut (k:=b.length-8-ownN b) (cap:=c) (by omega) P).take (k:=ownN b) (by omega);simpa only[qq7,zeq,zfa] using this)
    have i:zq5 b=if b.length-12<ownN b then none else some ((b.drop (b.length-8-ownN b)).take (ownN b)):=by unfold zq5;rw[if_neg (by rintro(q|q|q);exact V q;exact q HH.out;exact q (by rw[s.out,p.out]))]
    have t:=qwk i;clear M z O d i R u m H h;generalize ownN b=N at*;have iw:IntKind.i64.wrap (N:Int)=(N:Int):=by rw[qwr];omega
    go_enter Tryz.func67,Tryz.ntmps67
    go_wp2_with fail
    refine C.out.mono ?_;rintro e w1 ⟨g,rfl,hg,I,S⟩;have U:=qe3 I (by rw[r.out];exact qq0 _);rw[qru (by rw[r.out];exact qq0 _),HN.out] at U;replace U:=qwk U;clear C I;go_wp2_with fail
    refine U.out.mono ?_;rintro e w2 ⟨rfl,J,T⟩;have L:=qxa S T hg (qq0 _);clear U J T S;by_cases a:b.length-12<N
    ·have f:zq5 b=none:=by rw[t.out,if_pos a]
     have i5:(b.length:Int)-4-4-4<(N:Int):=by omega
     clear a;go_wp2_with fail
     go_ret2
     unfold zn3;rw[f];exact⟨L,rfl⟩
    ·have f:zq5 b=some ((b.drop (b.length-8-N)).take N):=by rw[t.out,if_neg a]
     have i5:(N:Int)<=(b.length:Int)-4-4-4:=by omega
     have S5:=S4.out w2 (by omega);have R5:=qwk ((R4.out (by omega)).below L);have Q:N<=c-(b.length-8-N):=by omega
     have F:((b.drop (b.length-8-N)).take N).length=N:=by rw[qqx,qqw];omega
     have HO:=qwk f;have j:=qwk F;clear a f F;generalize(if c=b.length-8-N then A else A.map (·.add ((b.length-8-N)*1)))=A5 at*;generalize E:c-(b.length-8-N)=k5 at*;have K:=qwk E;clear E;go_wp2_with fail
     go_ret2
     unfold zn3;rw[HO.out];refine⟨L,A5,k5,?_,?_,?_,?_⟩
     ·rw[j.out];rfl
     ·rw[j.out];exact R5.out
     ·rw[j.out];exact Q
     ·rw[<-K.out];omega
   ·rw[decide_eq_false D] at Z
    have f:zq5 b=none:=by unfold zq5;rw[if_pos (.inr (.inr (by rw[s.out,p.out];exact D)))]
    clear D;go_enter Tryz.func67,Tryz.ntmps67
    go_wp2_with fail
    go_ret2
    unfold zn3;rw[f];exact⟨qw4 _,rfl⟩
  ·rw[decide_eq_false o] at Y
   have f:zq5 b=none:=by unfold zq5;rw[if_pos (.inr (.inl o))]
   clear o;go_enter Tryz.func67,Tryz.ntmps67
   go_wp2_with fail
   go_ret2
   unfold zn3;rw[f];exact⟨qw4 _,rfl⟩
theorem qh9{p:List Nat}(b:∀x∈p,x<=18446744073709551615)(f:p.length<=65536):(encP p).length<=22+8*p.length:=by
 have a:=zk2 p b;have c:=zae (n:=2*p.length) (by omega);have d:=zae (n:=2*p.length+1) (by omega);have e:(vp (p.getD 0 0)).length<=10:=by
  refine zae ?_;rw[qsh];cases h:p[0]? with
  |none=>simp
  |some x=>
   have:=b x (List.mem_of_getElem? h);simp;omega
 have m:=qqz p.length a;unfold encP;split
 ·rw[qrp];omega
 ·rw[qrp,qr1,za0];omega
theorem zi5:∀ps:List (List Nat),(∀p∈ps,0<p.length/\(encP p).length<=22+8*p.length)->(ps.flatMap encP).length<=30*ps.flatten.length
 | [],_=>by simp
 |p::ps,h=>by
  have:=zi5 ps fun q a=>h q (by simp[a])
  have:=h p (by simp);rw[qt6,qvg,qrp,qrp];omega
theorem z3z{l:List Nat}(b:∀x∈l,x<=18446744073709551615)(c:l.length<=65536):(zlu l).length<=30*l.length:=by
 have:=zi5 (pcs l) fun p a=>⟨(z91 l p a).1,qh9 (znl b a).1 (qqs (znl b a).2 c)⟩
 rwa[zmi] at this
theorem zvu{l:List Int}{b:List Nat}(a:∀x∈l,zf9 x)(h:zql l=some b):b.length<=10+268*l.length:=by
 have c:=zj8 h;unfold zql at h;rw[if_neg (by omega)] at h;split at h
 ·injection h with h
  subst h;simp
 ·injection h with h
  subst h;have d:=zae (zk4 (a _ (zhx (show 0<l.length by omega))));have e:=zg9 (zhv l) (nblk (l.length-1)) (by rw[ze5];exact qq0 _);have f:nblk (l.length-1)<=l.length:=by unfold nblk;omega
  rw[qrp];omega
theorem qdh{t:Int}{l:List zab}(h:∀c∈l,zad c t false=true):(plB t l).length<=21*l.length+fsum (za4 l):=by
 unfold plB;split
 ·rw[za0];omega
 ·have f:∀l:List zab,(∀c∈l,zad c t false=true)->(l.flatMap (plE t)).length<=21*l.length+fsum (za4 l):=by
   intro l;induction l with
   |nil=>intro _;simp
   |cons c l i=>
    intro h;have a:=i fun d g=>h d (by simp[g])
    have b:=znk (h c (by simp));have e:fsum (za4 (c::l))=c.2.2.1.length+fsum (za4 l):=by unfold za4;rw[qrj,zet]
    rw[qt6,qrp,qr1,e];omega
  exact f l h
theorem qdi:∀l:List zab,∀k,k<=l.length->fsum (za4 (zgs (l.take k)).1)<=fsum (za4 (l.take k))
 |l,0,_=>by simp[zgs]
 |l,k+1,hk=>by
  have ih:=qdi l k (by omega);rw[zac l k zku (by omega),zhy];have e:fsum (za4 (l.take k++[l.getD k zku]))=fsum (za4 (l.take k))+(l.getD k zku).2.2.1.length:=by unfold za4;rw[que,zfq];simp[fsum]
  rw[e];unfold ziu;split
  ·dsimp only;omega
  ·have a:fsum (za4 ((zgs (l.take k)).1++[l.getD k zku]))=fsum (za4 (zgs (l.take k)).1)+(l.getD k zku).2.2.1.length:=by
    unfold za4;rw[que,zfq];simp[fsum]
   dsimp only;rw[a];omega
theorem qdj{t:Int}{l:List zab}{b:List Nat}(h:zi7 t l=some b):b.length<=20+51*l.length+fsum (za4 l):=by
 unfold zi7 at h;split at h
 ·cases h
 ·rename_i V c
  split at h
  ·rename_i d
   injection h with h;have i:=(zlf l).len;have f:=zlg l;have e:=qdi l l.length (qq0 _);rw[quw] at e;have j:V.length<=21*(zgs l).1.length+fsum (za4 (zgs l).1):=by rw[<-(plO_iff.1 c).2];exact qdh (plOk_iff.1 (plO_iff.1 c).1).2
   have k:V.length<=4300000000:=by rw[<-(plO_iff.1 c).2];exact zuv (plO_iff.1 c).1
   have g:=z3z (zjn d) (by omega);have a:=zae (n:=(zgs l).1.length) (by omega);have b:=zae (n:=V.length) (by omega);rw[<-h];simp only[qrp];omega
  ·cases h
theorem qia{t e:Int}{l:List zab}{b:List Nat}(f:∀c∈l,zaj c)(h:zez t e l=some b):b.length<=30+536*l.length+fsum (za4 l):=by
 have a:=zq2 h;have p:=(plOk_iff.1 a).1.2.2;unfold zez at h;split at h
 ·have:=qdh (plOk_iff.1 a).2
  rw[<-(plO_iff.1 h).2];omega
 ·split at h
  ·have:=qdj h
   omega
  ·try rw[if_pos a] at h
   split at h
   ·injection h with h
    have:=z3z (zjp f) (by unfold ze7;rw[qtl];exact p);rw[show(ze7 l).length=l.length by unfold ze7;rw[qtl]] at this;rw[<-h];omega
   ·split at h
    ·split at h
     ·rename_i q
      obtain⟨d,k⟩:=zvg a q;unfold encPts at h;split at h
      ·rename_i x y g r
       have i:=zvu d g;have j:=zvu k r;have u:=zis d g;rw[zhd] at i j;have z:(xsV l).length=l.length:=by unfold xsV;rw[qtl]
       have A:(ysV l).length=l.length:=by unfold ysV;rw[qtl]
       have s:=zae (n:=x.length) (by omega);injection h with h;rw[<-h,qrp,qrp];omega
      ·cases h
     ·have:=zvu (z28 f) h
      rw[show(zfx l).length=l.length by unfold zfx;rw[qtl]] at this;omega
    ·unfold zz6 at h
     split at h
     ·rename_i o
      obtain⟨v,m,w⟩:=(zfe _).1 o;have:=zux [] (za4 l) m;rw[show(za4 l).length=l.length by unfold za4;rw[qtl]] at this;injection h with h;rw[<-h];omega
     ·cases h
theorem qib{t e:Int}{l:List zab}(d:zjk t l=true)(h:fsum (za4 l)<=16777216):∃b,zez t e l=some b:=by
 obtain⟨⟨j,k,f⟩,i⟩:=plOk_iff.1 d;have n:∃b,plO t l=some b:=⟨_,plO_iff.2 ⟨d,rfl⟩⟩;unfold zez;split
 ·exact n
 ·split
  ·have m:zjk t (zgs l).1=true:=plOk_iff.2 ⟨⟨j,k,qqs (zlg l) f⟩,fun c g=>i c ((zmd l c).1 g)⟩
   unfold zi7;rw[plO_iff.2 ⟨m,rfl⟩];dsimp only;rw[if_pos f];exact⟨_,rfl⟩
  ·try rw[if_pos d]
   split
   ·exact⟨_,rfl⟩
   ·split
    ·split
     ·obtain⟨a,o⟩:=zm4 (l:=zkx 0 (xsV l)) (by rw[zhd];unfold xsV;rw[qtl];exact f)
      obtain⟨b,p⟩:=zm4 (l:=zkx 0 (ysV l)) (by rw[zhd];unfold ysV;rw[qtl];exact f);unfold encPts;rw[o,p];exact⟨_,rfl⟩
     ·exact zm4 (by unfold zfx;rw[qtl];exact f)
    ·unfold zz6
     rw[if_pos ((zfe _).2 ⟨by unfold za4;rw[qtl];exact f,fun s h=>by obtain⟨c,g,rfl⟩:=qqu.1 h;exact zgg (i c g),h⟩)];exact⟨_,rfl⟩
theorem qic(l:List zab):fsum (za4 (zcc l))<=fsum (za4 l):=by
 unfold zcc;induction l with
 |nil=>simp[za4,fsum]
 |cons c l b=>
  have e:fsum (za4 (c::l))=c.2.2.1.length+fsum (za4 l):=by unfold za4;rw[qrj,zet]
  rw[List.filter_cons];split
  ·have a:fsum (za4 (c::l.filter fun c=> !c.1))=c.2.2.1.length+fsum (za4 (l.filter fun c=> !c.1)):=by unfold za4;rw[qrj,zet]
   rw[e,a];omega
  ·rw[e]
   omega
theorem qmb{t:Int}{nu:Bool}{e:Int}{l:List zab}(m:0<=t/\t<=3)(j:zq1 t e)(r:l.length<=65536)(k:∀c∈l,zad c t nu=true)(p:∀c∈l,zaj c)(x:fsum (za4 l)<=16777216):
 (pgE t nu e l).1=0/\(pgE t nu e l).2.length<=60+538*l.length+fsum (za4 l):=by
 have a:=z0f m r k;have u:=zph l;have w:=qic l;have f:∃b,zez t (encOf t e l) (zcc l)=some b:=by
  unfold encOf;split
  ·exact(zq3 a).2
  ·rename_i g
   rcases j with h|h
   ·exact absurd h g
   ·exact qib a (by omega)
 obtain⟨d,f⟩:=f;have q:=qia (zjq p) f;have s:(zcb l).length<=l.length+1:=by unfold zcb;rw[za0,zff];omega
 have v:=zae (n:=l.length) (by omega);unfold pgE;rw[if_neg (by
  rintro(h|⟨o,i⟩)
  ·exact h m
  ·rcases j with h|h
   ·exact o h
   ·rw[h] at i;cases i),if_neg (by omega),if_pos (qs9.2 k),f]
 refine⟨rfl,?_⟩;simp only[qr1,qrp];split
 ·omega
 ·simp only[qub]
  omega
end Go.Proofs.Y
