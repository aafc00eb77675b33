/- Merged. -/
import Derived.Lib.Bytealg
import Derived.Test.YtmgfkpnghlmheaaGreatBun8
set_option maxHeartbeats 2000000
namespace Go.Hm
open Go Go.RowKit
def qbc(a b:List Nat):Int:=Lib.compareBytes (a.map UInt8.ofNat) (b.map UInt8.ofNat)
def z3q(a b:Bool):Int:=if a&&b then 0 else if a then-1 else 1
def qhd(t:Int)(a b:zab):Int:=if a.1||b.1 then z3q a.1 b.1 else if t=0\/t=1 then zib a.2.1 b.2.1 else if t=2 then qbc a.2.2.1 b.2.2.1 else 0
end Go.Hm
namespace Go.Proofs.Y
open Go.RowKit Go.Hm
set_option maxRecDepth 100000 in
theorem bstrCmp_any{w:World}{a b:List Nat}:Calls Tryz.prog 199 #[.string (zad a),.string (zad b)] w (zdw (.int .i64 (qbc a b)) w):=by
 go_enter Tryz.func199,Tryz.ntmps199
 go_wp2
 rw[run_callFunc_extern Tryz.func219 (by kernel_rfl) (by kernel_rfl) (by kernel_rfl) (e:=Extern.BytealgCompare.compare) (by kernel_rfl),Lib.run_compareString];simp only[Result.andThen];rw[Oper.upon_value];go_wp2
 go_ret
 exact⟨rfl,rfl⟩
set_option maxRecDepth 100000 in
theorem strCmp_any{w:World}{a b:List Nat}:Calls Tryz.prog 176 #[.string (zad a),.string (zad b)] w (zdw (.int .i64 (qbc a b)) w):=by
 go_enter Tryz.func176,Tryz.ntmps176
 go_wp2_with (go_at_call 199;refine bstrCmp_any.mono ?_;rintro e w' ⟨rfl,rfl⟩)
 go_ret
 exact⟨rfl,rfl⟩
set_option maxRecDepth 100000 in
theorem cmpNulls_any{w:World}{a b:Bool}{n m:Int}{s r:ByteArray}{x y x2 y2:Int}:
 Calls Tryz.prog 174 #[.agg #[.bool a,.int .i64 n,.string s,.int .i64 x,.int .i64 y],.agg #[.bool b,.int .i64 m,.string r,.int .i64 x2,.int .i64 y2]] w (zap (.int .i64 (z3q a b)) w):=by
 have B0:=Blk.new w 61 #[.bool a,.int .i64 n,.string s,.int .i64 x,.int .i64 y];have B1:=Blk.new (w.alloc (.cells #[.bool a,.int .i64 n,.string s,.int .i64 x,.int .i64 y] 61)) 61 #[.bool b,.int .i64 m,.string r,.int .i64 x2,.int .i64 y2];obtain⟨x0,_⟩:=zcl (B0.alloc (.cells #[.bool b,.int .i64 m,.string r,.int .i64 x2,.int .i64 y2] 61));obtain⟨y0,_⟩:=zcl B1;clear B0 B1;go_enter Tryz.func174,Tryz.ntmps174
 cases a<;> cases b;all_goals
  go_wp2
  go_ret
  exact⟨rfl,zw1 w _ _⟩
set_option maxRecDepth 100000 in
theorem zxc{w:World}{t:Int}{a b:Bool}{n m:Int}{s r:List Nat}{x y x2 y2:Int}(h3: ¬(t=3/\a=false/\b=false)):
 Calls Tryz.prog 152 #[.int .i64 t,.agg #[.bool a,.int .i64 n,.string (zad s),.int .i64 x,.int .i64 y],.agg #[.bool b,.int .i64 m,.string (zad r),.int .i64 x2,.int .i64 y2]] w (zap (.int .i64 (qhd t (a,n,s,x,y) (b,m,r,x2,y2))) w):=by
 have B0:=Blk.new w 61 #[.bool a,.int .i64 n,.string (zad s),.int .i64 x,.int .i64 y];have B1:=Blk.new (w.alloc (.cells #[.bool a,.int .i64 n,.string (zad s),.int .i64 x,.int .i64 y] 61)) 61 #[.bool b,.int .i64 m,.string (zad r),.int .i64 x2,.int .i64 y2];obtain⟨x0,x1,x2',x3,x4⟩:=zcl (B0.alloc (.cells #[.bool b,.int .i64 m,.string (zad r),.int .i64 x2,.int .i64 y2] 61));obtain⟨y0,y1,y2',y3,y4⟩:=zcl B1;generalize hO:qhd t (a,n,s,x,y) (b,m,r,x2,y2)=O;have HO:=Hz hO;have H3:=Hz h3;clear B0 B1 hO h3;cases a<;> cases b
 case' false.false=>have h3: ¬t=3:=fun e=>H3.out ⟨e,rfl,rfl⟩
 all_goals
  clear H3;go_enter Tryz.func152,Tryz.ntmps152
  go_wp2_with (first
   |(go_at_call 174;refine cmpNulls_any.mono ?_;rintro e w' ⟨rfl,b1⟩)
   |(go_at_call 175;refine cmpI_any.mono ?_;rintro e w' ⟨rfl,rfl⟩)
   |(go_at_call 176;refine strCmp_any.mono ?_;rintro e w' ⟨rfl,rfl⟩))
 all_goals go_ret
 all_goals try refine⟨?_,zw1 w _ _⟩
 all_goals try refine⟨?_,New.trans (zw1 w _ _) (by assumption)⟩
 all_goals
  rw[<-HO.out];clear x0 x1 x2' x3 x4 y0 y1 y2' y3 y4 HO;simp_all[qhd]
end Go.Proofs.Y
namespace Go.Hm
open Go Go.RowKit
def zji(t:Int)(a b:zab):Int:=if a.1||b.1 then z3q a.1 b.1 else if t=0\/t=1 then zib a.2.1 b.2.1 else if t=2 then qbc a.2.2.1 b.2.2.1 else if t=3 then cmpP a.2.2.2.1 a.2.2.2.2 b.2.2.2.1 b.2.2.2.2 else 0
theorem qhg{t:Int}{a b:zab}(h: ¬(t=3/\a.1=false/\b.1=false)):zji t a b=qhd t a b:=by
 unfold zji qhd;by_cases h1:(a.1||b.1)=true
 ·rw[if_pos h1,if_pos h1]
 ·rw[if_neg h1,if_neg h1]
  have h3: ¬t=3:=fun e=>h ⟨e,by simp_all,by simp_all⟩
  simp[h3]
def qfu(x y u v:Int):Prop:=(-2097152<=x/\x<=2097152)/\(-2097152<=y/\y<=2097152)/\(-2097152<=u/\u<=2097152)/\(-2097152<=v/\v<=2097152)
end Go.Hm
namespace Go.Proofs.Y
open Go.RowKit Go.Hm
set_option maxRecDepth 100000 in
theorem zus{w:World}{t:Int}{a b:Bool}{n m:Int}{s r:List Nat}{x y x2 y2:Int}(hp:qfu x y x2 y2):
 Calls Tryz.prog 152 #[.int .i64 t,.agg #[.bool a,.int .i64 n,.string (zad s),.int .i64 x,.int .i64 y],.agg #[.bool b,.int .i64 m,.string (zad r),.int .i64 x2,.int .i64 y2]] w (zap (.int .i64 (zji t (a,n,s,x,y) (b,m,r,x2,y2))) w):=by
 by_cases h3:t=3/\a=false/\b=false
 ·obtain⟨rfl,rfl,rfl⟩:=h3
  have hO:zji 3 (false,n,s,x,y) (false,m,r,x2,y2)=cmpP x y x2 y2:=by simp[zji]
  rw[hO];have P:=Hz (fun(W:World)=>zur (w:=W) hp.1 hp.2.1 hp.2.2.1 hp.2.2.2);have B0:=Blk.new w 61 #[.bool false,.int .i64 n,.string (zad s),.int .i64 x,.int .i64 y];have B1:=Blk.new (w.alloc (.cells #[.bool false,.int .i64 n,.string (zad s),.int .i64 x,.int .i64 y] 61)) 61 #[.bool false,.int .i64 m,.string (zad r),.int .i64 x2,.int .i64 y2];obtain⟨x0,x1,x2',x3,x4⟩:=zcl (B0.alloc (.cells #[.bool false,.int .i64 m,.string (zad r),.int .i64 x2,.int .i64 y2] 61));obtain⟨y0,y1,y2',y3,y4⟩:=zcl B1;clear B0 B1 hO hp;go_enter Tryz.func152,Tryz.ntmps152
  go_wp2_with (go_at_call 177;refine(P.out _).mono ?_;rintro e w' ⟨rfl,b1⟩)
  go_ret
  exact⟨rfl,New.trans (zw1 w _ _) b1⟩
 ·rw[qhg h3]
  exact zxc h3
end Go.Proofs.Y
namespace Go.Hm
open Go Go.RowKit
theorem qdw:∀a b:List UInt8,Lib.compareBytes b a= -Lib.compareBytes a b
 | [],[]=>by simp[Lib.compareBytes]
 | [],_::_=>by simp[Lib.compareBytes]
 |_::_,[]=>by simp[Lib.compareBytes]
 |x::a,y::b=>by
  have ih:=qdw a b;unfold Lib.compareBytes;by_cases h1:x<y
  ·have h2: ¬y<x:=fun h=>UInt8.lt_irrefl _ (UInt8.lt_trans h h1)
   rw[if_neg h2,if_pos h1,if_pos h1];rfl
  ·by_cases h2:y<x
   ·rw[if_pos h2,if_neg h1,if_pos h2]
   ·rw[if_neg h2,if_neg h1,if_neg h1,if_neg h2,ih]
theorem z50:∀a b:List UInt8,Lib.compareBytes a b=0↔a=b
 | [],[]=>by simp[Lib.compareBytes]
 | [],_::_=>by simp[Lib.compareBytes]
 |_::_,[]=>by simp[Lib.compareBytes]
 |x::a,y::b=>by
  have ih:=z50 a b;unfold Lib.compareBytes;by_cases h1:x<y
  ·have hne:x≠y:=by rintro rfl;exact UInt8.lt_irrefl _ h1
   rw[if_pos h1];simp[hne]
  ·by_cases h2:y<x
   ·have hne:x≠y:=by rintro rfl;exact h1 h2
    rw[if_neg h1,if_pos h2];simp[hne]
   ·have he:x=y:=UInt8.le_antisymm (UInt8.not_lt.1 h2) (UInt8.not_lt.1 h1)
    subst he;rw[if_neg h1,if_neg h1,ih];simp
theorem zzj:∀a b c:List UInt8,Lib.compareBytes a b<=0->Lib.compareBytes b c<=0->Lib.compareBytes a c<=0
 | [],b,[]=>by simp[Lib.compareBytes]
 | [],b,_::_=>by simp[Lib.compareBytes]
 |_::_,[],c=>by simp[Lib.compareBytes]
 |_::_,_::_,[]=>by simp[Lib.compareBytes]
 |x::a,y::b,z::c=>by
  have ih:=zzj a b c;unfold Lib.compareBytes;intro h1 h2;by_cases xz:x<z
  ·rw[if_pos xz];decide
  ·rw[if_neg xz]
   by_cases xy:x<y
   ·have yz: ¬y<z:=fun h=>xz (UInt8.lt_trans xy h)
    rw[if_neg yz] at h2;by_cases zy:z<y
    ·rw[if_pos zy] at h2;omega
    ·have he:y=z:=UInt8.le_antisymm (UInt8.not_lt.1 zy) (UInt8.not_lt.1 yz)
     exact absurd (he▸xy) xz
   ·rw[if_neg xy] at h1
    by_cases yx:y<x
    ·rw[if_pos yx] at h1;omega
    ·rw[if_neg yx] at h1
     have he:x=y:=UInt8.le_antisymm (UInt8.not_lt.1 yx) (UInt8.not_lt.1 xy);subst he;rw[if_neg xz] at h2;by_cases zx:z<x
     ·rw[if_pos zx] at h2;omega
     ·rw[if_neg zx] at h2⊢
      exact ih h1 h2
theorem qbj{a b:Bool}(h:(a||b)=true):z3q b a= -z3q a b:=by cases a<;> cases b<;> simp_all[z3q]
theorem znf(t:Int)(a b:zab):zji t b a= -zji t a b:=by
 unfold zji;by_cases h:(a.1||b.1)=true
 ·have h':(b.1||a.1)=true:=by rw[Bool.or_comm];exact h
  rw[if_pos h',if_pos h,qbj h]
 ·have h': ¬(b.1||a.1)=true:=by rw[Bool.or_comm];exact h
  rw[if_neg h',if_neg h,zne a.2.1,qbi a.2.2.2.1,qbc,qbc,qdw];split
  ·rfl
  ·split
   ·rfl
   ·split
    ·rfl
    ·rfl
theorem zq1:∀{a b:List Nat},(∀z∈a,z<256)->(∀z∈b,z<256)->a.map UInt8.ofNat=b.map UInt8.ofNat->a=b
 | [],[],_,_,_=>rfl
 | [],_::_,_,_,h=>by simp at h
 |_::_,[],_,_,h=>by simp at h
 |x::a,y::b,ha,hb,h=>by
  rw[List.map_cons,List.map_cons,List.cons.injEq] at h;have e1:x=y:=by have:=congrArg UInt8.toNat h.1;rw[UInt8.toNat_ofNat',UInt8.toNat_ofNat',Nat.mod_eq_of_lt (ha x (by simp)),Nat.mod_eq_of_lt (hb y (by simp))] at this;exact this
  rw[e1,zq1 (fun z hz=>ha z (by simp[hz])) (fun z hz=>hb z (by simp[hz])) h.2]
theorem z51{t:Int}{nu:Bool}{a b:zab}(ha:zac a t nu=true)(hb:zac b t nu=true)(fa:∀z∈a.2.2.1,z<256)(fb:∀z∈b.2.2.1,z<256):zji t a b=0↔a=b:=by
 obtain⟨na,ia,sa,xa,ya⟩:=a;obtain⟨nb,ib,sb,xb,yb⟩:=b;simp only at fa fb;have ht:qbc sa sb=0↔sa=sb:=by rw[qbc,z50];exact⟨zq1 fa fb,fun h=>by rw[h]⟩
 unfold zac at ha hb;unfold zji;cases na<;> cases nb
 ·simp only[Bool.or_self,Bool.false_eq_true,if_false] at ha hb⊢
  by_cases h0:t=0
  ·subst h0
   simp at ha hb;simp[cmpI_zero,ha,hb]
  ·by_cases h1:t=1
   ·subst h1
    simp at ha hb;simp[cmpI_zero,ha,hb]
   ·by_cases h2:t=2
    ·subst h2
     simp at ha hb;simp[ht,ha,hb]
    ·by_cases h3:t=3
     ·subst h3
      simp at ha hb;simp[z5y,ha,hb]
     ·simp[h0,h1,h2,h3] at ha
 ·simp[z3q]
 ·simp[z3q]
 ·simp at ha hb
  simp[z3q,ha,hb]
theorem zi6{t:Int}{a b c:zab}(h1:zji t a b<=0)(h2:zji t b c<=0):zji t a c<=0:=by
 obtain⟨na,ia,sa,xa,ya⟩:=a;obtain⟨nb,ib,sb,xb,yb⟩:=b;obtain⟨nc,ic,sc,xc,yc⟩:=c;unfold zji at*;cases na
 ·cases nb
  ·cases nc
   ·simp only[Bool.or_self,Bool.false_eq_true,if_false] at h1 h2⊢
    split
    ·rename_i ht
     rw[if_pos ht,zop] at h1 h2;rw[zop];omega
    ·rename_i ht
     rw[if_neg ht] at h1 h2;split
     ·rename_i ht
      rw[if_pos ht,qbc] at h1 h2;exact zzj _ _ _ h1 h2
     ·rename_i ht
      rw[if_neg ht] at h1 h2;split
      ·rename_i ht
       rw[if_pos ht,z5z] at h1 h2;rw[z5z];generalize xa*xa+ya*ya=n1 at*;generalize xb*xb+yb*yb=n2 at*;generalize xc*xc+yc*yc=n3 at*;omega
      ·omega
   ·simp[z3q] at h2
  ·simp[z3q] at h1
 ·cases nc<;> simp[z3q]
theorem zi7{t:Int}{nu:Bool}{a:zab}(h:zac a t nu=true):(-1048576<=a.2.2.2.1/\a.2.2.2.1<=1048576)/\ -1048576<=a.2.2.2.2/\a.2.2.2.2<=1048576:=by
 obtain⟨na,ia,sa,xa,ya⟩:=a;unfold zac at h;show(-1048576<=xa/\xa<=1048576)/\ -1048576<=ya/\ya<=1048576;cases na
 ·simp only[Bool.false_eq_true,if_false] at h
  by_cases h0:t=0
  ·subst h0;simp at h;omega
  ·by_cases h1:t=1
   ·subst h1;simp at h;omega
   ·by_cases h2:t=2
    ·subst h2;simp at h;omega
    ·by_cases h3:t=3
     ·subst h3;simp[inBox] at h;omega
     ·simp[h0,h1,h2,h3] at h
 ·simp at h;omega
open Go Go.RowKit
abbrev zc9:=Int × Bool × zab × zab
def zbw:zc9:=(0,false,zaz,zaz)
def zb8(s:zc9):List Value:= .int .i64 s.1:: .bool s.2.1::(zam s.2.2.1++zam s.2.2.2)
def nullsL(l:List zab):Nat:=(l.filter fun c=>c.1).length
structure IsStat(t:Int)(l:List zab)(s:zc9):Prop where
 nulls:s.1=(nullsL l:Int)
 has:s.2.1=true↔ ∃c∈l,c.1=false
 none:s.2.1=false->s.2.2.1=zaz/\s.2.2.2=zaz
 least:s.2.1=true->(s.2.2.1∈l/\s.2.2.1.1=false)/\ ∀c∈l,c.1=false->zji t s.2.2.1 c<=0
 most:s.2.1=true->(s.2.2.2∈l/\s.2.2.2.1=false)/\ ∀c∈l,c.1=false->zji t c s.2.2.2<=0
theorem zut(t:Int)(c:zab):zji t c c=0:=by have:=znf t c c;omega
theorem zst(a b:List zab):nullsL (a++b)=nullsL a+nullsL b:=by unfold nullsL;rw[List.filter_append,List.length_append]
theorem zil(l:List zab):nullsL l<=l.length:=List.length_filter_le _ _
def zj4(c:zab):zc9:=if c.1 then(1,false,zaz,zaz) else(0,true,c,c)
theorem zq2(t:Int):IsStat t [] zbw:=⟨rfl,by simp[zbw],fun _=>⟨rfl,rfl⟩,fun h=>by simp[zbw] at h,fun h=>by simp[zbw] at h⟩
theorem zq3(t:Int)(c:zab):IsStat t [c] (zj4 c):=by
 have h0:=zut t c;unfold zj4;cases hc:c.1 with
 |true=>
  rw[if_pos rfl];exact⟨by simp[nullsL,hc],by simp[hc],fun _=>⟨rfl,rfl⟩,fun h=>by simp at h,fun h=>by simp at h⟩
 |false=>
  rw[if_neg (by simp)];refine⟨by simp[nullsL,hc],by simp[hc],fun h=>by simp at h,fun _=>⟨⟨by simp,hc⟩,fun d hd _=>?_⟩,fun _=>⟨⟨by simp,hc⟩,fun d hd _=>?_⟩⟩
  ·rw[List.mem_singleton.1 hd]
   show zji t c c<=0;omega
  ·rw[List.mem_singleton.1 hd]
   show zji t c c<=0;omega
def zmj(t:Int)(a b:zc9):zc9:=
 if a.2.1 then(a.1+b.1,true,if b.2.1&&decide (zji t b.2.2.1 a.2.2.1<0) then b.2.2.1 else a.2.2.1,if b.2.1&&decide (0<zji t b.2.2.2 a.2.2.2) then b.2.2.2 else a.2.2.2)
 else if b.2.1 then(a.1+b.1,true,b.2.2.1,b.2.2.2) else(a.1+b.1,false,zaz,zaz)
theorem IsStat.merge{t:Int}{a b:List zab}{x y:zc9}(h:IsStat t a x)(k:IsStat t b y):IsStat t (a++b) (zmj t x y):=by
 obtain⟨xn,xh,x1,x2⟩:=x;obtain⟨yn,yh,y1,y2⟩:=y;obtain⟨h1,h2,h3,h4,h5⟩:=h;obtain⟨k1,k2,k3,k4,k5⟩:=k;dsimp only at*;have hn:xn+yn=(nullsL (a++b):Int):=by rw[zst];omega
 have hex:(∃c∈a++b,c.1=false)↔(xh=true\/yh=true):=by
  rw[h2,k2];constructor
  ·rintro⟨c,hc,e⟩
   rcases List.mem_append.1 hc with hc|hc
   ·exact .inl ⟨c,hc,e⟩
   ·exact .inr ⟨c,hc,e⟩
  ·rintro(⟨c,hc,e⟩|⟨c,hc,e⟩)
   ·exact⟨c,List.mem_append_left _ hc,e⟩
   ·exact⟨c,List.mem_append_right _ hc,e⟩
 unfold zmj;dsimp only;cases xh with
 |true=>
  rw[if_pos rfl];obtain⟨⟨p1,p2⟩,p3⟩:=h4 rfl;obtain⟨⟨q1,q2⟩,q3⟩:=h5 rfl;cases yh with
  |false=>
   have hno:∀c∈b,c.1=false->False:=fun c hc e=>by have:=k2.2 ⟨c,hc,e⟩;simp at this
   simp only[Bool.false_and,Bool.false_eq_true,if_false];refine⟨hn,?_,?_,?_,?_⟩
   ·rw[hex];simp
   ·intro h;simp at h
   ·intro _
    exact⟨⟨List.mem_append_left _ p1,p2⟩,fun c hc e=>by
     rcases List.mem_append.1 hc with hc|hc
     ·exact p3 c hc e
     ·exact(hno c hc e).elim⟩
   ·intro _
    exact⟨⟨List.mem_append_left _ q1,q2⟩,fun c hc e=>by
     rcases List.mem_append.1 hc with hc|hc
     ·exact q3 c hc e
     ·exact(hno c hc e).elim⟩
  |true=>
   obtain⟨⟨u1,u2⟩,u3⟩:=k4 rfl;obtain⟨⟨v1,v2⟩,v3⟩:=k5 rfl;simp only[Bool.true_and,decide_eq_true_eq];refine⟨hn,?_,?_,?_,?_⟩
   ·rw[hex];simp
   ·intro h;simp at h
   ·intro _
    dsimp only;by_cases hlt:zji t y1 x1<0
    ·rw[if_pos hlt]
     exact⟨⟨List.mem_append_right _ u1,u2⟩,fun c hc e=>by
      rcases List.mem_append.1 hc with hc|hc
      ·exact zi6 (by omega) (p3 c hc e)
      ·exact u3 c hc e⟩
    ·rw[if_neg hlt]
     have hg:zji t x1 y1<=0:=by rw[znf];omega
     exact⟨⟨List.mem_append_left _ p1,p2⟩,fun c hc e=>by
      rcases List.mem_append.1 hc with hc|hc
      ·exact p3 c hc e
      ·exact zi6 hg (u3 c hc e)⟩
   ·intro _
    dsimp only;by_cases hlt:0<zji t y2 x2
    ·rw[if_pos hlt]
     have hg:zji t x2 y2<=0:=by rw[znf];omega
     exact⟨⟨List.mem_append_right _ v1,v2⟩,fun c hc e=>by
      rcases List.mem_append.1 hc with hc|hc
      ·exact zi6 (q3 c hc e) hg
      ·exact v3 c hc e⟩
    ·rw[if_neg hlt]
     exact⟨⟨List.mem_append_left _ q1,q2⟩,fun c hc e=>by
      rcases List.mem_append.1 hc with hc|hc
      ·exact q3 c hc e
      ·exact zi6 (v3 c hc e) (by omega)⟩
 |false=>
  have hno:∀c∈a,c.1=false->False:=fun c hc e=>by have:=h2.2 ⟨c,hc,e⟩;simp at this
  rw[if_neg (by simp)];cases yh with
  |false=>
   rw[if_neg (by simp)];exact⟨hn,by rw[hex];simp,fun _=>⟨rfl,rfl⟩,fun h=>by simp at h,fun h=>by simp at h⟩
  |true=>
   rw[if_pos rfl];obtain⟨⟨u1,u2⟩,u3⟩:=k4 rfl;obtain⟨⟨v1,v2⟩,v3⟩:=k5 rfl;refine⟨hn,by rw[hex];simp,fun h=>by simp at h,?_,?_⟩
   ·intro _
    exact⟨⟨List.mem_append_right _ u1,u2⟩,fun c hc e=>by
     rcases List.mem_append.1 hc with hc|hc
     ·exact(hno c hc e).elim
     ·exact u3 c hc e⟩
   ·intro _
    exact⟨⟨List.mem_append_right _ v1,v2⟩,fun c hc e=>by
     rcases List.mem_append.1 hc with hc|hc
     ·exact(hno c hc e).elim
     ·exact v3 c hc e⟩
theorem IsStat.uniq{t:Int}{l:List zab}(hr:∀c∈l,zac c t true=true)(h8:∀c∈l,∀z∈c.2.2.1,z<256){x y:zc9}(h:IsStat t l x)(k:IsStat t l y):x=y:=by
 obtain⟨xn,xh,x1,x2⟩:=x;obtain⟨yn,yh,y1,y2⟩:=y;obtain⟨h1,h2,h3,h4,h5⟩:=h;obtain⟨k1,k2,k3,k4,k5⟩:=k;dsimp only at*;have hh:xh=yh:=by rw[Bool.eq_iff_iff,h2,k2]
 subst hh;have key:∀{a b:zab},a∈l->b∈l->zji t a b<=0->zji t b a<=0->a=b:=fun {a b} ha hb p q=>by rw[znf] at q;exact(z51 (hr a ha) (hr b hb) (h8 a ha) (h8 b hb)).1 (by omega)
 rw[show xn=yn by omega];cases xh with
 |false=>
  rw[(h3 rfl).1,(h3 rfl).2,(k3 rfl).1,(k3 rfl).2]
 |true=>
  obtain⟨⟨p1,p2⟩,p3⟩:=h4 rfl;obtain⟨⟨q1,q2⟩,q3⟩:=h5 rfl;obtain⟨⟨u1,u2⟩,u3⟩:=k4 rfl;obtain⟨⟨v1,v2⟩,v3⟩:=k5 rfl;rw[key p1 u1 (p3 _ u1 u2) (u3 _ p1 p2),key q1 v1 (v3 _ q1 q2) (q3 _ v1 v2)]
def zb5(t:Int)(s:zc9):Bool:=
 if t<0\/3<t\/s.1<0\/65536<s.1 then false
 else if s.2.1 then zac s.2.2.1 t false&&(zac s.2.2.2 t false&&decide (zji t s.2.2.1 s.2.2.2<=0))
 else decide (s.2.2.1=zaz)&&decide (s.2.2.2=zaz)
theorem zj5{c:zab}{t:Int}(h:zac c t true=true)(hc:c.1=false):zac c t false=true:=by unfold zac at h⊢;rw[hc] at h⊢;simpa using h
theorem IsStat.right{t:Int}{l:List zab}{s:zc9}(h:IsStat t l s)(hr:∀c∈l,zac c t true=true)(ht:0<=t/\t<=3)(hl:l.length<=65536):zb5 t s=true:=by
 unfold zb5;have hn:=zil l;have:=h.nulls;rw[if_neg (by omega)];cases hh:s.2.1 with
 |false=>
  obtain⟨e1,e2⟩:=h.none hh;simp[e1,e2]
 |true=>
  obtain⟨⟨p1,p2⟩,p3⟩:=h.least hh;obtain⟨⟨q1,q2⟩,q3⟩:=h.most hh;simp[zj5 (hr _ p1) p2,zj5 (hr _ q1) q2,p3 _ q1 q2]
open Go Go.RowKit
def zb4(s:zc9):Value:= .agg (zb8 s).toArray
end Go.Hm
namespace Go.Proofs.Y
open Go.RowKit Go.Hm
set_option maxRecDepth 100000 in
theorem z1x{w:World}(c:zab):Calls Tryz.prog 129 #[zcz c] w (zap (zb4 (zj4 c)) w):=by
 obtain⟨b,n,s,x,y⟩:=c;cases b with
 |true=>
  show Calls Tryz.prog 129 #[.agg #[.bool true,.int .i64 n,.string (zad s),.int .i64 x,.int .i64 y]] w (zap (zb4 (1,false,zaz,zaz)) w);go_enter Tryz.func129,Tryz.ntmps129
  go_wp2
  exact bodyPost_ret (v:=zb4 (1,false,zaz,zaz)) (by simp[results,Tryz.results129,go_sem,zb4,zb8,zam,zaz,show zad []=⟨#[]⟩ from rfl]) rfl ⟨rfl,zw1 w _ _⟩
 |false=>
  show Calls Tryz.prog 129 #[.agg #[.bool false,.int .i64 n,.string (zad s),.int .i64 x,.int .i64 y]] w (zap (zb4 (0,true,(false,n,s,x,y),(false,n,s,x,y))) w);have B0:=Blk.new w 61 #[.bool false,.int .i64 n,.string (zad s),.int .i64 x,.int .i64 y];obtain⟨x0,x1,x2,x3,x4⟩:=zcl (B0.alloc (.cells #[.int .i64 0,.bool false,.bool false,.int .i64 0,.string ⟨#[]⟩,.int .i64 0,.int .i64 0,.bool false,.int .i64 0,.string ⟨#[]⟩,.int .i64 0,.int .i64 0] 63));clear B0;go_enter Tryz.func129,Tryz.ntmps129
  go_wp2
  exact bodyPost_ret (v:=zb4 (0,true,(false,n,s,x,y),(false,n,s,x,y))) (by simp[results,Tryz.results129,go_sem,zb4,zb8,zam]) rfl ⟨rfl,zw1 w _ _⟩
end Go.Proofs.Y
