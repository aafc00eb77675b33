import Derived.LaidMore
import Derived.Stop.Joined
import Derived.Test.YtbahbnbpmfgimaaGreatDoorBun4
set_option maxHeartbeats 4000000
set_option maxRecDepth 100000
namespace Go.Hm
open Go.RowKit Go.WideShapes Go.ChangeShapes
theorem zqa{C:Checked}{os:Os}{f:FuncId}{g:Func}{s:ChangeSpec}{tb:TypeId}{H:Type}{enc:TypeId × Value->H}{laid:List (String × DataW Unit)}
 (J:ownKnob C.prog.godebug=none)(T:laidOutB C.prog=true)(k:os.Started)(n:C.prog.inits.idxOf? f=none)(D:C.prog.funcs[f]? =some g)
 (E:g.resultTypes= #[tb])(F:C.prog.underlying tb=some .bool)(V:∀t∈g.params.toList,C.prog.readableRec t=true/\t<C.prog.types.size)
 (G:s.vars=[])(Y:∀b:List (DataW H),b.length=g.params.size->s.fn H b={results:=[.lit (.bool true)],args:=b})
 (l:∃(w:World) (a:Tape) (i:Input),w.os=os/\(w.forCall a i).Shaped C.prog/\i.vars=[]/\Input.okWide C.prog (w.forCall a i) .any w.heap.size f i/\
  ((s.pre enc C.prog g [] false (w.forCall a i).memory i.args/\laidMetH C.prog laid (w.forCall a i).memory)/\sizedMet enc C.prog g (OpenSpec.ofChange s) false (w.forCall a i).memory i.args)/\({}:Assume).holds C.prog (lone (Frame.enter C.prog f i.args .normal) [] (w.forCall a i)))
 (c:∀(W:World) (base:Nat) (args:Array Value) (b:List (DataW H)) (o:List MemPlace),
  (∀(j:Nat) t v,g.params[j]? =some t->args[j]? =some v->Value.okWide C.prog W .any base t v)->
  DataW.TrodAll enc C.prog W 0 (fun _=>true) true g.params.toList args.toList b o->(∀p∈o,p.block<W.heap.size)->W.noneFrozen o->
  (DataW.weightsEach C.prog g.params.toList b).all (· <=reachBytes)=true->laidMetH C.prog laid W->
  Calls C.prog f args W fun e W'=>e= .returned (.bool true)/\Below W.heap.size W W'):
 ReturnsInHanded {} C os f .any (fun w args=>(s.pre enc C.prog g [] false w args/\laidMetH C.prog laid w)/\sizedMet enc C.prog g (OpenSpec.ofChange s) false w args) (s.post enc C.prog g false true false false):=by
 refine returnsInHanded_of_change_and (X:=fun w _=>laidMetH C.prog laid w) (fun _ _ _ S h=>h.of_heap S) J k n D l ?_;intro W base args b gs m y A _ x P _;have u:∀p∈m,p.block<W.heap.size:=fun p U=>A.lt p U
 obtain⟨p,q,L,M,rfl,r,_⟩:=id A;rw[G] at M;obtain⟨rfl,rfl⟩:=trodVars_none M;have I:s.plain.varTypes C.prog=[]:=by simp[ChangeSpec.plain,DataSpec.varTypes,G]
 rw[I,qra,qra] at x;simp only[qra] at u r;refine(c W base args b p y L u r x P).mono fun e W' ⟨R,Q⟩=>⟨_,R,?_⟩
 have B:∀{z:List TypeId} {K:List Value} {b:List (DataW H)} {o:List MemPlace},DataW.TrodAll enc C.prog W 0 (fun _=>true) true z K b o->b.length=z.length:=by
  intro z;induction z with
  |nil=>intro K b o h;obtain⟨_,rfl,_⟩:=trodAll_nil h;rfl
  |cons t z Z=>intro K b o h;obtain⟨v,a0,d,N,p',q',_,rfl,_,_,O⟩:=trodAll_cons h;simp[Z O]
 exact qee T E F V G (by rw[qra];exact Y b (by simpa using B L)) A Q
end Go.Hm
namespace Go.Proofs.Y
open Go.RowKit Go.Hm
theorem zzx(w:World)(a b:Obj):New w ((w.alloc a).alloc b):=qw5 ((qwd _ _).alloc (qq0 _) _) ((qwd _ _).alloc (qq0 _) _)
theorem zsa{s:List Nat}:(zaf s).toList=[]↔s=[]:=by rw[zk8];simp
theorem zgf{w:World}{b:Bool}{n:Int}{s:List Nat}{x y:Int}{cn:List Nat}{t:Int}{nu:Bool}(r:s.length<=140737488351232):
 Calls Tryz.prog 83 #[.agg #[.bool b,.int .i64 n,.string (zaf s),.int .i64 x,.int .i64 y],.agg #[.string (zaf cn),.int .i64 t,.bool nu]] w (zap (.bool (zad (b,n,s,x,y) t nu)) w):=by
 have v:=zbq s;generalize f:zad (b,n,s,x,y) t nu=O;have d:=qwk f;have Z:=qwk (zsa (s:=s));clear f;have a:=qw1 w 75 #[.bool b,.int .i64 n,.string (zaf s),.int .i64 x,.int .i64 y];have c:=qw1 (w.alloc (.cells #[.bool b,.int .i64 n,.string (zaf s),.int .i64 x,.int .i64 y] 75)) 71 #[.string (zaf cn),.int .i64 t,.bool nu];obtain⟨g,h,i,j,k⟩:=zc3 (a.alloc (.cells #[.string (zaf cn),.int .i64 t,.bool nu] 71));obtain⟨l,m,o⟩:=zan c;clear a c;go_enter Tryz.func83,Tryz.ntmps83
 go_wp2_with (first
  |(go_at_call 107;refine(zsx x y).mono ?_;rintro e u ⟨rfl,p⟩))
 all_goals go_ret
 all_goals try refine⟨?_,zzx w _ _⟩
 all_goals try refine⟨?_,qw5 (zzx w _ _) (by assumption)⟩
 all_goals
  rw[<-d.out];have Z:=Z.out;clear g h i j k l m o d;simp_all[zad]
 ·by_cases q:n=1<;> simp[*]
 ·omega
end Go.Proofs.Y
set_option maxRecDepth 100000
namespace Go.Hm
open Go Go.RowKit
abbrev zdw:=Option Addr × Nat × List zab
def zjl(d:zdw):List Value:=[.slice d.1 d.2.2.length d.2.1]
theorem qo0{α:Type}{l:List α}(h:l.length=5):∃a b c d e,l=[a,b,c,d,e]:=by
 match l,h with
 | [a,b,c,d,e],_=>exact⟨a,b,c,d,e,rfl⟩
def CellFine(c:zab):Prop:=(c.2.2.1.length<=140737488351232/\ ∀z∈c.2.2.1,z<256)/\(-9223372036854775808<=c.2.1/\c.2.1<=9223372036854775807)/\(-9223372036854775808<=c.2.2.2.1/\c.2.2.2.1<=9223372036854775807)/\(-9223372036854775808<=c.2.2.2.2/\c.2.2.2.2<=9223372036854775807)
end Go.Hm
namespace Go.Proofs.Y
open Go.RowKit Go.Hm Go.WideShapes Go.ChangeShapes
section
variable{H:Type}{enc:TypeId × Value->H}{W:World}{base:Nat}{v:Value}{d:DataW H}{ps:List MemPlace}
theorem z9k{cs:List Value}(h:Held enc Tryz.prog W 75 cs):∃c:zab,cs=zay c/\CellFine c:=by
 have a:Tryz.prog.underlying 75=some (.struct (zdm Tryz.prog 75)):=by kernel_rfl
 have e:Tryz.prog.underlying 73=some (.struct (zdm Tryz.prog 73)):=by kernel_rfl
 obtain⟨E,F,G,I,J,rfl⟩:=qo0 (h.partLen a (n:=5) (by kernel_rfl));have u:=h.part a 0 0 1 (ft:=4) (by kernel_rfl) (by kernel_rfl);have w:=h.part a 1 1 1 (ft:=3) (by kernel_rfl) (by kernel_rfl);have z:=h.part a 2 2 1 (ft:=9) (by kernel_rfl) (by kernel_rfl);have l:=h.part a 3 3 2 (ft:=73) (by kernel_rfl) (by kernel_rfl);have A:=l.part e 0 0 1 (ft:=3) (by kernel_rfl) (by kernel_rfl);have B:=l.part e 1 1 1 (ft:=3) (by kernel_rfl) (by kernel_rfl);obtain⟨b,f⟩:=u.bool (by kernel_rfl);obtain⟨n,g,r,t⟩:=w.i64 (by kernel_rfl);obtain⟨s,i,C,D⟩:=z.string (by kernel_rfl);obtain⟨x,j,m,o⟩:=A.i64 (by kernel_rfl);obtain⟨y,k,p,q⟩:=B.i64 (by kernel_rfl);simp only[qu8,qu9,qva,qrq,qqe,and_true] at f g i j k;subst f g i j k;exact⟨(b,n,s,x,y),rfl,⟨D,C⟩,⟨r,t⟩,⟨m,o⟩,p,q⟩
theorem z4w{cs:List Value}(h:Held enc Tryz.prog W 76 cs):∃x:zdw,cs=zjl x/\(Reads W W.heap.size 5 x.1 x.2.2.length (recs zay x.2.2)/\(∀y∈x.2.2,CellFine y)/\x.2.2.length<=x.2.1/\x.2.1<=9223372036854775807/\(x.1=none->x.2.1=0)):=by
 have g:Tryz.prog.underlying 76=some (.slice 75):=by kernel_rfl
 obtain⟨A,c,l,j,k,_,m,n,o⟩:=h.recs (f:=zay) (sz:=5) (by_:=48) (Q:=CellFine) (false,0,[],0,0) g (by kernel_rfl) (by kernel_rfl) (fun _=>rfl) (by omega) (fun cs b=>z9k b);subst j;refine⟨(A,c,l),rfl,n,o,k,(show c<=9223372036854775807 by unfold reachBytes at m;omega),?_⟩;rcases h.slice g with e|⟨a,p,i,e,_⟩
 ·simp only[qqe,Value.slice.injEq,and_true] at e
  exact fun _=>e.2.2
 ·simp only[qqe,Value.slice.injEq,and_true] at e
  intro b;rw[e.1] at b;cases b
end
end Go.Proofs.Y
namespace Go.Hm
def shr:List Nat->List Nat->Nat
 |a::l,b::m=>if a=b then shr l m+1 else 0
 |_,_=>0
theorem zli:∀a b:List Nat,shr a b<=a.length
 | [],_=>by simp[shr]
 |_::_,[]=>by simp[shr]
 |a::l,b::m=>by
  simp only[shr];split
  ·have:=zli l m;simp;exact this
  ·simp
theorem zha:∀a b:List Nat,shr a b<=b.length
 | [],_=>by simp[shr]
 |_::_,[]=>by simp[shr]
 |a::l,b::m=>by
  simp only[shr];split
  ·have:=zha l m;simp;exact this
  ·simp
theorem zuw:∀a b:List Nat,a.take (shr a b)=b.take (shr a b)
 | [],_=>by simp[shr]
 |_::_,[]=>by simp[shr]
 |a::l,b::m=>by
  simp only[shr];split
  ·rename_i e;subst e;simp[zuw l m]
  ·simp
theorem qis:∀(a b:List Nat) (n:Nat),n<=a.length->n<=b.length->a.take n=b.take n->(n=a.length\/n=b.length\/ ¬a.getD n 0=b.getD n 0)->shr a b=n
 | [],_,n,c,_,_,_=>by simp at c;simp[shr,c]
 |_::_,[],n,_,d,_,_=>by simp at d;simp[shr,d]
 |a::l,b::m,0,_,_,_,h=>by
  simp only[shr];rcases h with h|h|h
  ·simp at h
  ·simp at h
  ·simp at h;rw[if_neg h]
 |a::l,b::m,n+1,c,d,e,h=>by
  simp only[qva,qqe] at e;simp only[shr];rw[if_pos e.1,qis l m n (by simpa using c) (by simpa using d) e.2 (by simpa using h)]
def fsum(l:List (List Nat)):Nat:=(l.map List.length).sum
theorem zet(s:List Nat)(l:List (List Nat)):fsum (s::l)=s.length+fsum l:=by simp[fsum]
theorem zfq(l m:List (List Nat)):fsum (l++m)=fsum l+fsum m:=by simp[fsum]
theorem zwy(l:List (List Nat))(k:Nat):fsum (l.take k)<=fsum l:=by
 conv=>rhs;rw[<-qtq k l,zfq]
 omega
def qdz(l:List (List Nat)):Bool:=decide (l.length<=65536/\(∀s∈l,s.length<=65536)/\fsum l<=16777216)
theorem zfe(l:List (List Nat)):qdz l=true↔l.length<=65536/\(∀s∈l,s.length<=65536)/\fsum l<=16777216:=by simp[qdz]
theorem qf4{l:List (List Nat)}(h:65536<l.length):qdz l=false:=by rw[qvb,Ne,zfe];omega
theorem qf5{l:List (List Nat)}{k:Nat}(a:k<l.length)(h:65536<(l.getD k []).length):qdz l=false:=by rw[qvb,Ne,zfe];rintro⟨_,b,_⟩;have:=b (l.getD k []) (by rw[qsh,qqt a];exact qrf a);omega
theorem qf6{l:List (List Nat)}{k:Nat}(h:16777216<fsum (l.take k)):qdz l=false:=by rw[qvb,Ne,zfe];rintro⟨_,_,a⟩;have:=zwy l k;omega
theorem qf7{l:List (List Nat)}(a:l.length<=65536)(b:∀s∈l,s.length<=65536)(c:fsum l<=16777216):qdz l=true:=(zfe l).2 ⟨a,b,c⟩
theorem zwz(l:List (List Nat))(s:List Nat):fsum (l++[s])=fsum l+s.length:=by simp[fsum]
def fpiece(a s:List Nat):List Nat:=vp (shr a s)++vp (s.length-shr a s)++s.drop (shr a s)
def zpb:List Nat->List (List Nat)->List Nat
 |_,[]=>[]
 |a,s::l=>fpiece a s++zpb s l
def zsb(a:List Nat)(l:List (List Nat)):List Nat:=l.getLast?.getD a
theorem z5d(a s:List Nat)(l:List (List Nat)):zsb a (l++[s])=s:=by simp[zsb]
theorem z99(a s:List Nat)(l:List (List Nat)):zpb a (l++[s])=zpb a l++fpiece (zsb a l) s:=by
 induction l generalizing a with
 |nil=>simp[zpb,zsb]
 |cons x l b=>
  rw[qr0,zpb,b x,zpb,qrc];congr 3
  cases l with
  |nil=>simp[zsb]
  |cons y l=>simp[zsb,List.getLast?_eq_some_getLast]
theorem zux(a:List Nat)(l:List (List Nat))(h:∀s∈l,s.length<=65536):(zpb a l).length<=20*l.length+fsum l:=by
 induction l generalizing a with
 |nil=>simp[zpb]
 |cons s l c=>
  have d:=c s (fun x b=>h x (by simp[b]));have e:=h s (by simp);have f:=zha a s;have g:=zae (n:=shr a s) (by omega);have i:=zae (n:=s.length-shr a s) (by omega);rw[zpb,fpiece,zet,qr1];simp only[qrp,qqw];omega
theorem zw0{Q:List Nat->Prop}{a:List Nat}(l:List (List Nat))(b:Q a)(h:∀s∈l,Q s):Q (zsb a l):=by
 unfold zsb;cases hl:l.getLast? with
 |none=>exact b
 |some x=>exact h x (List.mem_of_getLast? hl)
def zz6(l:List (List Nat)):Option (List Nat):=if qdz l then some (zpb [] l) else none
def zoy(a:List Nat)(room:Int)(S:St):List Nat × List Nat × Int × St:=
 if shr a (a.take (lenS a.length S).1++(zcv (lenS (65536-((lenS a.length S).1:Int)) (lenS a.length S).2).1 (lenS (65536-((lenS a.length S).1:Int)) (lenS a.length S).2).2).1)=(lenS a.length S).1/\
  ((a.take (lenS a.length S).1++(zcv (lenS (65536-((lenS a.length S).1:Int)) (lenS a.length S).2).1 (lenS (65536-((lenS a.length S).1:Int)) (lenS a.length S).2).2).1).length:Int)<=room then
  (a.take (lenS a.length S).1++(zcv (lenS (65536-((lenS a.length S).1:Int)) (lenS a.length S).2).1 (lenS (65536-((lenS a.length S).1:Int)) (lenS a.length S).2).2).1,
   a.take (lenS a.length S).1++(zcv (lenS (65536-((lenS a.length S).1:Int)) (lenS a.length S).2).1 (lenS (65536-((lenS a.length S).1:Int)) (lenS a.length S).2).2).1,
   room-((a.take (lenS a.length S).1++(zcv (lenS (65536-((lenS a.length S).1:Int)) (lenS a.length S).2).1 (lenS (65536-((lenS a.length S).1:Int)) (lenS a.length S).2).2).1).length:Int),
   (zcv (lenS (65536-((lenS a.length S).1:Int)) (lenS a.length S).2).1 (lenS (65536-((lenS a.length S).1:Int)) (lenS a.length S).2).2).2)
 else([],a,room,none)
theorem z5e(a:List Nat)(b:Int)(S:St)(p:S.ok):
 (zoy a b S).2.2.2=none\/ ∃s r,S=some (fpiece a s++r)/\s.length<=65536/\(s.length:Int)<=b/\zoy a b S=(s,s,b-s.length,some r):=by
 unfold zoy;split
 ·rename_i t
  obtain⟨c,d⟩:=t;rcases zbx (a.length:Int) S p with g|⟨k,q,rfl,z,_,g⟩
  ·left;simp only[g,zhu,zeh]
  ·rw[g] at c d⊢
   simp only at c d⊢;have o:St.ok (some q):=qxp fun x y=>p _ rfl x (by simp[y])
   rcases zbx (65536-(k:Int)) (some q) o with h|⟨m,f,n,A,_,h⟩
   ·left;simp only[h,zeh]
   ·rw[h] at c d⊢
    simp only at c d⊢;injection n with n;subst n;rcases zcl (m:Int) (some f) with i|⟨l,j,v,w,i⟩
    ·left;simp only[i]
    ·rw[i] at c d⊢
     simp only[qrn] at c d⊢;injection j with j;subst j;have u:k<=a.length:=by omega
     have e:(a.take k++f.take m).length=k+m:=by rw[qrp,qqx,qqx];omega
     refine .inr ⟨a.take k++f.take m,f.drop m,?_,by omega,d,rfl⟩;rw[fpiece,c,e,show k+m-k=m by omega,qtr (by rw[qqx];omega)];simp
 ·exact .inl rfl
theorem qaa(a s r:List Nat)(b:Int)(i:s.length<=65536)(g:(s.length:Int)<=b)(h:a.length<=65536):zoy a b (some (fpiece a s++r))=(s,s,b-s.length,some r):=by
 have j:=zli a s;have k:=zha a s;have c:lenS (a.length:Int) (some (fpiece a s++r))=(shr a s,some (vp (s.length-shr a s)++(s.drop (shr a s)++r))):=by rw[fpiece,qrc,qrc];exact zb9 _ _ (by omega) (by omega)
 have d:lenS (65536-(shr a s:Int)) (some (vp (s.length-shr a s)++(s.drop (shr a s)++r)))=(s.length-shr a s,some (s.drop (shr a s)++r)):=zb9 _ _ (by omega) (by omega);have e:zcv ((s.length-shr a s:Nat):Int) (some (s.drop (shr a s)++r))=(s.drop (shr a s),some r):=by have:=zea (s.drop (shr a s)) r;rwa[qqw] at this
 have f:a.take (shr a s)++s.drop (shr a s)=s:=by rw[zuw,qtq]
 unfold zoy;simp only[c,d,e,f];rw[if_pos ⟨trivial,g⟩]
def zw1:Nat->List Nat->Int->St->List (List Nat) × St
 |0,_,_,S=>([],S)
 |n+1,a,room,S=>if S=none then([],none) else
   ((zoy a room S).1::(zw1 n (zoy a room S).2.1 (zoy a room S).2.2.1 (zoy a room S).2.2.2).1,(zw1 n (zoy a room S).2.1 (zoy a room S).2.2.1 (zoy a room S).2.2.2).2)
theorem qab(n:Nat)(a:List Nat)(b:Int):(zw1 n a b none).2=none:=by cases n<;> simp[zw1]
theorem qac:∀(n:Nat) (a:List Nat) (b:Int) (S:St) (r:List Nat),S.ok->0<=b->a.length<=65536->(zw1 n a b S).2=some r->
 S=some (zpb a (zw1 n a b S).1++r)/\(zw1 n a b S).1.length=n/\(∀s∈(zw1 n a b S).1,s.length<=65536)/\(fsum (zw1 n a b S).1:Int)<=b:=by
 intro n;induction n with
 |zero=>
  intro a b S r _ g _ h;simp only[zw1] at h⊢;subst h;simp[zpb,fsum,g]
 |succ n p=>
  intro a b S r j g u h;by_cases k:S=none
  ·simp[zw1,k] at h
  ·simp only[zw1,if_neg k] at h⊢
   rcases z5e a b S j with e|⟨s,l,rfl,i,t,e⟩
   ·rw[e,qab] at h;cases h
   ·rw[e] at h⊢
    simp only at h⊢;have f:St.ok (some l):=qxp fun x c=>j _ rfl x (by simp[c])
    obtain⟨d,m,o,q⟩:=p s (b-s.length) (some l) r f (by omega) i h;injection d with d;refine⟨?_,by simp[m],?_,?_⟩
    ·rw[zpb,qrc,<-d]
    ·intro x c
     rcases qsm.1 c with rfl|c
     ·exact i
     ·exact o x c
    ·rw[zet];omega
theorem qf8:∀(l:List (List Nat)) (a:List Nat) (b:Int) (r:List Nat),a.length<=65536->(∀s∈l,s.length<=65536)->(fsum l:Int)<=b->zw1 l.length a b (some (zpb a l++r))=(l,some r):=by
 intro l;induction l with
 |nil=>intro a b r _ _ _;simp[zw1,zpb]
 |cons s l h=>
  intro a b r e d f;rw[zet] at f;have c:=d s (by simp);simp only[qr1,zw1,zpb];rw[if_neg (by simp),qrc,qaa a s _ b c (by omega) e];simp only;rw[h s (b-s.length) r c (fun x g=>d x (by simp[g])) (by omega)]
def qf9(b:List Nat)(n:Int):Option (List (List Nat)):=
 if 0<=n/\n<=65536 then(if z7k (zw1 n.toNat [] 16777216 (some b)).2 then some (zw1 n.toNat [] 16777216 (some b)).1 else none) else none
theorem zuy{b:List Nat}{n:Int}{l:List (List Nat)}(i:∀x∈b,x<256):qf9 b n=some l↔(l.length:Int)=n/\zz6 l=some b:=by
 constructor
 ·intro h
  unfold qf9 at h;split at h
  ·rename_i j
   split at h
   ·rename_i e
    injection h with h;simp only[z7k,decide_eq_true_eq] at e;obtain⟨a,f,d,g⟩:=qac n.toNat [] 16777216 (some b) [] (qxp i) (by omega) (by simp) e;rw[h] at a f d g;injection a with a;rw[qra] at a;refine⟨by omega,?_⟩;unfold zz6;rw[if_pos,<-a];rw[zfe];exact⟨by omega,d,by omega⟩
   ·cases h
  ·cases h
 ·rintro⟨rfl,h⟩
  unfold zz6 at h;split at h
  ·rename_i c
   rw[zfe] at c;injection h with h;have:=qf8 l [] 16777216 [] (by simp) c.2.1 (by have:=c.2.2;omega);rw[qra,h] at this;unfold qf9;rw[if_pos ⟨by omega,by omega⟩,qrn,this];simp[z7k]
  ·cases h
theorem z5f{a:List Nat}{l:List (List Nat)}(e:∀x∈a,x<256)(h:∀x∈zpb a l,x<256):∀s∈l,∀x∈s,x<256:=by
 induction l generalizing a with
 |nil=>simp
 |cons s l f=>
  rw[zpb,fpiece] at h;have d:∀x∈s,x<256:=by
   intro x b;rw[<-qtq (shr a s) s,qr5] at b;rcases b with b|b
   ·rw[<-zuw] at b
    exact e x (qro b)
   ·exact h x (by simp[b])
  intro t c;rcases qsm.1 c with rfl|c
  ·exact d
  ·exact f d (fun x b=>h x (by simp[b])) t c
theorem qnb{b:List Nat}{n:Int}(d:∀x∈b,x<256):(∀s∈(qf9 b n).getD [],∀x∈s,x<256)/\((qf9 b n).getD []).length<=65536/\ ∀s∈(qf9 b n).getD [],s.length<=65536:=by
 cases h:qf9 b n with
 |none=>simp
 |some l=>
  obtain⟨_,c⟩:=(zuy d).1 h;unfold zz6 at c;split at c
  ·rename_i g
   injection c with c;obtain⟨e,f,_⟩:=(zfe l).1 g;exact⟨z5f (a:=[]) (by simp) (by show∀x∈zpb [] l,x<256;rw[c];exact d),e,f⟩
  ·cases c
theorem z2i:∀(k n:Nat),n<=k-> ∀x∈vp n,x<256:=by
 intro k;induction k using Nat.strongRecOn with
 |ind k c=>
  intro n d x a;by_cases b:n<128
  ·rw[zgj b] at a;simp at a;omega
  ·rw[zgk b,qsm] at a
   rcases a with a|a
   ·omega
   ·exact c (n/128) (by omega) (n/128) (qq0 _) x a
theorem qk7(a:List Nat)(l:List (List Nat))(h:∀s∈l,∀x∈s,x<256):∀x∈zpb a l,x<256:=by
 induction l generalizing a with
 |nil=>simp[zpb]
 |cons s l d=>
  intro x b;rw[zpb,fpiece] at b;simp only[qr5] at b;rcases b with((b|b)|b)|b
  ·exact z2i _ _ (qq0 _) x b
  ·exact z2i _ _ (qq0 _) x b
  ·exact h s (by simp) x (qte b)
  ·exact d s (fun y c=>h y (by simp[c])) x b
theorem qk8{l:List (List Nat)}{b:List Nat}(h:∀s∈l,∀x∈s,x<256)(a:zz6 l=some b):∀x∈b,x<256:=by
 unfold zz6 at a;split at a
 ·injection a with a
  rw[<-a];exact qk7 [] l h
 ·cases a
open Go.RowKit
def fitsV(typ enc:Int):Bool:=decide ((enc=0\/enc=1)/\0<=typ/\typ<=3\/enc=2/\(typ=0\/typ=1)\/enc=3/\(typ=0\/typ=3)\/enc=4/\typ=2)
def zq1(t e:Int):Prop:=e= -1\/fitsV t e=true
instance(t e:Int):Decidable (zq1 t e):=by unfold zq1;exact inferInstance
def zdg(g p:Int)(encs:List Int)(cols:List za2):Int:=
 if¬(1<=g/\g<=65536/\1<=p/\p<=65536/\encs.length=cols.length) then 1 else if∀i,i<encs.length->zq1 (cols.getD i ([],0,false)).2.1 (encs.getD i 0) then 0 else 3
end Go.Hm
namespace Go.Proofs.Y
open Go.RowKit Go.Hm
theorem zmm(t e:Int)(w:World):Calls Tryz.prog 85 #[.int .i64 t,.int .i64 e] w (zd5 (.bool (fitsV t e)) w):=by
 generalize a:fitsV t e=O;have c:=qwk a;clear a;go_enter Tryz.func85,Tryz.ntmps85
 go_wp2
 all_goals go_ret
 all_goals
  simp only[beq_iff_eq,beq_eq_false_iff_ne,ne_eq] at*;rw[<-c.out];refine⟨congrArg (fun b=>Ending.returned (.bool b)) ?_,rfl⟩;rw[qrd];simp only[fitsV,decide_eq_true_eq,qs8,beq_iff_eq,qvr,false_iff,true_iff];omega
theorem zxc(n:Int)(w:World):Calls Tryz.prog 84 #[.int .i64 n] w (zd5 (.bool (decide (1<=n/\n<=65536))) w):=by
 generalize a:decide (1<=n/\n<=65536)=O;have c:=qwk a;clear a;go_enter Tryz.func84,Tryz.ntmps84
 go_wp2
 all_goals go_ret
 all_goals
  rw[<-c.out];refine⟨congrArg (fun b=>Ending.returned (.bool b)) ?_,rfl⟩;rw[qrd];simp only[decide_eq_true_eq,qvr,false_iff];omega
abbrev Cv(g p:Int)(A:Option Addr)(n c:Nat):Value:= .agg #[.int .i64 g,.int .i64 p,.slice A n c]
theorem qay{g p:Int}{E:List Int}{L:List za2}(a:1<=g/\g<=65536/\1<=p/\p<=65536/\E.length=L.length)(h:∀i,i<E.length->zq1 (L.getD i ([],0,false)).2.1 (E.getD i 0)):zdg g p E L=0:=by unfold zdg;rw[if_neg (by simpa using a),if_pos h]
theorem z5o{g p:Int}{E:List Int}{L:List za2}(a:1<=g/\g<=65536/\1<=p/\p<=65536/\E.length=L.length){i:Nat}(hi:i<E.length)(h: ¬zq1 (L.getD i ([],0,false)).2.1 (E.getD i 0)):zdg g p E L=3:=by unfold zdg;rw[if_neg (by simpa using a),if_neg (fun b=>h (b i hi))]
theorem qaz{g p:Int}{E:List Int}{L:List za2}(a: ¬(1<=g/\g<=65536/\1<=p/\p<=65536/\E.length=L.length)):zdg g p E L=1:=by unfold zdg;rw[if_pos a]
theorem z5p{w:World}{A G:Option Addr}{n c b c2:Nat}{g p:Int}{E:List Int}{L:List za2}(h:Reads w w.heap.size 1 A n (za5 .i64 E))(o:Reads w w.heap.size 3 G b (recs zle L))(hn:n<=4611686018427387903):
 Calls Tryz.prog 49 #[Cv g p A n c,.slice G b c2] w (zap (.int .i64 (zdg g p E L)) w):=by
 have D:=h.lenI;have I:=o.lenC;have m:New w (w.alloc (.cells #[.int .i64 g,.int .i64 p,.slice A n c] 59)):=(qwd _ _).alloc (qq0 _) _;have v:=qw1 w 59 #[.int .i64 g,.int .i64 p,.slice A n c];obtain⟨x0,x1,x2⟩:=zan v;have f:=qwk (fun W=>zxc g W);have l:=qwk (fun W=>zxc p W);by_cases s:1<=g/\g<=65536/\1<=p/\p<=65536/\E.length=L.length
 ·rw[decide_eq_true (show 1<=g/\g<=65536 by omega)] at f
  rw[decide_eq_true (show 1<=p/\p<=65536 by omega)] at l;have Q:=qwk (fun a=>qay s a);have x:=qwk (fun(i:Nat) (Y:i<n) a=>z5o s (i:=i) (by omega) a);have C:b=n:=by omega
  have P:=qwk D;subst C;generalize zdg g p E L=O at*;have J:=qxj h m;have M:=qxj o m;clear s v h o D I;go_enter Tryz.func49,Tryz.ntmps49
  go_wp2_with (first
   |(go_at_call 84;(with_reducible refine(f.out _).mono ?_);rintro e u ⟨rfl,rfl⟩)
   |(go_at_call 84;(with_reducible refine(l.out _).mono ?_);rintro e u ⟨rfl,rfl⟩))
  clear x0 x1 x2 f l;obtain⟨R,r⟩:∃W,W=w.alloc (.cells #[.int .i64 g,.int .i64 p,.slice A b c] 59):=⟨_,rfl⟩;rw[<-r] at m J M⊢;clear r;go_loopw [28] (fun i wr=>∃k:Nat,i= .int .i64 (k:Int)/\k<=b/\R=wr/\Hid (∀j,j<k->zq1 (L.getD j ([],0,false)).2.1 (E.getD j 0))) (fun i _=>b-(intOf i).toNat)
  case atStart=>exact⟨0,rfl,by omega,rfl,qwk (fun j hj=>by omega)⟩
  case round=>
   obtain⟨k,rfl,hk,rfl,H⟩:=hrel;by_cases d:k<b
   ·obtain⟨ad,rfl,hb,hc⟩:=J.int d
    obtain⟨S,rfl,T,U,V,X⟩:=M.colT d;have x:=qwk (x.out k d);have N:=qwk (show zq1 (L.getD k ([],0,false)).2.1 (E.getD k 0)-> ∀j,j<k+1->zq1 (L.getD j ([],0,false)).2.1 (E.getD j 0) from fun a j hj=>by
     by_cases e:j=k
     ·subst e;exact a
     ·exact H.out j (by omega))
    generalize(L.getD k ([],0,false)).2.1=t at*;generalize E.getD k 0=e at*;generalize(L.getD k ([],0,false)).2.2=x3 at*;generalize(L.getD k ([],0,false)).1=x4 at*;have Z:(k:Int)<(b:Int):=by omega
    have F:=qwk (fun W=>zmm t e W);by_cases q:e= -1
    ·have z:=qwk (N.out (.inl q))
     subst q;go_wp2
     go_roundw
     case rel=>exact⟨k+1,by go_num,by omega,trivial,z⟩
     case measure=>simp[intOf];omega
    ·have e1:(e != -1)=true:=by simpa using q
     cases hf:fitsV t e
     ·have y:=qwk (x.out (fun a=>by rcases a with a|a;exact q a;rw[hf] at a;cases a))
      rw[hf] at F;clear hf q;go_wp2_with (go_at_call 85;(with_reducible refine(F.out _).mono ?_);rintro e u ⟨rfl,rfl⟩)
      go_ret
      exact⟨by rw[y.out];rfl,m⟩
     ·have z:=qwk (N.out (.inr hf))
      rw[hf] at F;clear hf q;go_wp2_with (go_at_call 85;(with_reducible refine(F.out _).mono ?_);rintro e u ⟨rfl,rfl⟩)
      go_roundw
      case rel=>exact⟨k+1,by go_num,by omega,trivial,z⟩
      case measure=>simp[intOf];omega
   ·have y:=qwk (Q.out (fun i Y=>H.out i (by have:=P.out;omega)))
    go_wp2
    go_ret
    exact⟨by rw[y.out];rfl,m⟩
 ·have K:=qwk (qaz s)
  generalize zdg g p E L=O at*;by_cases B:1<=g/\g<=65536;all_goals try(rw[decide_eq_true B] at f)
  all_goals try(rw[decide_eq_false B] at f)
  all_goals try(by_cases o:1<=p/\p<=65536)
  all_goals try(rw[decide_eq_true o] at l)
  all_goals try(rw[decide_eq_false o] at l)
  all_goals try(have d2:((n:Int) != (b:Int))=true:=by simp;omega)
  all_goals
   clear s v D I B;go_enter Tryz.func49,Tryz.ntmps49
   go_wp2_with (first
    |(go_at_call 84;(with_reducible refine(f.out _).mono ?_);rintro e u ⟨rfl,rfl⟩)
    |(go_at_call 84;(with_reducible refine(l.out _).mono ?_);rintro e u ⟨rfl,rfl⟩))
   go_ret
   exact⟨by rw[K.out];rfl,m⟩
end Go.Proofs.Y
namespace Go.Hm
open Go Go.RowKit
def zdi(m:Nat)(r:Int)(D:List zdw):Int:=if 65536<r then 4 else if r<0\/D.length≠m then 2 else if∃d∈D,((d.2.2.length:Nat):Int)≠r then 2 else 0
theorem Reads.colD{w:World}{B n i:Nat}{A:Option Addr}{l:List zdw}(h:Reads w B 1 A n (recs zjl l))(hi:i<n):
 ∃ad,A=some ad/\ad.block<B/\w.cell? (ad.add i)=some (.slice (l.getD i (none,0,[])).1 (l.getD i (none,0,[])).2.2.length (l.getD i (none,0,[])).2.1):=by
 obtain⟨ad,a,b,_,c⟩:=h.rec_ (f:=zjl) (sz:=1) (fun _=>rfl) (none,0,[]) hi (by omega);have:=c 0 _ rfl;rw[qq7] at this;exact⟨ad,a,b,this⟩
theorem Reads.lenD{w:World}{B n:Nat}{A:Option Addr}{l:List zdw}(h:Reads w B 1 A n (recs zjl l)):n=l.length:=h.lenR (f:=zjl) (sz:=1) (fun _=>rfl) (by omega)
end Go.Hm
namespace Go.Proofs.Y
open Go.RowKit Go.Hm
theorem qb7{w:World}{Ac:Option Addr}{nc cc:Nat}{r:Int}{s:Option Addr}{F cd:Nat}{D:List zdw}(h:Reads w w.heap.size 1 s F (recs zjl D))(Z:F<=4611686018427387903):
 Calls Tryz.prog 82 #[.agg #[.slice Ac nc cc,.int .i64 r,.slice s F cd]] w (zap (.int .i64 (zdi nc r D)) w):=by
 obtain rfl:=h.lenD;have t:=qwk (fun(b:65536<r)=>show zdi nc r D=4 by rw[zdi,if_pos b]);have u:=qwk (fun(b: ¬65536<r) (f:r<0\/D.length≠nc)=>show zdi nc r D=2 by rw[zdi,if_neg b,if_pos f]);have v:=qwk (fun(b: ¬65536<r) (f: ¬(r<0\/D.length≠nc)) (d:zdw) (c:d∈D) (o:((d.2.2.length:Nat):Int)≠r)=>show zdi nc r D=2 by rw[zdi,if_neg b,if_neg f,if_pos ⟨d,c,o⟩]);have x:=qwk (fun(b: ¬65536<r) (f: ¬(r<0\/D.length≠nc)) (o:∀d∈D,((d.2.2.length:Nat):Int)=r)=>show zdi nc r D=0 by rw[zdi,if_neg b,if_neg f,if_neg (fun⟨d,c,P⟩=>P (o d c))]);generalize zdi nc r D=O at*;obtain⟨E,a⟩:∃W,W=w.alloc (.cells #[.slice Ac nc cc,.int .i64 r,.slice s D.length cd] 56):=⟨_,rfl⟩;have j:New w E:=by rw[a];exact(qwd _ _).alloc (qq0 _) _
 have l:Blk E w.heap.size 56 #[.slice Ac nc cc,.int .i64 r,.slice s D.length cd]:=by rw[a];exact qw1 _ _ _
 obtain⟨G,I,J⟩:=zan l;rw[a] at G I J;by_cases y:65536<r
 ·have g:=qwk (t.out y)
  clear t u v x l h;go_enter Tryz.func82,Tryz.ntmps82
  go_wp2
  go_ret
  exact⟨by rw[g.out];rfl,by rw[<-a];exact j⟩
 ·by_cases n:r<0\/D.length≠nc
  ·have g:=qwk (u.out y n)
   clear t u v x l h;by_cases f:r<0
   ·go_enter Tryz.func82,Tryz.ntmps82
    go_wp2
    go_ret
    exact⟨by rw[g.out];rfl,by rw[<-a];exact j⟩
   ·have N:((D.length:Int) != (nc:Int))=true:=by simp;omega
    clear n;go_enter Tryz.func82,Tryz.ntmps82
    go_wp2
    go_ret
    exact⟨by rw[g.out];rfl,by rw[<-a];exact j⟩
  ·have K:=qwk (v.out y n)
   have L:=qwk (x.out y n);obtain⟨f,o⟩: ¬r<0/\D.length=nc:=by omega
   subst o;have S:=qxj h j;clear n t u v x h;go_enter Tryz.func82,Tryz.ntmps82
   go_wp2
   rw[<-a];clear G I J a;go_loopw [23] (fun i wr=>∃k:Nat,i= .int .i64 (k:Int)/\k<=D.length/\New E wr/\Hid (∀d∈D.take k,((d.2.2.length:Nat):Int)=r)) (fun i _=>D.length-(intOf i).toNat)
   case atStart=>exact⟨0,rfl,by omega,qw4 _,qwk (by simp)⟩
   case round=>
    obtain⟨k,rfl,Y,p,H⟩:=hrel;obtain⟨G,I,J⟩:=zan (l.below p l.lt);by_cases e:k<D.length
    ·obtain⟨U,rfl,Q,V⟩:=(qxj S p).colD e
     have M:(D.getD k (none,0,[]))∈D:=by rw[qsh,qqt e];exact qrf e
     have A:=qwk (fun b=>K.out _ M b);have B:=qwk (fun(b:((((D.getD k (none,0,[])).2.2.length:Nat):Int)=r))=>show∀d∈D.take (k+1),((d.2.2.length:Nat):Int)=r by
      intro d c;rw[zac D k (none,0,[]) e,qr5] at c;rcases c with c|c
      ·exact H.out d c
      ·obtain rfl:=qr6.1 c
       exact b)
     clear M;generalize(D.getD k (none,0,[])).1=T at*;generalize(D.getD k (none,0,[])).2.2.length=m at*;generalize(D.getD k (none,0,[])).2.1=X at*;have R:(k:Int)<(D.length:Int):=by omega
     by_cases q:(m:Int)=r
     ·have C:=qwk (B.out q)
      subst q;clear A B;go_wp2
      go_roundw
      case rel=>exact⟨k+1,by go_num,by omega,p,C⟩
      case measure=>simp[intOf];omega
     ·have C:=qwk (A.out q)
      have N:((m:Int) != r)=true:=by simpa using q
      clear A B q;go_wp2
      go_ret
      exact⟨by rw[C.out];rfl,qw5 j p⟩
    ·obtain rfl:k=D.length:=by omega
     have z:=H.out;rw[quw] at z;have g:=qwk (L.out z);clear H z K L;go_wp2
     go_ret
     exact⟨by rw[g.out];rfl,qw5 j p⟩
end Go.Proofs.Y
namespace Go.Hm
open Go Go.RowKit
abbrev ty(l:List za2)(i:Nat):Int:=(l.getD i ([],0,false)).2.1
def zgb(l:List zab)(c:za2):Bool:=l.all fun x=>zad x c.2.1 c.2.2
def zi1(D:List zdw)(L:List za2):Bool:=(List.zip D L).all fun p=>zgb p.1.2.2 p.2
def ze1(L:List za2)(r:Int)(D:List zdw):Int:=
 if zcz L≠0 then zcz L else if zdi L.length r D≠0 then zdi L.length r D else if zi1 D L then 0 else 3
theorem zx5{m:Nat}{r:Int}{D:List zdw}(h:zdi m r D=0):D.length=m/\0<=r/\r<=65536/\ ∀d∈D,((d.2.2.length:Nat):Int)=r:=by
 unfold zdi at h;split at h
 ·cases h
 split at h
 ·cases h
 split at h
 ·cases h
 rename_i c f a;refine⟨by omega,by omega,by omega,fun d b=>?_⟩;by_cases e:((d.2.2.length:Nat):Int)=r
 ·exact e
 ·exact absurd ⟨d,b,e⟩ a
theorem z0x{l:List zab}{c:za2}(h:zgb l c=true){k:Nat}(a:k<l.length):zad (l.getD k (false,0,[],0,0)) c.2.1 c.2.2=true:=by rw[qsh,qqt a];exact(qs9.1 h) _ (qrf a)
theorem z0y{l:List zab}{c:za2}(h:∀k,k<l.length->zad (l.getD k (false,0,[],0,0)) c.2.1 c.2.2=true):zgb l c=true:=by
 refine qs9.2 fun x b=>?_
 obtain⟨k,a,rfl⟩:=qtv b;have:=h k a;rwa[qsh,qqt a] at this
theorem z0z{D:List zdw}{L:List za2}(c:D.length=L.length)(h:∀k,k<D.length->zgb (D.getD k (none,0,[])).2.2 (L.getD k ([],0,false))=true):zi1 D L=true:=by
 refine qs9.2 fun x b=>?_
 obtain⟨k,a,rfl⟩:=qtv b;rw[qvy] at a;have:=h k (by omega);rw[qsh,qqt (by omega),qsh,qqt (by omega)] at this;rw[List.getElem_zip];exact this
theorem zlp{D:List zdw}{L:List za2}(b:D.length=L.length)(h:zi1 D L=true){k:Nat}(a:k<D.length):zgb (D.getD k (none,0,[])).2.2 (L.getD k ([],0,false))=true:=by have:=(qs9.1 h) _ (qrf (l:=List.zip D L) (n:=k) (by rw[qvy];omega));rw[List.getElem_zip] at this;rw[qsh,qqt (by omega),qsh,qqt (by omega)];exact this
def DataIn(w:World)(B:Nat)(D:List zdw):Prop:=∀d∈D,Reads w B 5 d.1 d.2.2.length (recs zay d.2.2)/\(∀x∈d.2.2,x.2.2.1.length<=140737488351232/\ ∀z∈x.2.2.1,z<256)/\d.2.2.length<=d.2.1/\d.2.1<=9223372036854775807/\(d.1=none->d.2.1=0)
theorem DataIn.later{w w':World}{D:List zdw}(h:DataIn w w.heap.size D)(b:New w w'):DataIn w' w'.heap.size D:=fun d a=>⟨qxj (h d a).1 b,(h d a).2⟩
end Go.Hm
namespace Go.Proofs.Y
open Go.RowKit Go.Hm
theorem qb8{w:World}{Ac:Option Addr}{nc cc:Nat}{L:List za2}{r:Int}{Ad:Option Addr}{nd cd:Nat}{D:List zdw}
 (h1:Reads w w.heap.size 3 Ac nc (recs zle L))(hL:∀x∈L,(∀z∈x.1,z<256)/\x.1.length<=140737488351232)(hc:nc<=cc)(hn:nc<=4611686018427387903)
 (h:Reads w w.heap.size 1 Ad nd (recs zjl D))(a6:nd<=4611686018427387903)(hD:DataIn w w.heap.size D):
 Calls Tryz.prog 48 #[.agg #[.slice Ac nc cc,.int .i64 r,.slice Ad nd cd]] w (zap (.int .i64 (ze1 L r D)) w):=by
 obtain rfl:=h1.lenC;obtain rfl:=h.lenD;have K1:=qwk (fun(d:zcz L≠0)=>show ze1 L r D=zcz L by rw[ze1,if_pos d]);have K2:=qwk (fun(d:zcz L=0) (f:zdi L.length r D≠0)=>show ze1 L r D=zdi L.length r D by rw[ze1,if_neg (by simpa using d),if_pos f]);have K3:=qwk (fun(d:zcz L=0) (f:zdi L.length r D=0)=>show ze1 L r D=if zi1 D L then 0 else 3 by rw[ze1,if_neg (by simpa using d),if_neg (by simpa using f)]);have SL:=qwk (fun(f:zdi L.length r D=0)=>zx5 f);generalize ze1 L r D=O at*;obtain⟨o,g⟩:∃W,W=w.alloc (.cells #[.slice Ac L.length cc,.int .i64 r,.slice Ad D.length cd] 56):=⟨_,rfl⟩;have A:New w o:=by rw[g];exact(qwd _ _).alloc (qq0 _) _
 have u:Blk o w.heap.size 56 #[.slice Ac L.length cc,.int .i64 r,.slice Ad D.length cd]:=by rw[g];exact qw1 _ _ _
 obtain⟨J,M,N⟩:=zan u;have P1:=qwk (zpi (c:=cc) (qxj h1 A) hL hc hn);have P2:=qwk (fun(W:World) (a:New o W)=>qb7 (Ac:=Ac) (nc:=L.length) (cc:=cc) (r:=r) (cd:=cd) (qxj h (qw5 A a)) a6);rw[g] at J M N;have r1:=qwk (fun(W:World) (a:New o W)=>qxj h1 (qw5 A a));have r0:=qwk (fun(W:World) (a:New o W)=>qxj h (qw5 A a));have rD:=qwk (fun(W:World) (a:New o W)=>hD.later (qw5 A a));clear h h1 hD;generalize zcz L=q1 at*;generalize zdi L.length r D=q2 at*;go_enter Tryz.func48,Tryz.ntmps48
 go_wp2_with fail
 rw[<-g];refine(P1.out).mono ?_;rintro e W1 ⟨rfl,b1⟩;clear J M N g P1;by_cases f:q1=0
 ·have Q:=qwk (K2.out f)
  have S:=qwk (K3.out f);clear K1 K2 K3;subst f;obtain⟨J,M,N⟩:=zan (u.below b1 u.lt);go_wp2_with fail
  refine(P2.out _ b1).mono ?_;rintro e W2 ⟨rfl,b2⟩;have U:=qw5 b1 b2;clear J M N P2 b1 b2;by_cases X:q2=0
  ·have K5:=qwk (S.out X)
   have a1:=SL.out X;subst X;have a0:=a1.1;have K6:=qwk (fun(d:∀k,k<D.length->zgb (D.getD k (none,0,[])).2.2 (L.getD k ([],0,false))=true)=>show O=0 by rw[K5.out,if_pos (z0z a0 d)]);have K7:=qwk (fun(k:Nat) (hk:k<D.length) (d: ¬zgb (D.getD k (none,0,[])).2.2 (L.getD k ([],0,false))=true)=>show O=3 by rw[K5.out,if_neg (fun e=>d (zlp a0 e hk))]);clear Q S K5 SL a1;obtain⟨J,M,N⟩:=zan (u.below U u.lt);go_wp2
   clear J M N;go_loopw [23] (fun i wr=>∃k:Nat,i= .int .i64 (k:Int)/\k<=D.length/\New o wr/\Hid (∀j,j<k->zgb (D.getD j (none,0,[])).2.2 (L.getD j ([],0,false))=true)) (fun i _=>D.length-(intOf i).toNat)
   case atStart=>exact⟨0,rfl,by omega,U,qwk (by intro j Z;omega)⟩
   case round=>
    obtain⟨k,rfl,hk,hb,H⟩:=hrel;obtain⟨J,M,N⟩:=zan (u.below hb u.lt);by_cases G:k<D.length
    ·obtain⟨ad,rfl,b5,c0⟩:=(r0.out _ hb).colD G
     have I:(D.getD k (none,0,[]))∈D:=by rw[qsh,qqt G];exact qrf G
     have C:=qwk (fun(W:World) (a:New o W)=>(r1.out W a).colT (show k<L.length by omega));have E:=qwk (fun(W:World) (a:New o W)=>rD.out W a _ I);have M0:=qwk (fun(d:∀i,i<(D.getD k (none,0,[])).2.2.length->zad ((D.getD k (none,0,[])).2.2.getD i (false,0,[],0,0)) (L.getD k ([],0,false)).2.1 (L.getD k ([],0,false)).2.2=true)=>show∀j,j<k+1->zgb (D.getD j (none,0,[])).2.2 (L.getD j ([],0,false))=true by
      intro j Z;rcases qvo.1 Z with Z|rfl
      ·exact H.out j Z
      ·exact z0y d)
     have M1:=qwk (fun(i:Nat) (hi:i<(D.getD k (none,0,[])).2.2.length) (d: ¬zad ((D.getD k (none,0,[])).2.2.getD i (false,0,[],0,0)) (L.getD k ([],0,false)).2.1 (L.getD k ([],0,false)).2.2=true)=>K7.out k G (fun e=>d (z0x e hi)));clear I H;generalize(D.getD k (none,0,[])).1=aA at*;generalize(D.getD k (none,0,[])).2.2=l at*;generalize(D.getD k (none,0,[])).2.1=cA at*;generalize(L.getD k ([],0,false)).1=cn at*;generalize(L.getD k ([],0,false)).2.1=t at*;generalize(L.getD k ([],0,false)).2.2=nu at*;have b6:(k:Int)<(D.length:Int):=by omega
     have a8:(k:Int)<(L.length:Int):=by omega
     go_wp2
     clear J M N c0;go_loopw [30] (fun i wr=>∃j:Nat,i= .int .i64 (j:Int)/\j<=l.length/\New o wr/\Hid (∀i,i<j->zad (l.getD i (false,0,[],0,0)) t nu=true)) (fun i _=>l.length-(intOf i).toNat)
     case atStart=>exact⟨0,rfl,by omega,hb,qwk (by intro j Z;omega)⟩
     case round=>
      obtain⟨j,rfl,Z,m,H2⟩:=hrel;by_cases F:j<l.length
      ·obtain⟨E1,E2,E3,E4,_⟩:=E.out _ m
       obtain⟨b4,e2,a7,d0,d1,d2,d3,d4⟩:=E1.cell5 F;subst e2;have a5:(l.getD j (false,0,[],0,0))∈l:=by rw[qsh,qqt F];exact qrf F
       have a4:=(E2 _ a5).1;obtain⟨T,e3,a3,f0,f1,f2⟩:=C.out _ m;subst e3;have P:=qwk (fun(W:World)=>zgf (w:=W) (b:=(l.getD j (false,0,[],0,0)).1) (n:=(l.getD j (false,0,[],0,0)).2.1) (s:=(l.getD j (false,0,[],0,0)).2.2.1) (x:=(l.getD j (false,0,[],0,0)).2.2.2.1) (y:=(l.getD j (false,0,[],0,0)).2.2.2.2) (cn:=cn) (t:=t) (nu:=nu) a4);have N1:=qwk (fun(d: ¬zad ((l.getD j (false,0,[],0,0)).1,(l.getD j (false,0,[],0,0)).2.1,(l.getD j (false,0,[],0,0)).2.2.1,(l.getD j (false,0,[],0,0)).2.2.2.1,(l.getD j (false,0,[],0,0)).2.2.2.2) t nu=true)=>M1.out j F d);have N0:=qwk (fun(d:zad ((l.getD j (false,0,[],0,0)).1,(l.getD j (false,0,[],0,0)).2.1,(l.getD j (false,0,[],0,0)).2.2.1,(l.getD j (false,0,[],0,0)).2.2.2.1,(l.getD j (false,0,[],0,0)).2.2.2.2) t nu=true)=>show∀i,i<j+1->zad (l.getD i (false,0,[],0,0)) t nu=true by
        intro i hi;rcases qvo.1 hi with hi|rfl
        ·exact H2.out i hi
        ·exact d)
       clear a5 a4 H2 E1 E2;generalize(l.getD j (false,0,[],0,0)).1=b at*;generalize(l.getD j (false,0,[],0,0)).2.1=n at*;generalize(l.getD j (false,0,[],0,0)).2.2.1=s at*;generalize(l.getD j (false,0,[],0,0)).2.2.2.1=px at*;generalize(l.getD j (false,0,[],0,0)).2.2.2.2=py at*;generalize zad (b,n,s,px,py) t nu=R at*;have a9:(j:Int)<(l.length:Int):=by omega
       obtain⟨q,B⟩:∃W,W=wr.alloc (.cells #[.bool b,.int .i64 n,.string (zaf s),.int .i64 px,.int .i64 py] 75):=⟨_,rfl⟩;have b3:New wr q:=by rw[B];exact(qwd _ _).alloc (qq0 _) _
       have Y:Blk q wr.heap.size 75 #[.bool b,.int .i64 n,.string (zaf s),.int .i64 px,.int .i64 py]:=by rw[B];exact qw1 _ _ _
       have F1:=qwk (fun(W:World) (a:New q W)=>zc3 (Y.below a Y.lt));have F2:=qwk (fun(W:World) (a:New q W)=>zan (u.below (qw5 m (qw5 b3 a)) u.lt));have V:(T.add (k*3)).block<wr.heap.size:=by rw[zam];exact a3
       have F3:=qwk (fun(W:World) (a:New q W)=>(qtc ((qwu (qw5 b3 a) V).trans f0) (qtc ((qwu (p:=⟨(T.add (k*3)).block,_,none⟩) (qw5 b3 a) V).trans f1) ((qwu (p:=⟨(T.add (k*3)).block,_,none⟩) (qw5 b3 a) V).trans f2))));go_wp2_with fail
       rw[<-B];clear B;refine zav New [(true,0),(true,1),(true,2),(true,3),(true,4),(true,5),(false,6),(true,7)]
        qw4 qw5 (by kernel_rfl) (by kernel_rfl) (by kernel_rfl) (by kernel_rfl) ?_
       have hU:=qw6 q;have hV:=qw4 q.drew;repeat(first
        |(refine za7 rfl rfl (fun K hK=>?_);go_simp
          (with_reducible refine(P.out _).mono ?_)
          rintro e w9 ⟨rfl,b9⟩;refine hK _ _ b9 ?_;clear hK;replace hU:=qw5 hU b9;replace hV:=qw5 hV b9)
        |(refine zas rfl rfl (v:=?_) (fun W a=>?_) ?_;rotate_left;(obtain⟨p0,p1,p2,p3,p4⟩:=F1.out W (qw5 (qw6 q) (qw5 hV a));obtain⟨y0,y1,y2⟩:=F2.out W (qw5 (qw6 q) (qw5 hV a));obtain⟨z0,z1,z2⟩:=F3.out W (qw5 (qw6 q) (qw5 hV a));go_simp<;> with_reducible rfl);simp only[Act.put,qta,qs1,qtb]))
       refine zdr ?_;clear F1 F2 F3 f0 f1 f2 d0 d1 d2 d3 d4 P Y;have a2:=qw5 m (qw5 b3 hU);cases R with
       |true=>
        have N3:=qwk (N0.out rfl);go_wp2
        go_roundw
        case rel=>exact⟨j+1,by go_num,by omega,a2,N3⟩
        case measure=>simp[intOf];omega
       |false=>
        have N3:=qwk (N1.out (by simp));go_wp2
        go_ret
        exact⟨by rw[N3.out];rfl,qw5 A a2⟩
      ·obtain rfl:j=l.length:=by omega
       have M3:=qwk (M0.out H2.out);go_wp2
       go_roundw
       case rel=>exact⟨k+1,by go_num,by omega,m,M3⟩
       case measure=>simp[intOf];omega
    ·obtain rfl:k=D.length:=by omega
     have O1:=qwk (K6.out H.out);go_wp2
     go_ret
     exact⟨by rw[O1.out];rfl,qw5 A hb⟩
  ·have O1:=qwk (Q.out X)
   have e1:(q2 != 0)=true:=by simpa using X
   clear Q S SL X;go_wp2
   go_ret
   exact⟨by rw[O1.out];rfl,qw5 A U⟩
 ·have O1:=qwk (K1.out f)
  have e1:(q1 != 0)=true:=by simpa using f
  clear K1 K2 K3 f;go_wp2
  go_ret
  exact⟨by rw[O1.out];rfl,qw5 A b1⟩
end Go.Proofs.Y
