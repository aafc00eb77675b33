import Derived.Test.YtbahbnbpmfgimaaGreatDoorBun11
set_option maxHeartbeats 2000000
set_option maxRecDepth 100000
namespace Go.Hm
open Go Go.RowKit
def zje(p:List Nat):List Nat:=low p.length 8++p
def zb2(s:List Nat)(L:List (List Nat)):List Nat:=s.length::(s++L.length::L.flatMap zje)
def za9(s:List Nat)(L:List (List Nat)):Option (List Nat):=if 1<=s.length/\s.length<=255/\L.length<=255 then some (zb2 s L) else none
def z8b(b:List Nat):Option (List Nat × List Nat):=
 if 8<=b.length/\num (b.take 8)<=b.length-8 then some ((b.drop 8).take (num (b.take 8)),b.drop (8+num (b.take 8))) else none
def z1m:Nat->List Nat->Option (List (List Nat) × List Nat)
 |0,b=>some ([],b)
 |k+1,b=>(z8b b).bind fun p=>(z1m k p.2).map fun q=>(p.1::q.1,q.2)
def qik(b:List Nat):Option (List Nat × List (List Nat)):=
 if 2<=b.length/\b.getD 0 0≠0/\2+b.getD 0 0<=b.length then
  (z1m (b.getD (1+b.getD 0 0) 0) (b.drop (2+b.getD 0 0))).bind fun q=>if q.2=[] then some ((b.drop 1).take (b.getD 0 0),q.1) else none
 else none
theorem zp0(p:List Nat):(zje p).length=8+p.length:=by simp[zje,za0]
theorem qeg{p:List Nat}(h:∀x∈p,x<256):∀x∈zje p,x<256:=by
 intro x a;rcases qr5.1 a with a|a
 ·exact zhp _ _ x a
 ·exact h x a
theorem qeh{L:List (List Nat)}(h:∀p∈L,∀x∈p,x<256):∀x∈L.flatMap zje,x<256:=by intro x a;obtain⟨p,b,a⟩:=qtj.1 a;exact qeg (h p b) x a
theorem zgn{s:List Nat}{L:List (List Nat)}{f:List Nat}(c:∀x∈s,x<256)(b:∀p∈L,∀x∈p,x<256)(h:za9 s L=some f):∀x∈f,x<256:=by
 unfold za9 at h;split at h
 ·rename_i d
  obtain rfl:=qqf h;intro x a;simp only[zb2,qsm,qr5] at a;rcases a with rfl|a|rfl|a
  ·omega
  ·exact c x a
  ·omega
  ·exact qeh b x a
 ·cases h
theorem z8c(L:List (List Nat)):(L.flatMap zje).length=8*L.length+(L.map List.length).sum:=by
 induction L with
 |nil=>rfl
 |cons p L a=>rw[qt6,qrp,a,zp0,qr1,qrj,qt7];omega
theorem zne(s:List Nat)(L:List (List Nat)):(zb2 s L).length=2+s.length+8*L.length+(L.map List.length).sum:=by simp only[zb2,qr1,qrp,z8c];omega
theorem z4b{p r:List Nat}(e:p.length<18446744073709551616):z8b (zje p++r)=some (p,r):=by
 have b:(zje p++r).take 8=low p.length 8:=by rw[zje,qrc,qtg (by rw[za0];omega),qru (by rw[za0];omega)]
 have c:num (low p.length 8)=p.length:=zid (by omega);have a:(zje p++r).drop 8=p++r:=by rw[zje,qrc,List.drop_append,za0,qt8 (by rw[za0];omega)];simp
 have d:(zje p++r).drop (8+p.length)=r:=by rw[<-qth,a];simp
 unfold z8b;rw[b,c,if_pos ⟨by rw[qrp,zp0];omega,by rw[qrp,zp0];omega⟩,a,d];simp
theorem z4c{L:List (List Nat)}(h:∀p∈L,p.length<18446744073709551616)(r:List Nat):z1m L.length (L.flatMap zje++r)=some (L,r):=by
 induction L with
 |nil=>rfl
 |cons p L b=>
  rw[qr1,z1m,qt6,qrc,z4b (h p (by simp)),Option.bind_some,b fun q a=>h q (by simp[a])];rfl
theorem zp1{s:List Nat}{L:List (List Nat)}{f:List Nat}(g:∀p∈L,p.length<18446744073709551616)(h:za9 s L=some f):qik f=some (s,L):=by
 unfold za9 at h;split at h
 ·rename_i i
  obtain rfl:=qqf h;have b:(zb2 s L).getD 0 0=s.length:=rfl;have c:(zb2 s L).getD (1+s.length) 0=L.length:=by rw[qse];simp[zb2,List.getD_eq_getElem?_getD]
  have d:(zb2 s L).drop (2+s.length)=L.flatMap zje:=by rw[show 2+s.length=s.length+1+1 by omega];simp[zb2,List.drop_append]
  have e:((zb2 s L).drop 1).take s.length=s:=by simp[zb2]
  have a:=z4c g [];rw[qra] at a;unfold qik;rw[b,c,d,e,if_pos ⟨by rw[zne];omega,by omega,by rw[zne];omega⟩,a];rfl
 ·cases h
theorem zp2{s t:List Nat}{L M:List (List Nat)}{f g:List Nat}(b:∀p∈L,p.length<18446744073709551616)(c:∀p∈M,p.length<18446744073709551616)(h:za9 s L=some f)(k:za9 t M=some g):f=g↔s=t/\L=M:=by
 constructor
 ·rintro rfl
  have a:=zp1 b h;rw[zp1 c k] at a;simp only[qqh,qqg] at a;exact⟨a.1.symm,a.2.symm⟩
 ·rintro⟨rfl,rfl⟩
  rw[h] at k;exact qqf k
def zey(s:List Nat)(L:List (List Nat)):List Int:=((za9 s L).map zef).getD (List.replicate 32 0)
theorem zl3(s:List Nat)(L:List (List Nat)):(zey s L).length=32:=by
 unfold zey;cases za9 s L with
 |none=>simp
 |some f=>exact zg4 _
def zdf(A B:List (List Nat)):Option (List Nat × List Nat):=A.findSome? fun x=>(B.find? fun y=>decide (x≠y/\zef x=zef y)).map fun y=>(x,y)
abbrev zds:=Option Addr × Nat × List Nat
def zf6(d:zds):List Value:=[.slice d.1 d.2.2.length d.2.1]
def PartsIn(w:World)(D:List zds):Prop:=∀d∈D,Reads w w.heap.size 1 d.1 d.2.2.length (zar .u8 d.2.2)/\d.2.2.length<=d.2.1/\d.2.1<=9223372036854775807
theorem PartsIn.later{w w':World}{D:List zds}(h:PartsIn w D)(b:New w w'):PartsIn w' D:=fun d a=>⟨qxj (h d a).1 b,(h d a).2⟩
theorem PartsIn.at_{w:World}{D:List zds}(h:PartsIn w D){k:Nat}(a:k<D.length):Reads w w.heap.size 1 (D.getD k (none,0,[])).1 (D.getD k (none,0,[])).2.2.length (zar .u8 (D.getD k (none,0,[])).2.2)/\(D.getD k (none,0,[])).2.2.length<=(D.getD k (none,0,[])).2.1/\(D.getD k (none,0,[])).2.1<=9223372036854775807:=by refine h _ ?_;rw[qsh,qqt a];exact qrf a
def bytesOf(D:List zds):List (List Nat):=D.map fun d=>d.2.2
theorem zd6(D:List zds):(bytesOf D).length=D.length:=by simp[bytesOf]
theorem ze3(D:List zds)(k:Nat):(bytesOf D).getD k []=(D.getD k (none,0,[])).2.2:=by unfold bytesOf;rw[qsh,qtk,qsh];cases D[k]? <;> rfl
structure RowsAt(w:World)(A:Option Addr)(n c:Nat)(D:List zds):Prop where
 row:Reads w w.heap.size 1 A n (recs zf6 D)
 parts:PartsIn w D
 cap:n<=c
theorem RowsAt.later{w w':World}{A:Option Addr}{n c:Nat}{D:List zds}(h:RowsAt w A n c D)(a:New w w'):RowsAt w' A n c D:=⟨qxj h.row a,h.parts.later a,h.cap⟩
theorem RowsAt.len{w:World}{A:Option Addr}{n c:Nat}{D:List zds}(h:RowsAt w A n c D):n=D.length:=by have:=h.row.1;rw[zaw (sz:=1) (fun _=>rfl)] at this;omega
open Go Go.RowKit
def zc8(B:List (List Nat)):Nat->List Int->Option (Int × Int)
 |0,_=>none
 |k+1,d=>
  if d=zef (B.getD k []) then
   match zc8 B k d with
   |none=>some ((k:Int),-1)
   |some p=>if p.2= -1/\B.getD p.1.toNat []≠B.getD k [] then some (p.1,(k:Int)) else some p
  else zc8 B k d
def qil(B:List (List Nat))(k:Nat)(d:List Int):Option (Int × Int)->Prop
 |none=>∀i,i<k->zef (B.getD i [])≠d
 |some p=>∃a,a<k/\p.1=(a:Int)/\zef (B.getD a [])=d/\(∀i,i<a->zef (B.getD i [])≠d)/\
  ((p.2= -1/\ ∀i,i<k->zef (B.getD i [])=d->B.getD i []=B.getD a [])\/
    ∃b,b<k/\p.2=(b:Int)/\zef (B.getD b [])=d/\B.getD b []≠B.getD a []/\ ∀i,i<b->zef (B.getD i [])=d->B.getD i []=B.getD a [])
theorem zp3(B:List (List Nat))(k:Nat)(d:List Int):qil B k d (zc8 B k d):=by
 induction k with
 |zero=>intro i m;omega
 |succ k h=>
  rw[zc8];by_cases l:d=zef (B.getD k [])
  ·rw[if_pos l]
   cases hp:zc8 B k d with
   |none=>
    rw[hp] at h;refine⟨k,by omega,rfl,l.symm,h,.inl ⟨rfl,fun i m g=>?_⟩⟩;by_cases c:i=k
    ·rw[c]
    ·exact absurd g (h i (by omega))
   |some p=>
    rw[hp] at h;obtain⟨a,z,n,r,s,t⟩:=h;show qil B (k+1) d (if _ then _ else _);have w:p.1.toNat=a:=by rw[n];rfl
    rw[w];by_cases o:p.2= -1/\B.getD a []≠B.getD k []
    ·rw[if_pos o]
     refine⟨a,by omega,n,r,s,.inr ⟨k,by omega,rfl,l.symm,fun e=>o.2 e.symm,fun i m g=>?_⟩⟩;rcases t with⟨_,f⟩|⟨b,y,x,_⟩
     ·exact f i m g
     ·rw[x] at o;omega
    ·rw[if_neg o]
     refine⟨a,by omega,n,r,s,?_⟩;rcases t with⟨f,j⟩|⟨b,y,f,j,u,v⟩
     ·refine .inl ⟨f,fun i m g=>?_⟩
      by_cases c:i=k
      ·rw[c]
       by_cases q:B.getD a []=B.getD k []
       ·exact q.symm
       ·exact absurd ⟨f,q⟩ o
      ·exact j i (by omega) g
     ·exact .inr ⟨b,by omega,f,j,u,v⟩
  ·rw[if_neg l]
   cases hp:zc8 B k d with
   |none=>
    rw[hp] at h;intro i m;by_cases c:i=k
    ·rw[c]
     exact fun e=>l e.symm
    ·exact h i (by omega)
   |some p=>
    rw[hp] at h;obtain⟨a,z,n,r,s,t⟩:=h;refine⟨a,by omega,n,r,s,?_⟩;rcases t with⟨f,j⟩|⟨b,y,f,j,u,v⟩
    ·refine .inl ⟨f,fun i m g=>?_⟩
     by_cases c:i=k
     ·rw[c] at g
      exact absurd g.symm l
     ·exact j i (by omega) g
    ·exact .inr ⟨b,by omega,f,j,u,v⟩
theorem z8d{α:Type}{B:List α}{d:α}{p:α->Bool}{i:Nat}(hi:i<B.length)(b:p (B.getD i d)=true)(a:∀j,j<i->p (B.getD j d)=false):B.find? p=some (B.getD i d):=by
 induction B generalizing i with
 |nil=>simp at hi
 |cons x B e=>
  cases i with
  |zero=>rw[List.find?_cons_of_pos (by simpa using b)];rfl
  |succ i=>
   have c:p x=false:=a 0 (by omega);rw[List.find?_cons_of_neg (by simp[c])];exact e (by simpa using hi) b fun j f=>a (j+1) (by omega)
theorem z8e{α:Type}{B:List α}{d:α}{p:α->Bool}(b:∀j,j<B.length->p (B.getD j d)=false):B.find? p=none:=by rw[List.find?_eq_none];intro x c;obtain⟨i,a,rfl⟩:=qtv c;have:=b i a;rw[qsh,qqt a,qsi] at this;simp[this]
theorem z4d(B:List (List Nat))(x:List Nat):
 (B.find? fun y=>decide (x≠y/\zef x=zef y))=(match zc8 B B.length (zef x) with
  |none=>none
  |some p=>if x≠B.getD p.1.toNat [] then some (B.getD p.1.toNat []) else if p.2≠ -1 then some (B.getD p.2.toNat []) else none):=by
 have h:=zp3 B B.length (zef x);cases hp:zc8 B B.length (zef x) with
 |none=>
  rw[hp] at h;exact z8e (d:=[]) fun j g=>decide_eq_false fun c=>h j g c.2.symm
 |some p=>
  rw[hp] at h;obtain⟨a,t,m,n,o,q⟩:=h;have l:p.1.toNat=a:=by rw[m];rfl
  simp only[l];by_cases f:x≠B.getD a []
  ·rw[if_pos f]
   exact z8d t (decide_eq_true ⟨f,n.symm⟩) fun j g=>decide_eq_false fun c=>o j g c.2.symm
  ·rw[if_neg f]
   have f:x=B.getD a []:=qt9.1 f;rcases q with⟨i,k⟩|⟨b,u,i,k,r,s⟩
   ·rw[if_neg (by rw[i];simp)]
    exact z8e (d:=[]) fun j g=>decide_eq_false fun c=>c.1 (by rw[k j g c.2.symm];exact f)
   ·rw[if_pos (by rw[i];omega),i,qrn]
    exact z8d u (decide_eq_true ⟨by rw[f];exact fun e=>r e.symm,k.symm⟩) fun j g=>decide_eq_false fun c=>c.1 (by rw[s j g c.2.symm];exact f)
theorem z4s(n:Nat)(d:n≠0)(h:n<18446744073709551616):Lib.bitLen (n ||| 1)=Lib.bitLen n:=by
 have e:(n ||| 1)/2=n/2:=by rw[Nat.or_div_two];simp
 have a:n ||| 1<2^64:=quu h (by omega);have b:n ||| 1≠0:=by intro c;rw[c] at e;have:=Nat.right_le_or (n:=n) (m:=1);omega
 rw[Lib.bitLen_half _ b a,Lib.bitLen_half n d h,e]
theorem qkn:∀(k n:Nat),n<2^k->n≠0->n<18446744073709551616->(Lib.bitLen n+6)/7=(vp n).length:=by
 intro k;induction k using Nat.strongRecOn with
 |ind k i=>
  intro n f c h;by_cases b:n<128
  ·have j:=Lib.bitLen_le n 7 (by omega) b
   have l:=Lib.bitLen_half n c h;rw[zgj b];simp only[qu0];omega
  ·have e:Lib.bitLen n=7+Lib.bitLen (n/128):=Lib.bitLen_shift 7 n (by omega) h
   have g:7<k:=by
    refine Nat.lt_of_not_le fun a=>?_
    have:=qsb (n:=2) (by omega) a;omega
   have d:n/128<2^(k-7):=by refine qrz ?_;rw[show(128:Nat)=2^7 from rfl,<-qss,show 7+(k-7)=k by omega];exact f
   have:=i (k-7) (by omega) (n/128) d (by omega) (by omega);rw[zgk b,qr1,<-this,e];omega
theorem qko(n:Nat)(h:n<18446744073709551616):(Lib.bitLen (n ||| 1)+6)/7=(vp n).length:=by
 by_cases a:n=0
 ·subst a;rw[zgj (by omega)];decide
 ·rw[z4s n a h,qkn 64 n h a h]
theorem qfa(a:Nat)(h:a<18446744073709551616):bits .xor .u64 (a:Int) 0=a:=by have:=u64_xor_nat a 0 h (by omega);simpa using this
theorem qfb(a:Nat)(h:a<18446744073709551616):bits .xor .u64 (a:Int) 18446744073709551615=((18446744073709551615-a:Nat):Int):=by show IntKind.u64.wrap ((BitVec.ofInt 64 (a:Int) ^^^ BitVec.ofInt 64 18446744073709551615).toNat:Int)=_;rw[show BitVec.ofInt 64 18446744073709551615=BitVec.allOnes 64 from by decide,BitVec.xor_allOnes,BitVec.toNat_not,ofInt_u64 a h,qwp];omega
theorem qfc(a:Nat)(h:a<9223372036854775808):bits .xor .i64 (a:Int) 0=a:=by show IntKind.i64.wrap ((BitVec.ofInt 64 (a:Int) ^^^ BitVec.ofInt 64 0).toNat:Int)=_;rw[show BitVec.ofInt 64 0=0#64 from by decide,BitVec.xor_zero,ofInt_u64 a (by omega),qwr];omega
theorem qfd(a:Nat)(h:a<9223372036854775808):bits .xor .i64 (a:Int) (-1)= -(a:Int)-1:=by show IntKind.i64.wrap ((BitVec.ofInt 64 (a:Int) ^^^ BitVec.ofInt 64 (-1)).toNat:Int)=_;rw[show BitVec.ofInt 64 (-1)=BitVec.allOnes 64 from by decide,BitVec.xor_allOnes,BitVec.toNat_not,ofInt_u64 a (by omega),qwr];omega
def zig(x:Int):Nat:=if x<0 then(-(2*x)-1).toNat else(2*x).toNat
def zag(n:Nat):Int:=if n%2=0 then((n/2:Nat):Int) else-((n/2:Nat):Int)-1
theorem zqg(x:Int):zag (zig x)=x:=by unfold zig zag;split<;> split<;> omega
theorem zzn(n:Nat):zig (zag n)=n:=by unfold zig zag;split<;> split<;> omega
end Go.Hm
namespace Go.Proofs.Y
open Go.RowKit Go.Hm
def qmy(n:Nat)(w:World)(e:Ending)(w':World):Prop:=e= .returned (.int .i64 ((vp n).length:Int))/\w=w'
theorem z1z(n:Nat)(w:World)(h:n<18446744073709551616):Calls Tryz.prog 132 #[.int .u64 n] w (qmy n w):=by
 have e:bits .or .u64 (n:Int) 1=((n ||| 1:Nat):Int):=by have:=u64_or_nat n 1 h (by omega);simpa using this
 have a:n ||| 1<2^64:=quu h (by omega);have c:=qko n h;have b:=zae h;have d:=Lib.bitLen_le (n ||| 1) 64 (by omega) a;go_enter Tryz.func132,Tryz.ntmps132
 go_wp2_with (first
  |(go_at_call 120;refine(bits_Len64 ((n ||| 1:Nat):Int) _ (by omega) (by omega)).mono ?_;rintro e f ⟨rfl,rfl⟩))
 go_ret
 exact⟨by rw[<-c];go_num,rfl⟩
def qmz(w:World)(l:List Nat)(N:Nat)(nv v:Value)(wr:World):Prop:=∃N' D A c,nv= .int .u64 ((N':Nat):Int)/\N'<=N/\D.length+(vp N').length<=l.length+10/\v= .slice A D.length c/\D++vp N'=l++vp N/\Own wr w.heap.size 5 (.slice A D.length c) (zar .u8 D)/\Below w.heap.size w wr
theorem zdc(A:Option Addr)(n c:Nat)(l:List Nat)(N:Nat)(w:World)(v:Reads w w.heap.size 1 A n (zar .u8 l))(R:n<=140737488355200)(Q:N<=18446744073709551615):
 Calls Tryz.prog 111 #[.slice A n c,.int .u64 N] w (zcx (l++vp N) w):=by
 obtain rfl:l.length=n:=by have:=v.1;rw[zaa] at this;omega
 have K:=zae (n:=N) (by omega);go_enter Tryz.func111,Tryz.ntmps111
 go_wp2_with (first
  |(go_at_call 132;refine(z1z N _ (by omega)).mono ?_;rintro e S ⟨rfl,rfl⟩)
  |(refine zcf elB rfl (.tmp 7) (.tmp 12) rfl (W:=w) (B:=w.heap.size) l.length (l.length+(vp N).length) rfl rfl rfl (by simp) (by omega) (qwd _ _) (qq0 _) rfl (by omega) (by simp only[maxLen];omega) ?_
    intro T h q o I)
  |(refine zpr elB rfl (.tmp 14) (.tmp 15) rfl (W:=w) (B:=w.heap.size) h (v.grown_far q (by simp)) rfl rfl l.length (Nat.min_self _) o (qq0 _) (zcr _ _) ?_
    intro U b H p J))
 go_frame
 go_loopw [1,5] (qmz w l N) (fun L _ _=>(intOf L).toNat)
 case atStart=>
  refine⟨N,l,_,_,rfl,qq0 _,by omega,rfl,rfl,?_,p⟩;rw[qru (by rw[zaa];omega),qt8 (by simp),qra] at b;exact b
 case round=>
  obtain⟨i,D,O,P,rfl,F,E,rfl,d,f,m⟩:=hrel;have G:=m.size;by_cases j:i<128
  ·go_wp2_with (first
    |(refine zcs elB rfl (.tmp 27) (.tmp 30) rfl (W:=w) (B:=w.heap.size) f rfl rfl i rfl m (qq0 _) (by omega) (by omega) (by simp only[maxLen];omega) ?_
      intro t u M _ _ a r g _ _))
   go_ret
   rw[zgj j] at d;rw[d] at a;have s:D.length+1=(l++vp N).length:=by rw[<-d];simp
   rw[s] at a⊢;exact⟨_,_,_,rfl,a,g⟩
  ·have x:=qov i
   have z:=qwk x;clear x;have y:=zgk j;have C:=qwk y;clear y;go_wp2_with (first
    |(refine zcs elB rfl (.tmp 19) (.tmp 23) rfl (W:=w) (B:=w.heap.size) f rfl rfl (i%128+128) (by rw[z.out]) m (qq0 _) (by omega) (by omega) (by simp only[maxLen];omega) ?_
      intro t u M _ _ a r g _ _))
   go_roundw
   case rel=>
    have k:=C.out;rw[k,qr1] at E;exact⟨i/128,D++[i%128+128],t,u,by go_num,by omega,by simp;omega,by simp,by rw[<-d,k];simp,by simpa using a,g⟩
   case measure=>simp[intOf];omega
def z86(v:Value)(w:World)(e:Ending)(w':World):Prop:=e= .returned v/\w=w'
theorem zqh(x:Int)(w:World)(h: -9223372036854775808<=x)(b:x<=9223372036854775807):Calls Tryz.prog 167 #[.int .i64 x] w (z86 (.int .u64 (zig x:Int)) w):=by
 have e:bits .xor .u64 (IntKind.u64.wrap (IntKind.u64.wrap x*2)) (IntKind.u64.wrap (x/9223372036854775808))=(zig x:Int):=by
  simp only[qwp];by_cases a:x<0
  ·rw[show(x/9223372036854775808)%18446744073709551616=18446744073709551615 from by omega,
    show x%18446744073709551616*2%18446744073709551616=((18446744073709551616+2*x).toNat:Int) from by omega,qfb _ (by omega)]
   simp only[zig,if_pos a];omega
  ·rw[show(x/9223372036854775808)%18446744073709551616=0 from by omega,
    show x%18446744073709551616*2%18446744073709551616=((2*x).toNat:Int) from by omega,qfa _ (by omega)]
   simp only[zig,if_neg a]
 go_enter Tryz.func167,Tryz.ntmps167
 go_wp2
 go_ret
 exact⟨rfl,rfl⟩
theorem z87(x:Nat)(w:World)(h:x<18446744073709551616):Calls Tryz.prog 177 #[.int .u64 (x:Int)] w (z86 (.int .i64 (zag x)) w):=by
 have b:bits .and .u64 (x:Int) 1=((x%2:Nat):Int):=by have:=u64_and_nat x 1 h (by omega);rw[nat_mask1] at this;simpa using this
 have e:bits .xor .i64 ((x:Int)/2) (-((x:Int)%2))=zag x:=by
  by_cases a:x%2=0
  ·rw[show(-((x:Int)%2))=0 from by omega,show((x:Int)/2)=((x/2:Nat):Int) from by omega,qfc _ (by omega)]
   simp only[zag,if_pos a]
  ·rw[show(-((x:Int)%2))= -1 from by omega,show((x:Int)/2)=((x/2:Nat):Int) from by omega,qfd _ (by omega)]
   simp only[zag,if_neg a]
 go_enter Tryz.func177,Tryz.ntmps177
 go_wp2
 go_ret
 exact⟨rfl,rfl⟩
end Go.Proofs.Y
namespace Go.Hm
theorem zqn{N b:Nat}{r s:List Nat}(h:b::s=vp N++r)(c:b<128):N=b/\r=s:=by
 by_cases a:N<128
 ·rw[zgj a] at h
  simp only[qr0,qrr,qqe] at h;exact⟨h.1.symm,h.2.symm⟩
 ·rw[zgk a] at h
  simp only[qr0,qqe] at h;omega
theorem zqo{N b:Nat}{r s:List Nat}(h:b::s=vp N++r)(c:128<=b):N%128+128=b/\0<N/128/\s=vp (N/128)++r:=by
 by_cases a:N<128
 ·rw[zgj a] at h
  simp only[qr0,qrr,qqe] at h;omega
 ·rw[zgk a] at h
  simp only[qr0,qqe] at h;exact⟨h.1.symm,by omega,h.2⟩
theorem qkw{b N:Nat}(d:128<=b)(a:b<256)(c:0<N):b::vp N=vp (b-128+128*N):=by
 rw[zgk (n:=b-128+128*N) (by omega)];congr 1
 ·omega
 ·congr 1;omega
theorem z4z:∀(k M N:Nat) (r s:List Nat),M<=k->vp M++r=vp N++s->M=N/\r=s:=by
 intro k;induction k using Nat.strongRecOn with
 |ind k d=>
  intro M N r s e h;by_cases a:M<128
  ·rw[zgj a] at h
   have:=zqn h a;exact⟨this.1.symm,this.2.symm⟩
  ·rw[zgk a] at h
   have b:=zqo h (by omega);have c:=d (M/128) (by omega) _ _ _ _ (qq0 _) b.2.2;exact⟨by omega,c.2⟩
def VIn(l:List Nat)(k v:Nat)(rl:List Nat):Prop:=
 v<128^k/\(∀N r,l=vp N++r-> ∃N',N=v+128^k*N'/\(k=0\/0<N')/\rl=vp N'++r)/\
 (∀N r,(k=0\/0<N)->rl=vp N++r->l=vp (v+128^k*N)++r)
theorem VIn.zero(l:List Nat):VIn l 0 0 l:=⟨by simp,fun N r h=>⟨N,by simp,.inl rfl,h⟩,fun N r _ h=>by simpa using h⟩
theorem VIn.step{l g:List Nat}{k v b:Nat}(h:VIn l k v (b::g))(d:128<=b)(s:b<256):VIn l (k+1) (v+128^k*(b-128)) g:=by
 obtain⟨w,p,q⟩:=h;have f:128^(k+1)=128^k*128:=qrx ..;have x:128^k*(b-128)<=128^k*127:=qty _ (by omega);refine⟨by omega,fun N r e=>?_,fun N r a e=>?_⟩
 ·obtain⟨i,j,t,m⟩:=p N r e
  obtain⟨u,n,o⟩:=zqo m d;refine⟨i/128,?_,.inr n,o⟩;rw[j,f,qsx,qqr,<-qr2];congr 2
  omega
 ·have c:0<N:=by rcases a with a|a<;> omega
  have:=q (b-128+128*N) r (.inr (by omega)) (by rw[e,<-qkw d s c,qr0]);rw[this,qr2,f,qsx,qqr]
theorem VIn.done{l a:List Nat}{k v b:Nat}(h:VIn l k v (b::a))(c:b<128)(d:k=0\/0<b):l=vp (v+128^k*b)++a:=
 h.2.2 b a d (by rw[zgj c];rfl)
theorem VIn.not_zero{l b:List Nat}{k v:Nat}(h:VIn l k v (0::b))(f:0<k):∀N r,l=vp N++r->18446744073709551616<=N:=by intro N r e;obtain⟨c,_,d,a⟩:=h.2.1 N r e;have:=zqn a (by omega);omega
theorem VIn.not_nil{l:List Nat}{k v:Nat}(h:VIn l k v []):∀N r,l=vp N++r->18446744073709551616<=N:=by intro N r e;obtain⟨a,_,_,b⟩:=h.2.1 N r e;have:=zps a;have:=congrArg List.length b;simp at this;omega
theorem VIn.not_big{l d:List Nat}{v b:Nat}(h:VIn l 9 v (b::d))(j:1<b):∀N r,l=vp N++r->18446744073709551616<=N:=by
 intro N r e;obtain⟨f,g,i,c⟩:=h.2.1 N r e;by_cases a:b<128
 ·have:=(zqn c a).1
  omega
 ·have:=zqo c (by omega)
  omega
theorem qiq(k:Nat):(128:Nat)^k=2^(7*k):=by rw[qsp]
theorem VIn.fits{k v b:Nat}(g:v<128^k)(f:b<128)(a:k<=8\/(k<=9/\b<=1)):v+128^k*b<18446744073709551616:=by
 rcases a with a|⟨a,e⟩
 ·have c:(128:Nat)^k<=128^8:=qsb (by omega) a
  have d:128^k*b<=128^8*b:=qqz _ c;omega
 ·have c:(128:Nat)^k<=128^9:=qsb (by omega) a
  have d:128^k*b<=128^9*b:=qqz _ c;omega
theorem z9q(b:Nat)(h:b<256):bits .andNot .u8 (b:Int) 128=((b%128:Nat):Int):=by have:=u8_andNot_nat b 128 h (by omega);rw[show 255-128=127 from rfl,nat_mask7] at this;simpa using this
theorem qkx{k v b:Nat}(a:v<128^k)(e:b<128)(f:k<=8\/(k<=9/\b<=1)):
 bits .or .u64 (v:Int) ((b:Int)*2^(7*k)%18446744073709551616)=((v+128^k*b:Nat):Int):=by
 have g:=VIn.fits a e f;have d:(b:Int)*2^(7*k)=((b*2^(7*k):Nat):Int):=by simp
 have c:128^k*b=b*2^(7*k):=by rw[qiq,qrl]
 rw[d,show(((b*2^(7*k):Nat):Int)%18446744073709551616)=((b*2^(7*k):Nat):Int) from qst (by omega) (by omega),
  u64_or_nat v (b*2^(7*k)) (by omega) (by omega),qsc,zsn b v (7*k) (by rw[<-qiq];exact a),c,qse]
theorem z19{k v b:Nat}(d:v<128^k)(a:b<256)(c:k<=8\/(k<=9/\b%128<=1)):
 bits .or .u64 (v:Int) (IntKind.u64.wrap (IntKind.u64.wrap (bits .andNot .u8 (b:Int) 128)*2^(7*k)))=((v+128^k*(b%128):Nat):Int):=by
 rw[z9q b a,qwp,qwp,show(((b%128:Nat):Int)%18446744073709551616)=((b%128:Nat):Int) from by omega];exact qkx d (by omega) c
end Go.Hm
namespace Go.Proofs.Y
open Go.RowKit Go.Hm
def qky(g:Nat)(l:List Nat)(w:World)(e:Ending)(w':World):Prop:=
 (∃N r,l=vp N++r/\N<18446744073709551616/\e= .returned (.int .u64 (N:Int))/\Cur w' g r false/\w.grownBy w' (some g))\/
 ((∀N r,l=vp N++r->18446744073709551616<=N)/\e= .returned (.int .u64 0)/\Cur w' g [] true/\w.grownBy w' (some g))
def qps(g:Nat)(l:List Nat)(w:World)(a:Act)(w':World):Prop:=
 ∃(u1 u2 u3 u4 u5 u6 u7 u8 u9 u10 u11 u12 u13 u14 u15 u16 u17 u18 u19 u20 u21 u22 u23 u24 u25 u26 u27 u28 u29 u30 u31 u32 u33 u34 u35 u36 u37 u38 u39 u40 u41:Value) (rl:List Nat) (bad:Bool),a={tmps:= #[.pointer (some ⟨g,0,none⟩),u1,u2,u3,u4,u5,u6,u7,u8,u9,u10,u11,u12,u13,u14,u15,u16,u17,u18,u19,u20,u21,u22,u23,u24,u25,u26,u27,u28,u29,u30,u31,u32,u33,u34,u35,u36,u37,u38,u39,u40,u41],defers:=[]}/\Cur w' g rl bad/\w.grownBy w' (some g)/\(∀N r,l=vp N++r->18446744073709551616<=N)
theorem Cur.lt8{w:World}{g:Nat}{l:List Nat}{a:Bool}(h:Cur w g l a):∀x∈l,x<256:=by obtain⟨A,c,_,_,_,_,b,_⟩:=h;exact b
theorem z9r{w:World}{g:Nat}{l:List Nat}(h:Cur w g l false)(I:∀x∈l,x<256):
 Calls Tryz.prog 117 #[.pointer (some ⟨g,0,none⟩)] w (qky g l w):=by
 go_enter Tryz.func117,Tryz.ntmps117
 go_wp2
 refine wp_scope_jumps 0 (qps g l w) (fun _ _=>0) rfl ?_ ?_
 ·go_wp2
  go_loopw [3,4] (fun v i wr=>∃(k x:Nat) (j:List Nat),i= .int .i64 ((7*k:Nat):Int)/\k<=9/\v= .int .u64 (x:Int)/\VIn l k x j/\(∀y∈j,y<256)/\Cur wr g j false/\w.grownBy wr (some g)) (fun _ i _=>100-(intOf i).toNat)
  case atStart=>exact⟨0,0,l,rfl,by omega,rfl,VIn.zero l,I,h,qw7 g w⟩
  case round=>
   obtain⟨k,x,j,rfl,M,rfl,t,o,E,f⟩:=hrel;have m:=qwk t;cases j with
   |nil=>
    have B:=qwk (zo6 E (.inr (by simp)));go_wp2_with (first
     |(go_at_call 137;refine B.out.mono ?_;rintro e s ⟨rfl,a,c⟩
       have d:=qwk (zlc a))
     |(go_at_call 98;refine d.out.mono ?_;rintro e q ⟨rfl,rfl⟩)
     |go_step3)
    exact⟨rfl,_,_,_,_,_,_,_,_,_,_,_,_,_,_,_,_,_,_,_,_,_,_,_,_,_,_,_,_,_,_,_,_,_,_,_,_,_,_,_,_,_,_,_,rfl,a,qw8 f c,m.out.not_nil⟩
   |cons b j=>
    have n:b<256:=o b (by simp);have B:=qwk (z1w E);have p:=t.1;clear t;by_cases C:0<k/\b=0
    ·obtain⟨C,rfl⟩:=C
     go_wp2_with (first
      |(go_at_call 137;refine B.out.mono ?_;rintro e s ⟨rfl,a,c⟩
        have d:=qwk (zlc a))
      |(go_at_call 98;refine d.out.mono ?_;rintro e q ⟨rfl,rfl⟩)
      |go_step3)
     all_goals first
      |(exfalso;omega)
      |exact⟨rfl,_,_,_,_,_,_,_,_,_,_,_,_,_,_,_,_,_,_,_,_,_,_,_,_,_,_,_,_,_,_,_,_,_,_,_,_,_,_,_,_,_,_,_,rfl,a,qw8 f c,m.out.not_zero C⟩
    ·by_cases J:k=9
     ·subst J
      by_cases z:1<b
      ·go_wp2_with (first
       |(go_at_call 137;refine B.out.mono ?_;rintro e s ⟨rfl,a,c⟩
         have d:=qwk (zlc a))
       |(go_at_call 98;refine d.out.mono ?_;rintro e q ⟨rfl,rfl⟩)
       |go_step3)
       all_goals first
        |(exfalso;omega)
        |exact⟨rfl,_,_,_,_,_,_,_,_,_,_,_,_,_,_,_,_,_,_,_,_,_,_,_,_,_,_,_,_,_,_,_,_,_,_,_,_,_,_,_,_,_,_,_,rfl,a,qw8 f c,m.out.not_big z⟩
      ·have D:=z19 p n (.inr ⟨by omega,by omega⟩)
       rw[show(2:Int)^(7*9)=9223372036854775808 from by decide,show b%128=b from by omega] at D;go_wp2_with (first
        |(go_at_call 137;refine B.out.mono ?_;rintro e s ⟨rfl,a,c⟩
          have d:=qwk (zlc a))
        |(go_at_call 98;refine d.out.mono ?_;rintro e q ⟨rfl,rfl⟩)
        |go_step3)
       all_goals first
        |(rename_i r;exfalso;rcases r with r|r;(simp at r;omega);omega)
        |(simp only[Exit.jump];go_ret
          exact .inl ⟨_,_,m.out.done (by omega) (.inl (by omega)),VIn.fits p (by omega) (.inr ⟨by omega,by omega⟩),by simp,a,qw8 f c⟩)
        |(simp only[Exit.jump];go_ret
          exact .inl ⟨_,_,m.out.done (by omega) (.inr (by omega)),VIn.fits p (by omega) (.inr ⟨by omega,by omega⟩),by simp,a,qw8 f c⟩)
     ·have D:=z19 p n (.inl (by omega))
      go_wp2_with (first
       |(go_at_call 137;refine B.out.mono ?_;rintro e s ⟨rfl,a,c⟩
         have d:=qwk (zlc a))
       |(go_at_call 98;refine d.out.mono ?_;rintro e q ⟨rfl,rfl⟩)
       |go_step3)
      all_goals first
       |(exfalso;omega)
       |(simp only[Exit.jump];go_ret
         exact .inl ⟨x+128^k*b,j,m.out.done (by omega) (by omega),VIn.fits p (by omega) (.inl (by omega)),by rw[show((b:Int)%128)=(b:Int) from by omega];simp,a,qw8 f c⟩)
       |(go_roundw
         case rel=>exact⟨k+1,x+128^k*(b-128),j,by go_num,by omega,by rw[show((b:Int)%128)=((b-128:Nat):Int) from by omega];simp,m.out.step (by omega) n,fun y K=>o y (quq _ K),a,qw8 f c⟩
         case measure=>simp[intOf];omega)
 ·rintro L N ⟨u,u,u,u,u,u,u,u,u,u,u,u,u,u,u,u,u,u,u,u,u,u,u,u,u,u,u,u,u,u,u,u,u,u,u,u,u,u,u,u,u,j,G,rfl,a,f,A⟩
  have hF:=qwk (zim a);go_wp2_with (go_at_call 116;refine hF.out.mono ?_;rintro e q ⟨rfl,F,H⟩)
  simp only[Exit.jump];go_ret
  exact .inr ⟨A,rfl,F,qw8 f H⟩
theorem qkz{w:World}{g:Nat}{l:List Nat}{a:Bool}(h:Cur w g l a)(d:a=true\/l.length<1):
 Calls Tryz.prog 117 #[.pointer (some ⟨g,0,none⟩)] w (zdn (.returned (.int .u64 0)) g [] true w):=by
 have B:=qwk (zo6 h d);clear d;go_enter Tryz.func117,Tryz.ntmps117
 go_wp2
 refine wp_scope_jumps 0 (qps g [] w) (fun _ _=>0) rfl ?_ ?_
 ·go_wp2
  refine wp_loop_rounds 1 ?_;rw[rounds_succ];go_wp2_with (first
   |(go_at_call 137;refine B.out.mono ?_;rintro e s ⟨rfl,b,i⟩
     have k:=qwk (zlc b))
   |(go_at_call 98;refine k.out.mono ?_;rintro e o ⟨rfl,rfl⟩)
   |go_step3)
  exact⟨rfl,_,_,_,_,_,_,_,_,_,_,_,_,_,_,_,_,_,_,_,_,_,_,_,_,_,_,_,_,_,_,_,_,_,_,_,_,_,_,_,_,_,_,_,rfl,b,i,(VIn.zero []).not_nil⟩
 ·rintro p r ⟨u,u,u,u,u,u,u,u,u,u,u,u,u,u,u,u,u,u,u,u,u,u,u,u,u,u,u,u,u,u,u,u,u,u,u,u,u,u,u,u,u,q,c,rfl,b,m,n⟩
  have hF:=qwk (zim b);go_wp2_with (go_at_call 116;refine hF.out.mono ?_;rintro e o ⟨rfl,f,j⟩)
  simp only[Exit.jump];go_ret
  exact⟨rfl,f,qw8 m j⟩
theorem zz0{w:World}{g N:Nat}{r:List Nat}(h:Cur w g (vp N++r) false)(j:N<18446744073709551616):
 Calls Tryz.prog 117 #[.pointer (some ⟨g,0,none⟩)] w (zdn (.returned (.int .u64 (N:Int))) g r false w):=
 (z9r h h.lt8).mono fun e k f=>by
  rcases f with⟨M,s,a,i,b,c,d⟩|⟨a,_⟩
  ·obtain⟨rfl,rfl⟩:=z4z N N M r s (qq0 _) a
   exact⟨b,c,d⟩
  ·have:=a N r rfl
   omega
theorem z9s{w:World}{g:Nat}{l:List Nat}{a:Bool}(h:Cur w g l a)(b:a=true\/ ∀N r,l=vp N++r->18446744073709551616<=N):
 Calls Tryz.prog 117 #[.pointer (some ⟨g,0,none⟩)] w (zdn (.returned (.int .u64 0)) g [] true w):=by
 cases a with
 |true=>exact qkz h (.inl rfl)
 |false=>
  refine(z9r h h.lt8).mono fun e m j=>?_
  rcases j with⟨M,s,c,d,f,i,k⟩|⟨c,d,f,i⟩
  ·rcases b with b|b
   ·simp at b
   ·have:=b M s c
    omega
  ·exact⟨d,f,i⟩
theorem qk0{w:World}{g N:Nat}{r:List Nat}{m:Int}(h:Cur w g (vp N++r) false)(c:(N:Int)<=m)(hm:m<=9223372036854775807):
 Calls Tryz.prog 97 #[.pointer (some ⟨g,0,none⟩),.int .i64 m] w (zdn (.returned (.int .i64 (N:Int))) g r false w):=by
 have G:=qwk (zz0 h (by omega));go_enter Tryz.func97,Tryz.ntmps97
 go_wp2_with (go_at_call 117;refine G.out.mono ?_;rintro e d ⟨rfl,a,b⟩)
 go_ret
 exact⟨rfl,a,b⟩
theorem qm5{w:World}{g:Nat}{l:List Nat}{a:Bool}{m:Int}(h:Cur w g l a)(d:a=true\/ ∀N r,l=vp N++r->m<N)(t: -9223372036854775808<=m)(hm:m<=9223372036854775807):
 Calls Tryz.prog 97 #[.pointer (some ⟨g,0,none⟩),.int .i64 m] w (zdn (.returned (.int .i64 0)) g [] true w):=by
 by_cases j:a=true\/ ∀N r,l=vp N++r->18446744073709551616<=N
 ·have G:=qwk (z9s h j)
  clear j d;go_enter Tryz.func97,Tryz.ntmps97
  by_cases o:m<0
  ·go_wp2_with (first
    |(go_at_call 117;refine G.out.mono ?_;rintro e p ⟨rfl,b,c⟩
      have hF:=qwk (zim b))
    |(go_at_call 116;refine hF.out.mono ?_;rintro e q ⟨rfl,f,i⟩))
   go_ret
   exact⟨rfl,f,qw8 c i⟩
  ·go_wp2_with (first
    |(go_at_call 117;refine G.out.mono ?_;rintro e p ⟨rfl,b,c⟩))
   go_ret
   exact⟨rfl,b,c⟩
 ·simp only[not_or,Classical.not_forall] at j
  obtain⟨k,N,r,rfl,s⟩:=j;have n:a=false:=by simpa using k
  subst n;have u:m<N:=by rcases d with d|d;exact absurd d k;exact d N r rfl
  have G:=qwk (zz0 h (by omega));clear d k;go_enter Tryz.func97,Tryz.ntmps97
  by_cases o:m<0
  ·go_wp2_with (first
    |(go_at_call 117;refine G.out.mono ?_;rintro e p ⟨rfl,b,c⟩
      have hF:=qwk (zim b))
    |(go_at_call 116;refine hF.out.mono ?_;rintro e q ⟨rfl,f,i⟩))
   go_ret
   exact⟨rfl,f,qw8 c i⟩
  ·go_wp2_with (first
    |(go_at_call 117;refine G.out.mono ?_;rintro e p ⟨rfl,b,c⟩
      have hF:=qwk (zim b))
    |(go_at_call 116;refine hF.out.mono ?_;rintro e q ⟨rfl,f,i⟩))
   go_ret
   exact⟨rfl,f,qw8 c i⟩
def CurS(w:World)(g:Nat)(S:St):Prop:=Cur w g (S.getD []) S.isNone
section
variable{w w':World}{g:Nat}{S:St}
theorem CurS.lt(h:CurS w g S):g<w.heap.size:=Cur.lt h
theorem CurS.below(h:CurS w g S)(a:Below w.heap.size w w'):CurS w' g S:=Cur.below h a
theorem CurS.keep{a:Nat}{t:TypeId}{cs:Array Value}(h:CurS w g S)(d:w.grownBy w' (some a))(c:Blk w a t cs)(b:g≠a)(e:5≠t):CurS w' g S:=Cur.keep h d c b e
theorem CurS.blk(h:CurS w g S):∃cs,Blk w g 180 cs:=Cur.blk h
theorem CurS.push{e:TypeId}{base:Nat}{v:Value}{xs:List Value}(h:CurS w g S)(o:Own w base e v xs)(a:w.grownBy w' v.ownBlock)(b:e≠180)(c:5≠e):CurS w' g S:=by
 cases hv:v.ownBlock with
 |none=>
  rw[hv] at a;exact h.below ((qxg (T:=[]) a).new (by simp))
 |some j=>
  obtain⟨l,d⟩:=o.row j hv;rw[hv] at a;obtain⟨f,k⟩:=h.blk;exact h.keep a d (fun i=>by subst i;exact qw2 d k b rfl) c
theorem CurS.ok(h:CurS w g S):S.ok:=by intro l e;subst e;exact Cur.lt8 h
theorem CurS.of{l:List Nat}(h:Cur w g l false):CurS w g (some l):=h
theorem CurS.len(h:CurS w g S):(S.getD []).length<=9223372036854775807:=by have:=Cur.len h;unfold maxLen at this;omega
end
def z9t(e0:Ending)(g:Nat)(S:St)(w:World)(e:Ending)(w':World):Prop:=e=e0/\CurS w' g S/\w.grownBy w' (some g)
theorem zqp{w:World}{g:Nat}{S:St}(h:CurS w g S):Calls Tryz.prog 116 #[.pointer (some ⟨g,0,none⟩)] w (z9t (.returned (.tuple #[])) g none w):=zim h
theorem qir{w:World}{g:Nat}{S:St}(h:CurS w g S):Calls Tryz.prog 98 #[.pointer (some ⟨g,0,none⟩)] w (zui S.isNone w):=zlc h
theorem zmh{w:World}{g:Nat}{S:St}(h:CurS w g S):Calls Tryz.prog 100 #[.pointer (some ⟨g,0,none⟩)] w (zui (z7k S) w):=by
 have:=qkh h;have e:z7k S=(!S.isNone&&(S.getD []).isEmpty):=by
  cases S with
  |none=>rfl
  |some l=>cases l<;> simp[z7k]
 rw[e];exact this
theorem qo1{w:World}{g:Nat}{S:St}(h:CurS w g S):Calls Tryz.prog 168 #[.pointer (some ⟨g,0,none⟩)] w (zuh (S.getD []) w):=qey h
theorem zjm{w:World}{g:Nat}{S:St}(h:CurS w g S):Calls Tryz.prog 137 #[.pointer (some ⟨g,0,none⟩)] w (z9t (.returned (.int .u8 ((zbn S).1:Int))) g (zbn S).2 w):=by
 cases S with
 |none=>exact zo6 h (.inl rfl)
 |some l=>
  cases l with
  |nil=>exact zo6 h (.inr (by simp))
  |cons b r=>exact z1w h
def qo2(x:List Nat)(g:Nat)(S:St)(w:World)(e:Ending)(w':World):Prop:=
 ∃A n c,e= .returned (.slice A n c)/\n=x.length/\Own w' w.heap.size 5 (.slice A n c) (zar .u8 x)/\CurS w' g S/\w.grownBy w' (some g)
theorem zqq{w:World}{g:Nat}{n:Int}{S:St}(h:CurS w g S)(f: -9223372036854775808<=n)(p:n<=140737488355328):Calls Tryz.prog 136 #[.pointer (some ⟨g,0,none⟩),.int .i64 n] w (qo2 (zcv n S).1 g (zcv n S).2 w):=by
 rcases zcl n S with a|⟨l,rfl,i,q,a⟩
 ·rw[a]
  have j:S.isNone=true\/n<0\/((S.getD []).length:Int)<n:=by
   unfold zcv at a;cases S with
   |none=>exact .inl rfl
   |some l=>
    simp only at a;split at a
    ·simp at a
    ·rename_i r
     simp only[qsi];omega
  refine(qe2 h j f (by omega)).mono ?_;rintro e w' ⟨rfl,b,d⟩;exact⟨none,0,0,rfl,rfl,qw0,b,d⟩
 ·rw[a]
  obtain⟨m,rfl⟩:=qsu i;simp only[qrn];have k:m<=l.length:=by omega
  refine(z80 (l:=l) (n:=m) h k (by omega)).mono ?_;rintro e w' ⟨A,c,rfl,b,d,o⟩;exact⟨A,m,c,rfl,by rw[qqx];omega,b,d,o⟩
theorem z2a{w:World}{g:Nat}{S:St}(h:CurS w g S):Calls Tryz.prog 117 #[.pointer (some ⟨g,0,none⟩)] w (z9t (.returned (.int .u64 ((zk3 S).1:Int))) g (zk3 S).2 w):=by
 rcases hc:zk3 S with⟨v,T⟩;have b:=h.ok;cases S with
 |none=>
  simp only[zk3,qqg] at hc;obtain⟨rfl,rfl⟩:=hc;exact z9s h (.inl rfl)
 |some l=>
  simp only[zk3] at hc;split at hc
  ·rename_i N r a
   obtain⟨c,d⟩:=zzl (b l rfl) a;simp only[qqg] at hc;obtain⟨rfl,rfl⟩:=hc;subst c;exact zz0 h d
  ·rename_i a
   simp only[qqg] at hc;obtain⟨rfl,rfl⟩:=hc;exact z9s h (.inr (qkm a))
theorem zei{w:World}{g:Nat}{m:Int}{S:St}(h:CurS w g S)(c: -9223372036854775808<=m)(hm:m<=9223372036854775807):Calls Tryz.prog 97 #[.pointer (some ⟨g,0,none⟩),.int .i64 m] w (z9t (.returned (.int .i64 ((lenS m S).1:Int))) g (lenS m S).2 w):=by
 have d:=h.ok;by_cases b:∃N r,S=some (vp N++r)/\(N:Int)<=m
 ·obtain⟨N,r,rfl,f⟩:=b
  rw[zb9 N r f hm];exact qk0 h f hm
 ·have e:lenS m S=(0,none):=by
   rcases zbx m S d with a|⟨N,r,a,j,_,_⟩
   ·exact a
   ·exact absurd ⟨N,r,a,j⟩ b
  rw[e];refine qm5 h ?_ c hm;cases S with
  |none=>exact .inl rfl
  |some l=>
   refine .inr fun N r i=>?_
   simp only[qsi] at i;subst i;rcases Int.lt_or_le m N with a|a
   ·exact a
   ·exact absurd ⟨N,r,rfl,a⟩ b
end Go.Proofs.Y
