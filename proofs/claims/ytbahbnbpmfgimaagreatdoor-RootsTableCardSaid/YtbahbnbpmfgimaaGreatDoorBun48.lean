import Derived.Test.YtbahbnbpmfgimaaGreatDoorBun47
set_option maxHeartbeats 2000000
set_option maxRecDepth 100000
namespace Go.Proofs.Y
open Go Go.RowKit Go.Hm
theorem z3p{F:FootS}{b:List Nat}(h:zbs F)(r:szG F.groups+4<=b.length){k j q:Nat}(a:k<F.groups.length)(d:j<F.cols.length)(c:q<(zax F.groups k j).length):
 zym b F (k:Int) (j:Int) (q:Int)=some ((((ze9 F.groups (b.drop 4)).getD k []).getD j []).getD q []):=by
 have f:(F.groups.getD k zao).2.length=F.cols.length:=(zc5 h a).2.1;have s:=(zlm h a d c).2.2.2;have e:=z54 h a d (q:=q);have g:=zva a;have i:=qiy F.groups (k+1);have l:=zu9 (C:=(F.groups.getD k zao).2) (j:=j) (by omega);have m:=qix (F.groups.getD k zao).2 (j+1);have n:szL ((zax F.groups k j).take (q+1))=_:=z20 c;have o:=qiw (zax F.groups k j) (q+1);have p:szL ((F.groups.getD k zao).2.getD j [])=szL (zax F.groups k j):=rfl;unfold zym;rw[z3o h a d c,e];simp only[qrn];rw[if_neg (by omega),if_neg (by omega)];congr 1
 rw[zjr _ _ _ a,cutC_at _ _ _ (by omega)];rw[show(F.groups.getD k zao).2.getD j []=zax F.groups k j from rfl,z0j _ _ _ c,qth,qth,qth];congr 2
 omega
theorem qhx:zee [] 0 [] 1 1 []=(0,[72,89,80,79,0,0,0,3,0,0,0,79,80,89,72]):=by
 have b:ze1 [] 0 []=0:=by decide
 have c:zdg 1 1 [] []=0:=by decide
 have a:zbl 0 0 1=[]:=by decide
 have d:zsj fz=some [0,0,0]:=by unfold zsj;rw[if_pos qnz,zpm]
 unfold zee;rw[if_neg (by rw[b];simp),if_neg (by rw[c];simp)];have e:zb7 [] 0 [] (([]:List zdw).map (·.2.2)) 1 1=fz:=by unfold zb7;rw[a];rfl
 rw[a,e,d];rfl
open Go.RowKit Go.Hm
def zt4(L:List za2):Int:=(L.map fun c=>(c.1.length:Int)).sum
def z7h(l:List zab):Int:=(l.map fun c=>(c.2.2.1.length:Int)).sum
def zyt(D:List zdw):Int:=(D.map fun d=>(d.2.2.length:Int)+z7h d.2.2).sum
theorem qde{L:List za2}{k:Nat}(h:k<L.length):zt4 (L.take (k+1))=zt4 (L.take k)+((L.getD k ([],0,false)).1.length:Int):=by rw[zac _ k ([],0,false) h];simp[zt4]
theorem qdf{l:List zab}{k:Nat}(h:k<l.length):z7h (l.take (k+1))=z7h (l.take k)+((l.getD k (false,0,[],0,0)).2.2.1.length:Int):=by rw[zac _ k (false,0,[],0,0) h];simp[z7h]
theorem qdg{D:List zdw}{k:Nat}(h:k<D.length):zyt (D.take (k+1))=zyt (D.take k)+(((D.getD k (none,0,[])).2.2.length:Int)+z7h (D.getD k (none,0,[])).2.2):=by rw[zac _ k (none,0,[]) h];simp[zyt]
theorem z1c(a b:Int):IntKind.i64.wrap (IntKind.i64.wrap a+b)=IntKind.i64.wrap (a+b):=by rw[qwr,qwr,qwr];omega
def zyu(n:Int)(w:World)(e:Ending)(w':World):Prop:=∃b,e= .returned (.bool b)/\(b=true->IntKind.i64.wrap n<=3000)/\New w w'
theorem zyv{w:World}{Ac:Option Addr}{cc:Nat}{L:List za2}{r:Int}{o:Option Addr}{cd:Nat}{D:List zdw}(h:TabIn w Ac cc L o D):
 Calls Tryz.prog 26 #[.agg #[.slice Ac L.length cc,.int .i64 r,.slice o D.length cd]] w (zyu (zt4 L+zyt D) w):=by
 obtain⟨n,e⟩:∃W,W=w.alloc (.cells #[.slice Ac L.length cc,.int .i64 r,.slice o D.length cd] 56):=⟨_,rfl⟩;have A:New w n:=by rw[e];exact(qwd _ _).alloc (qq0 _) _
 have M:Blk n w.heap.size 56 #[.slice Ac L.length cc,.int .i64 r,.slice o D.length cd]:=by rw[e];exact qw1 _ _ _
 obtain⟨I,J,K⟩:=zan M;have T:=qwk (h.later A);have l1:=h.few;have l2:=h.few2;go_enter Tryz.func26,Tryz.ntmps26
 have z:=qwk e;rw[e] at I J K;clear e h;go_wp2_with fail
 rw[<-z.out];rw[<-z.out] at I J K;go_loopw [3,4] (fun v i wr=>∃(k:Nat) (x:Int),i= .int .i64 (k:Int)/\v= .int .i64 x/\k<=L.length/\n=wr/\Hid (x=IntKind.i64.wrap (zt4 (L.take k)))) (fun _ i _=>L.length-(intOf i).toNat)
 case atStart=>exact⟨0,0,rfl,rfl,by omega,rfl,qwk (by rw[qrq];rfl)⟩
 case round=>
  obtain⟨k,x,rfl,rfl,V,rfl,b⟩:=hrel;by_cases c:k<L.length
  ·obtain⟨O,rfl,q,B,C,Q⟩:=T.out.cols.colT c
   have Y:=(T.out.fine _ (zr0 ([],0,false) c)).2;have m:=qwk (qde c);generalize(L.getD k ([],0,false)).1=g at*;have zs:=zbq g;have s:(k:Int)<(L.length:Int):=by omega
   have a:IntKind.i64.wrap (x+(g.length:Int))=IntKind.i64.wrap (zt4 (L.take (k+1))):=by rw[m.out,b.out,z1c]
   generalize Z:IntKind.i64.wrap (x+(g.length:Int))=y at*;have d:=qwk a;clear a b m;go_wp2
   go_roundw
   case rel=>exact⟨k+1,_,by go_num,rfl,by omega,trivial,d⟩
   case measure=>simp[intOf];omega
  ·obtain rfl:k=L.length:=by omega
   go_wp2
   go_loopw [3,5] (fun v i wr=>∃(k:Nat) (x:Int),i= .int .i64 (k:Int)/\v= .int .i64 x/\k<=D.length/\n=wr/\Hid (x=IntKind.i64.wrap (zt4 L+zyt (D.take k)))) (fun _ i _=>D.length-(intOf i).toNat)
   case atStart=>exact⟨0,_,rfl,rfl,by omega,rfl,qwk (by rw[b.out,quw,qrq];simp[zyt])⟩
   case round=>
    clear b;obtain⟨k,x,rfl,rfl,V,rfl,b⟩:=hrel;by_cases c:k<D.length
    ·obtain⟨O,rfl,q,c0⟩:=T.out.data.colD c
     have E:=qwk (T.out.within _ (zr0 (none,0,[]) c));have N:=qwk (qdg c);generalize(D.getD k (none,0,[])).1=aA at*;generalize(D.getD k (none,0,[])).2.2=l at*;generalize(D.getD k (none,0,[])).2.1=cA at*;have s:(k:Int)<(D.length:Int):=by omega
     have X:l.length<=9223372036854775807:=by have:=E.out.2.2.1;have:=E.out.2.2.2.1;omega
     have a:IntKind.i64.wrap (x+(l.length:Int))=IntKind.i64.wrap (zt4 L+zyt (D.take k)+(l.length:Int)):=by rw[b.out,z1c]
     generalize Z:IntKind.i64.wrap (x+(l.length:Int))=y at*;have d:=qwk a;clear a b;go_wp2
     go_loopw [3,6] (fun v i wr=>∃(j:Nat) (x:Int),i= .int .i64 (j:Int)/\v= .int .i64 x/\j<=l.length/\n=wr/\Hid (x=IntKind.i64.wrap (zt4 L+zyt (D.take k)+(l.length:Int)+z7h (l.take j)))) (fun _ i _=>l.length-(intOf i).toNat)
     case atStart=>exact⟨0,_,rfl,rfl,by omega,rfl,qwk (by rw[d.out,qrq];simp[z7h])⟩
     case round=>
      clear d;obtain⟨j,x,rfl,rfl,hj,rfl,b⟩:=hrel;by_cases f:j<l.length
      ·obtain⟨t,u,_⟩:=E.out
       obtain⟨P,U,G,B,C,Q,R,S⟩:=t.cell5 f;subst U;have Y:=(u _ (zr0 (false,0,[],0,0) f)).1;have m:=qwk (qdf f);generalize(l.getD j (false,0,[],0,0)).2.2.1=g at*;have zs:=zbq g;have H:(j:Int)<(l.length:Int):=by omega
       have a:IntKind.i64.wrap (x+(g.length:Int))=IntKind.i64.wrap (zt4 L+zyt (D.take k)+(l.length:Int)+z7h (l.take (j+1))):=by rw[m.out,b.out,z1c];congr 1;omega
       generalize a0:IntKind.i64.wrap (x+(g.length:Int))=y2 at*;have d:=qwk a;clear a b m;clear t u B C R S;go_wp2
       go_roundw
       case rel=>exact⟨j+1,_,by go_num,rfl,by omega,trivial,d⟩
       case measure=>simp[intOf];omega
      ·obtain rfl:j=l.length:=by omega
       go_wp2
       go_roundw
       case rel=>exact⟨k+1,_,by go_num,rfl,by omega,trivial,qwk (by rw[b.out,N.out,quw];congr 1;omega)⟩
       case measure=>simp[intOf];omega
    ·obtain rfl:k=D.length:=by omega
     have p:=b.out;rw[quw] at p;have b:=qwk p;clear p;go_wp2
     all_goals go_ret
     all_goals refine⟨_,rfl,fun F=>?_,A⟩
     all_goals first|(cases F;done)|(rw[<-b.out];simpa using F)|(rw[<-b.out];assumption)|(rw[<-b.out];simp_all)|skip
def Wt(l:List zab):Nat:=598*l.length+fsum (za4 l)
theorem qji(a b:List zab):Wt (a++b)=Wt a+Wt b:=by unfold Wt za4;rw[que,zfq,qrp];omega
theorem qdk:∀L:List (List zab),Wt L.flatten=(L.map Wt).sum
 | []=>by simp[Wt,za4,fsum]
 |l::L=>by rw[qvg,qji,qdk L,qrj,qt7]
theorem zgc{α β:Type}(f:α->β->Nat)(cs:List β):∀l:List α,(l.map fun s=>(cs.map fun c=>f s c).sum).sum=(cs.map fun c=>(l.map fun s=>f s c).sum).sum
 | []=>by
   have:∀cs:List β,(cs.map fun _=>(0:Nat)).sum=0:=by
    intro cs;induction cs with
    |nil=>rfl
    |cons c cs a=>simpa using a
   simpa using(this cs).symm
 |s::l=>by
  have b:∀cs:List β,(cs.map fun c=>f s c).sum+(cs.map fun c=>(l.map fun s=>f s c).sum).sum=(cs.map fun c=>((s::l).map fun s=>f s c).sum).sum:=by
   intro cs;induction cs with
   |nil=>rfl
   |cons c cs a=>
    simp only[qrj,qt7] at a⊢;omega
  rw[qrj,qt7,zgc f cs l,b cs]
section
variable{L:List za2}{E:List Int}{D:List (List zab)}{pr:Int}
theorem qdl{c:Nat}:∀(l:List (Int × Int)),(∀q∈l,(pgF L E D c q).length<=Wt (zak D c q))->(l.map (pgF L E D c)).flatten.length<=Wt (l.map (zak D c)).flatten
 | [],_=>by simp
 |q::l,h=>by
  have h1:=h q (by simp);have d:=qdl l fun b a=>h b (by simp[a])
  rw[qrj,qrj,qvg,qvg,qrp,qji];omega
theorem qog{l:List (Int × Int)}:∀(cs:List Nat),(∀c∈cs,∀q∈l,(pgF L E D c q).length<=Wt (zak D c q))->(zkr L E D l cs).flatten.flatten.length<=(cs.map fun c=>Wt (l.map (zak D c)).flatten).sum
 | [],_=>by simp[zkr]
 |c::cs,h=>by
  have h1:=qdl l (h c (by simp));have d:=qog cs fun b a=>h b (by simp[a])
  have e:zkr L E D l (c::cs)=l.map (pgF L E D c)::zkr L E D l cs:=rfl;rw[e,qvg,qul,qrp,qrj,qt7];omega
theorem qoh:∀(S:List (Int × Int)),(∀s∈S,∀c,c<L.length-> ∀q∈zbl s.1 s.2 pr,(pgF L E D c q).length<=Wt (zak D c q))->
 (zhm L E D pr S).flatten.flatten.flatten.length<=(S.map fun s=>((List.range L.length).map fun c=>Wt ((zbl s.1 s.2 pr).map (zak D c)).flatten).sum).sum
 | [],_=>by simp[zhm]
 |s::S,h=>by
  have h1:=qog (L:=L) (E:=E) (D:=D) (l:=zbl s.1 s.2 pr) (List.range L.length) fun c b=>h s (by simp) c (qtn.1 b)
  have f:=qoh S fun d a=>h d (by simp[a])
  have e:zhm L E D pr (s::S)=zkr L E D (zbl s.1 s.2 pr) (List.range L.length)::zhm L E D pr S:=rfl;rw[e,qvg,qul,qul,qrp,qrj,qt7];omega
end
theorem zr1(f:List zab->Nat)(D:List (List zab)):((List.range D.length).map fun c=>f (D.getD c [])).sum=(D.map f).sum:=by
 have e:(List.range D.length).map (fun c=>f (D.getD c []))=D.map f:=by
  apply qre (by simp);intro i a d;have b:i<D.length:=by simpa using a
  simp[List.getD_eq_getElem?_getD,b]
 rw[e]
theorem qmc{L:List za2}{r:Int}{E:List Int}{D:List (List zab)}{gr pr:Int}(h:WrOk L r D gr pr)(j:∀s∈zbl 0 r gr,∀c,c<L.length-> ∀q∈zbl s.1 s.2 pr,(pgF L E D c q).length<=Wt (zak D c q)):
 (zhm L E D pr (zbl 0 r gr)).flatten.flatten.flatten.length<=(D.map Wt).sum:=by
 have a:=qoh (L:=L) (E:=E) (D:=D) (pr:=pr) (zbl 0 r gr) j;have d:=zgc (fun(s:Int × Int) (c:Nat)=>Wt ((zbl s.1 s.2 pr).map (zak D c)).flatten) (List.range L.length) (zbl 0 r gr);have f:((List.range L.length).map fun c=>((zbl 0 r gr).map fun s=>Wt ((zbl s.1 s.2 pr).map (zak D c)).flatten).sum)=(List.range L.length).map fun c=>Wt (D.getD c []):=by apply qsk;intro c i;have g:=zkt h (qtn.1 i);have e:=qdk ((zbl 0 r gr).map fun s=>((zbl s.1 s.2 pr).map (zak D c)).flatten);rw[g,qsj] at e;exact e.symm
 have b:=zr1 Wt D;rw[h.len] at b;rw[d,f,b] at a;exact a
theorem qjj(D:List (List zab))(c:Nat)(q:Int × Int):fsum (za4 (zak D c q))<=fsum (za4 (D.getD c [])):=by
 have d:∀(l:List zab) (a b:Nat),fsum (za4 ((l.drop a).take b))<=fsum (za4 l):=by
  intro l a b;have e:l=l.take a++((l.drop a).take b++(l.drop a).drop b):=by rw[qtq,qtq]
  have f:fsum (za4 l)=fsum (za4 (l.take a))+(fsum (za4 ((l.drop a).take b))+fsum (za4 ((l.drop a).drop b))):=by
   conv=>lhs;rw[e]
   unfold za4;rw[que,que,zfq,zfq]
  omega
 exact d _ _ _
theorem qoi{L:List za2}{r:Int}{E:List Int}{D:List (List zab)}{gr pr:Int}(h:WrOk L r D gr pr)(m:∀c,c<L.length->zq1 (L.getD c zeo).2.1 (E.getD c 0))(p:∀c,c<L.length-> ∀y∈D.getD c [],zad y (L.getD c zeo).2.1 (L.getD c zeo).2.2=true)
 (t:∀c,c<L.length->fsum (za4 (D.getD c []))<=16777216){s q:Int × Int}{c:Nat}(k:s∈zbl 0 r gr)(d:c<L.length)(l:q∈zbl s.1 s.2 pr):
 (zg1 L E D c q).1=0/\(pgF L E D c q).length<=Wt (zak D c q):=by
 obtain⟨n,rfl⟩:=qsu h.rows.1;have v:=h.rows.2;have g:(D.getD c []).length=n:=by have:=h.all _ (zah [] (show c<D.length by rw[h.len];exact d));omega
 obtain⟨a,b,rfl,w,A,B⟩:=zfi (f:=0) k;obtain⟨x,y,rfl,C,F,G⟩:=zfi l;have o:=zjy (D:=D) (c:=c) (show x<=y by omega) (by rw[g];omega);have e:=h.cols.2.1 _ (zah zeo d);have i:∀z∈zak D c ((x:Int),(y:Int)),zad z (L.getD c zeo).2.1 (L.getD c zeo).2.2=true:=fun z j=>p c d z (by unfold zak at j;exact qte (qro j))
 obtain⟨u,H⟩:=qmb (nu:=(L.getD c zeo).2.2) ⟨e.2.2.1,e.2.2.2⟩ (m c d) (by omega) i (zvp h.data c ((x:Int),(y:Int))) (qqs (qjj D c ((x:Int),(y:Int))) (t c d));refine⟨u,?_⟩;unfold Wt;unfold pgF zg1;omega
theorem map_le_sum{α:Type}{f g:α->Nat}:∀(l:List α),(∀x∈l,f x<=g x)->(l.map f).sum<=(l.map g).sum
 | [],_=>by simp
 |x::l,h=>by
  have h1:=h x (by simp);have b:=map_le_sum (f:=f) (g:=g) l fun y a=>h y (by simp[a])
  simp only[qrj,qt7];omega
theorem zen{α:Type}(f g:α->Nat):∀l:List α,(l.map fun x=>f x+g x).sum=(l.map f).sum+(l.map g).sum
 | []=>rfl
 |x::l=>by
  have:=zen f g l;simp only[qrj,qt7];omega
theorem zvv{α:Type}(f:α->Nat)(K:Nat):∀l:List α,(l.map fun x=>f x*K).sum=(l.map f).sum*K
 | []=>by simp
 |x::l=>by
  have:=zvv f K l;simp only[qrj,qt7,qsw];omega
theorem zm9{α:Type}(k:Nat):∀l:List α,(l.map fun _=>k).sum=l.length*k
 | []=>by simp
 |x::l=>by
  have:=zm9 k l;simp only[qrj,qt7,qr1,qsv];omega
theorem zn7{α:Type}{f:α->Nat}:∀{l:List α} {x:α},x∈l->f x<=(l.map f).sum
 | [],_,h=>by cases h
 |y::l,x,h=>by
  rw[qrj,qt7];rcases qsm.1 h with rfl|h
  ·omega
  ·have:=zn7 (f:=f) h
   omega
theorem qdm{g p:Int}{E:List Int}{L:List za2}(h:zdg g p E L=0):E.length=L.length/\ ∀c,c<L.length->zq1 (L.getD c zeo).2.1 (E.getD c 0):=by
 unfold zdg at h;split at h
 ·omega
 ·rename_i a
  split at h
  ·rename_i b
   have a:=qvx.1 a;exact⟨a.2.2.2.2,fun c d=>b c (by omega)⟩
  ·omega
theorem zyw{L:List za2}{r:Int}{a:List zdw}(h:ze1 L r a=0):∀c,c<L.length-> ∀y∈(a.map (·.2.2)).getD c [],zad y (L.getD c zeo).2.1 (L.getD c zeo).2.2=true:=by
 intro c g y b;have e:=(zm6 h).1;have f:zi1 a L=true:=by
  unfold ze1 at h;split at h
  ·rename_i q;exact absurd h q
  ·split at h
   ·rename_i q;exact absurd h q
   ·split at h
    ·assumption
    ·omega
 rw[zbm (fun d:zdw=>d.2.2) a dZ [] (by omega)] at b;have:=zlp e f (k:=c) (by omega);exact qs9.1 this y b
theorem qdn:∀l:List zab,z7h l=(fsum (za4 l):Int)
 | []=>rfl
 |c::l=>by
  have ih:=qdn l;have e:fsum (za4 (c::l))=c.2.2.1.length+fsum (za4 l):=by unfold za4;rw[qrj,zet]
  have a:z7h (c::l)=(c.2.2.1.length:Int)+z7h l:=by simp[z7h]
  rw[e,a,ih];omega
theorem qdo:∀D:List zdw,zyt D=((((D.map (·.2.2)).map List.length).sum:Nat):Int)+((((D.map (·.2.2)).map fun l=>fsum (za4 l)).sum:Nat):Int)
 | []=>rfl
 |d::D=>by
  have ih:=qdo D;have a:zyt (d::D)=((d.2.2.length:Int)+z7h d.2.2)+zyt D:=by simp[zyt]
  rw[a,ih,qdn];simp only[qrj,qt7];omega
theorem qdp:∀L:List za2,(∀c∈L,c.1.length<=100)->0<=zt4 L/\zt4 L<=100*(L.length:Int)
 | [],_=>by simp[zt4]
 |c::L,h=>by
  have ih:=qdp L fun x a=>h x (by simp[a])
  have b:=h c (by simp);have e:zt4 (c::L)=(c.1.length:Int)+zt4 L:=by simp[zt4]
  rw[e,qr1];omega
theorem qoj(C:List (List zab)):(C.map Wt).sum=598*(C.map List.length).sum+(C.map fun l=>fsum (za4 l)).sum:=by
 have e:C.map Wt=C.map fun l=>l.length*598+fsum (za4 l):=by apply qsk;intro l _;unfold Wt;omega
 rw[e,zen (fun l:List zab=>l.length*598),zvv];omega
theorem qmd{c:zab}{t:Int}{nu:Bool}(h:zad c t nu=true):c.2.2.1.length<=65536:=by
 cases h0:c.1 with
 |false=>exact zgg (zlk (zn1 h) h0)
 |true=>
  unfold zad at h;rw[if_pos h0] at h;simp at h;rw[h.2.2.1];simp
theorem z30{α:Type}{f:α->Nat}{k:Nat}:∀(l:List α),(∀x∈l,f x<=k)->(l.map f).sum<=l.length*k
 | [],_=>by simp
 |x::l,h=>by
  have h1:=h x (by simp);have b:=z30 (f:=f) l fun y a=>h y (by simp[a])
  simp only[qrj,qt7,qr1,qsv];omega
def mP(p:za3):Nat:=120+p.2.2.2.2.1.2.2.1.length+p.2.2.2.2.2.2.2.1.length
theorem qme{t:Int}{p:za3}(e:p.1.toNat<18446744073709551616)(f:p.2.1.toNat<18446744073709551616):(zfj t p).length<=mP p:=by
 have a:=zae (n:=p.1.toNat) e;have b:=zae (n:=p.2.1.toNat) f;have c:(putS [] t p.2.2).length<=90+p.2.2.2.2.1.2.2.1.length+p.2.2.2.2.2.2.2.1.length:=by
  unfold putS;split
  ·rename_i h
   have o:=(zkd h).2;have j:=zae (n:=p.2.2.1.toNat) (by omega);split
   ·rename_i d
    have k:=zpe h d;have l:=zae (n:=(zkw t p.2.2).length) (by omega);obtain⟨g,i,-⟩:=zke h d;have q:=znk g;have r:=znk i;have m:(zkw t p.2.2).length<=40+p.2.2.2.2.1.2.2.1.length+p.2.2.2.2.2.2.2.1.length:=by
     unfold zkw plB;split
     ·rw[za0];simp;omega
     ·simp only[qt6,qut,qra,qrp]
      omega
    simp only[qrp,qr1,qub];omega
   ·simp only[qrp,qr1,qub]
    omega
  ·simp
 unfold zfj mP;simp only[qrp];omega
def z31(p:za3):Prop:=p.1.toNat<18446744073709551616/\p.2.1.toNat<18446744073709551616
theorem qdq{t:Int}:∀l:List za3,(∀p∈l,z31 p)->(l.flatMap (zfj t)).length<=(l.map mP).sum
 | [],_=>by simp
 |p::l,h=>by
  have a:=qme (t:=t) (h p (by simp)).1 (h p (by simp)).2;have b:=qdq (t:=t) l fun q c=>h q (by simp[c])
  rw[qt6,qrp,qrj,qt7];omega
theorem z32:∀(cs:List za2) (C:List (List za3)),(∀l∈C,∀p∈l,z31 p)->(∀l∈C,l.length<=65536)->(zbu cs C).length<=(C.map fun l=>10+(l.map mP).sum).sum
 | [],C,_,_=>by simp[zbu]
 |c::cs,[],_,_=>by simp[zbu]
 |c::cs,l::C,h,hm=>by
  have h1:=qdq (t:=c.2.1) l (h l (by simp));have e:=zae (n:=l.length) (by have:=hm l (by simp);omega);have d:=z32 cs C (fun b a=>h b (by simp[a])) (fun b a=>hm b (by simp[a]));have f:(zf4 c.2.1 l).length=(vp l.length).length+(l.flatMap (zfj c.2.1)).length:=by unfold zf4;rw[qrp]
  rw[zbu,qrp,qrj,qt7];omega
theorem z33{cols:List za2}:∀G:List za6,(∀g∈G,∀l∈g.2,∀p∈l,z31 p)->(∀g∈G,∀l∈g.2,l.length<=65536)->(∀g∈G,g.1.toNat<18446744073709551616)->
 (G.flatMap (zc4 cols)).length<=(G.map fun g=>10+(g.2.map fun l=>10+(l.map mP).sum).sum).sum
 | [],_,_,_=>by simp
 |g::G,h,hm,hg=>by
  have h1:=z32 cols g.2 (h g (by simp)) (hm g (by simp));have b:=z33 (cols:=cols) G (fun q a=>h q (by simp[a])) (fun q a=>hm q (by simp[a])) (fun q a=>hg q (by simp[a]));have c:=zae (n:=g.1.toNat) (hg g (by simp));have d:(zc4 cols g).length=(vp g.1.toNat).length+(zbu cols g.2).length:=by unfold zc4;rw[qrp]
  rw[qt6,qrp,qrj,qt7];omega
def Wf(l:List zab):Nat:=120*l.length+2*fsum (za4 l)
theorem qjk{l:List zab}{c:zab}(h:c∈l):c.2.2.1.length<=fsum (za4 l):=by
 induction l with
 |nil=>cases h
 |cons x l a=>
  have e:fsum (za4 (x::l))=x.2.2.1.length+fsum (za4 l):=by unfold za4;rw[qrj,zet]
  rw[e];rcases qsm.1 h with rfl|h
  ·omega
  ·have:=a h;omega
theorem qok{L:List za2}{E:List Int}{D:List (List zab)}{c:Nat}{q:Int × Int}(h:1<=(zak D c q).length):mP (zcw L E D c q)<=Wf (zak D c q):=by
 have d:=zko (L.getD c zeo).2.1 (zak D c q);unfold mP zcw Wf;dsimp only;cases hb:(zm5 (L.getD c zeo).2.1 (zak D c q)).2.1 with
 |true=>
  have a:=qjk (d.least hb).1.1;have b:=qjk (d.most hb).1.1;omega
 |false=>
  obtain⟨e,f⟩:=d.none hb;rw[e,f];simp[zbb];omega
theorem qol(a b:List zab):Wf (a++b)=Wf a+Wf b:=by
 have e:fsum (za4 (a++b))=fsum (za4 a)+fsum (za4 b):=by
  induction a with
  |nil=>simp[za4,fsum]
  |cons x a f=>
   have c:fsum (za4 (x::(a++b)))=x.2.2.1.length+fsum (za4 (a++b)):=by unfold za4;rw[qrj,zet]
   have d:fsum (za4 (x::a))=x.2.2.1.length+fsum (za4 a):=by unfold za4;rw[qrj,zet]
   rw[qr0,c,d,f];omega
 unfold Wf;rw[e,qrp];omega
theorem z1d:∀L:List (List zab),Wf L.flatten=(L.map Wf).sum
 | []=>by simp[Wf,za4,fsum]
 |l::L=>by rw[qvg,qol,z1d L,qrj,qt7]
theorem qmf{L:List za2}{r:Int}{E:List Int}{D:List (List zab)}{gr pr:Int}(h:WrOk L r D gr pr)(G:∀s∈zbl 0 r gr,∀c,c<L.length-> ∀q∈zbl s.1 s.2 pr,(zg1 L E D c q).2.length<18446744073709551616):
 (zek (zb7 L r E D gr pr)).length<=8020+(zb7 L r E D gr pr).groups.length*(10+L.length*10)+(D.map Wf).sum:=by
 obtain⟨n,rfl⟩:=qsu h.rows.1;have T:=h.rows.2;have t:∀c,c<L.length->(D.getD c []).length=n:=fun c d=>by have:=h.all _ (zah [] (show c<D.length by rw[h.len];exact d));omega
 have i:∀s∈zbl 0 (n:Int) gr,∀c,c<L.length-> ∀q∈zbl s.1 s.2 pr,1<=(zak D c q).length/\(zak D c q).length<=65536:=by intro s e c d q j;obtain⟨a,b,rfl,H,I,J⟩:=zfi (f:=0) e;obtain⟨x,y,rfl,U,V,W⟩:=zfi j;have i:=zjy (D:=D) (c:=c) (show x<=y by omega) (by rw[t c d];omega);omega
 have R:=z33 (cols:=L) (zb7 L n E D gr pr).groups (fun g k l o p u=>by
  obtain⟨s,e,rfl⟩:=qqu.1 k;obtain⟨c,d,rfl⟩:=qqu.1 o;obtain⟨q,j,rfl⟩:=qqu.1 u;have Q:=G s e c (qtn.1 d) q j;have w:=(i s e c (qtn.1 d) q j).2;unfold z31 zcw;dsimp only;omega) (fun g k l o=>by
  obtain⟨s,e,rfl⟩:=qqu.1 k;obtain⟨c,d,rfl⟩:=qqu.1 o;rw[qtl];exact zml _ _ _) (fun g k=>by
  obtain⟨s,e,rfl⟩:=qqu.1 k;obtain⟨a,b,rfl,H,I,J⟩:=zfi (f:=0) e;unfold zdb;dsimp only;omega)
 have K:((zb7 L n E D gr pr).groups.map fun g=>10+(g.2.map fun l=>10+(l.map mP).sum).sum).sum<=((zbl 0 (n:Int) gr).map fun s=>10+((List.range L.length).map fun c=>10+Wf ((zbl s.1 s.2 pr).map (zak D c)).flatten).sum).sum:=by
  show(((zbl 0 (n:Int) gr).map (zdb L E D pr)).map _).sum<=_;rw[qsj];refine map_le_sum _ fun s e=>?_
  show 10+(((List.range L.length).map fun c=>(zbl s.1 s.2 pr).map (zcw L E D c)).map fun l=>10+(l.map mP).sum).sum<=_;rw[qsj];refine Nat.add_le_add_left (map_le_sum _ fun c d=>?_) _;show 10+(((zbl s.1 s.2 pr).map (zcw L E D c)).map mP).sum<=_;refine Nat.add_le_add_left ?_ _;rw[z1d,qsj,qsj];exact map_le_sum _ fun q j=>qok (i s e c (qtn.1 d) q j).1
 have M:((zbl 0 (n:Int) gr).map fun s=>10+((List.range L.length).map fun c=>10+Wf ((zbl s.1 s.2 pr).map (zak D c)).flatten).sum).sum=(zbl 0 (n:Int) gr).length*10+((zbl 0 (n:Int) gr).length*(L.length*10)+(D.map Wf).sum):=by
  rw[zen (fun _=>10),zm9];congr 1
  have A:((zbl 0 (n:Int) gr).map fun s=>((List.range L.length).map fun c=>10+Wf ((zbl s.1 s.2 pr).map (zak D c)).flatten).sum)=(zbl 0 (n:Int) gr).map fun s=>L.length*10+((List.range L.length).map fun c=>Wf ((zbl s.1 s.2 pr).map (zak D c)).flatten).sum:=by apply qsk;intro s _;rw[zen (fun _=>10),zm9,qtm]
  rw[A,zen (fun _=>L.length*10),zm9];congr 1
  rw[zgc (fun(s:Int × Int) (c:Nat)=>Wf ((zbl s.1 s.2 pr).map (zak D c)).flatten) (List.range L.length) (zbl 0 (n:Int) gr)];have m:((List.range L.length).map fun c=>((zbl 0 (n:Int) gr).map fun s=>Wf ((zbl s.1 s.2 pr).map (zak D c)).flatten).sum)=(List.range L.length).map fun c=>Wf (D.getD c []):=by
   apply qsk;intro c d;have F:=zkt h (qtn.1 d);conv=>rhs;rw[<-F,z1d,qsj]
   rfl
  rw[m];have z:=zr1 Wf D;rw[h.len] at z;exact z
 have v:=z3a h.cols;have w:=zae (n:=(n:Int).toNat) (by omega);have S:=zml 0 (n:Int) gr;have m:=zae (n:=((zbl 0 (n:Int) gr).map (zdb L E D pr)).length) (by rw[qtl];omega);have C:(zb7 L n E D gr pr).groups.length=(zbl 0 (n:Int) gr).length:=by show((zbl 0 (n:Int) gr).map _).length=_;rw[qtl]
 rw[C,qr2];unfold zek;simp only[qrp];have N:(putC [] (zb7 L (n:Int) E D gr pr).cols).length<=8000:=v;have O:(vp (zb7 L (n:Int) E D gr pr).rows.toNat).length<=10:=w;have P:(vp (zb7 L (n:Int) E D gr pr).groups.length).length<=10:=m;have B:(zb7 L (n:Int) E D gr pr).cols=L:=rfl;rw[B] at*;omega
theorem qdr{L:List za2}{r:Int}{a:List zdw}(h:ze1 L r a=0)(F:IntKind.i64.wrap (zt4 L+zyt a)<=3000):((a.map (·.2.2)).map List.length).sum+((a.map (·.2.2)).map fun l=>fsum (za4 l)).sum<=3000:=by
 obtain⟨w,M,N,u,x⟩:=zm6 h;have H:=zyw h;have n:zcz L=0:=by
  unfold ze1 at h;split at h
  ·rename_i q;exact absurd h q
  ·rename_i q;exact qvx.1 q
 have C:=(zdv L).1 n;have P:=qdp L fun c D=>(C.2.1 c D).2.1
 have j:(a.map (·.2.2)).length=L.length:=by rw[qtl];exact w
 have b:∀l∈a.map (·.2.2),l.length<=65536/\ ∀y∈l,y.2.2.1.length<=65536:=fun l g=>by
  obtain⟨i,G,e⟩:=qtv g;have o:i<L.length:=by omega
  have p:(a.map (·.2.2)).getD i []=l:=by rw[qsh,qqt G,e];rfl
  have m:=H i o;rw[p] at m;obtain⟨d,E,rfl⟩:=qqu.1 g;refine⟨by have:=x d E;omega,fun y t=>qmd (m y t)⟩
 have J:=z30 (f:=List.length) (k:=65536) (a.map (·.2.2)) fun l g=>(b l g).1
 have K:=z30 (f:=fun l=>fsum (za4 l)) (k:=65536*65536) (a.map (·.2.2)) fun l g=>by
  obtain⟨m,z⟩:=b l g;have v:=z30 (f:=List.length) (k:=65536) (za4 l) fun s I=>by obtain⟨y,t,rfl⟩:=qqu.1 I;exact z y t
  have A:(za4 l).length=l.length:=by unfold za4;rw[qtl]
  rw[A] at v;have B:l.length*65536<=65536*65536:=qqz _ m;exact qqs v B
 rw[j] at J K;have Q:L.length*65536<=64*65536:=qqz _ u;have R:L.length*(65536*65536)<=64*(65536*65536):=qqz _ u;have O:=qdo a;rw[qwr] at F;omega
theorem qom(C:List (List zab)):(C.map Wf).sum=120*(C.map List.length).sum+2*(C.map fun l=>fsum (za4 l)).sum:=by
 have e:C.map Wf=C.map fun l=>l.length*120+fsum (za4 l)*2:=by apply qsk;intro l _;unfold Wf;omega
 rw[e,zen (fun l:List zab=>l.length*120),zvv,zvv];omega
section
variable{L:List za2}{E:List Int}{D:List (List zab)}{pr:Int}
theorem qds{c:Nat}:∀(l:List (Int × Int)),(∀q∈l,1<=(zak D c q).length)->(l.map (pgF L E D c)).length<=(l.map (zak D c)).flatten.length
 | [],_=>by simp
 |q::l,h=>by
  have h1:=h q (by simp);have d:=qds l fun b a=>h b (by simp[a])
  rw[qrj,qrj,qvg,qrp,qr1];omega
theorem qon{l:List (Int × Int)}:∀(cs:List Nat),(∀c∈cs,∀q∈l,1<=(zak D c q).length)->(zkr L E D l cs).flatten.length<=(cs.map fun c=>(l.map (zak D c)).flatten.length).sum
 | [],_=>by simp[zkr]
 |c::cs,h=>by
  have h1:=qds (L:=L) (E:=E) l (h c (by simp));have d:=qon cs fun b a=>h b (by simp[a])
  have e:zkr L E D l (c::cs)=l.map (pgF L E D c)::zkr L E D l cs:=rfl;rw[e,qvg,qrp,qrj,qt7];omega
theorem qoo:∀(S:List (Int × Int)),(∀s∈S,∀c,c<L.length-> ∀q∈zbl s.1 s.2 pr,1<=(zak D c q).length)->
 (zhm L E D pr S).flatten.flatten.length<=(S.map fun s=>((List.range L.length).map fun c=>((zbl s.1 s.2 pr).map (zak D c)).flatten.length).sum).sum
 | [],_=>by simp[zhm]
 |s::S,h=>by
  have h1:=qon (L:=L) (E:=E) (D:=D) (l:=zbl s.1 s.2 pr) (List.range L.length) fun c b=>h s (by simp) c (qtn.1 b)
  have f:=qoo S fun d a=>h d (by simp[a])
  have e:zhm L E D pr (s::S)=zkr L E D (zbl s.1 s.2 pr) (List.range L.length)::zhm L E D pr S:=rfl;rw[e,qvg,qul,qrp,qrj,qt7];omega
end
theorem qmg{L:List za2}{r:Int}{E:List Int}{D:List (List zab)}{gr pr:Int}(h:WrOk L r D gr pr):
 (zhm L E D pr (zbl 0 r gr)).flatten.flatten.length<=(D.map List.length).sum:=by
 have p:∀s∈zbl 0 r gr,∀c,c<L.length-> ∀q∈zbl s.1 s.2 pr,1<=(zak D c q).length:=by
  obtain⟨n,rfl⟩:=qsu h.rows.1;intro s u c d q t;have g:(D.getD c []).length=n:=by have:=h.all _ (zah [] (show c<D.length by rw[h.len];exact d));omega
  obtain⟨a,b,rfl,v,w,z⟩:=zfi (f:=0) u;obtain⟨x,y,rfl,A,B,C⟩:=zfi t;have o:=zjy (D:=D) (c:=c) (show x<=y by omega) (by rw[g];omega);omega
 have i:=qoo (L:=L) (E:=E) (D:=D) (pr:=pr) (zbl 0 r gr) p;have k:=zgc (fun(s:Int × Int) (c:Nat)=>((zbl s.1 s.2 pr).map (zak D c)).flatten.length) (List.range L.length) (zbl 0 r gr);have l:((List.range L.length).map fun c=>((zbl 0 r gr).map fun s=>((zbl s.1 s.2 pr).map (zak D c)).flatten.length).sum)=(List.range L.length).map fun c=>(D.getD c []).length:=by apply qsk;intro c d;have m:=zkt h (qtn.1 d);have e:=List.length_flatten (L:=(zbl 0 r gr).map fun s=>((zbl s.1 s.2 pr).map (zak D c)).flatten);rw[m,qsj] at e;exact e.symm
 have j:=zr1 List.length D;rw[h.len] at j;rw[k,l,j] at i;exact i
theorem z34{α:Type}{f:α->Nat}{k:Nat}:∀(l:List α),(∀x∈l,f x=k)->(l.map f).sum=l.length*k
 | [],_=>by simp
 |x::l,h=>by
  have h1:=h x (by simp);have b:=z34 (f:=f) l fun y a=>h y (by simp[a])
  simp only[qrj,qt7,qr1,qsv];omega
theorem qid{L:List za2}{r:Int}{a:List zdw}{gr pr:Int}{E:List Int}{b:List Nat}(h:WrOk L r (a.map (·.2.2)) gr pr)(U:zee L r a gr pr E=(0,b))(G:ze1 L r a=0)(m:zdg gr pr E L=0)
 (hf:((a.map (·.2.2)).map List.length).sum+((a.map (·.2.2)).map fun l=>fsum (za4 l)).sum<=3000):zse b:=by
 obtain⟨C,t2,V,t4,W,X,-,t8,t9⟩:=zn5 h U G m;have R:=zyw G;have K:=(qdm m).2;have j:=h.len;have hn:=qmg (E:=E) h;have wt:=qoj (a.map (·.2.2));have wf:=qom (a.map (·.2.2));have S:∀c,c<L.length->fsum (za4 ((a.map (·.2.2)).getD c []))<=16777216:=fun c hc=>by have:=zn7 (f:=fun l=>fsum (za4 l)) (zah [] (show c<(a.map (·.2.2)).length by omega));omega
 have H:=fun s q c m o u=> @qoi L r E (a.map (·.2.2)) gr pr h K R S s q c m o u
 have hW:=qmc (E:=E) h (fun s e c d q B=>(H s q c e d B).2);have hF:=qmf (E:=E) h (fun s e c d q B=>by
  have o:=(H s q c e d B).2;have u:Wt ((a.map (·.2.2)).getD c [])<=2000000:=by have:=zn7 (f:=Wt) (zah [] (show c<(a.map (·.2.2)).length by omega));omega
  have Y:=qjj (a.map (·.2.2)) c q;have Z:(zak (a.map (·.2.2)) c q).length<=((a.map (·.2.2)).getD c []).length:=by unfold zak;rw[qqx,qqw];omega
  unfold Wt at o u;unfold pgF at o;omega)
 have M:=zmz C.2.1;have v:=C.2.2.1;have w:=C.2.2.2.1;have J:(zb7 L r E (a.map (·.2.2)) gr pr).rows=r:=rfl;obtain⟨n,Q⟩:=qsu h.rows.1;have i:=z34 (f:=List.length) (k:=n) (a.map (·.2.2)) fun l P=>by have:=h.all l P;omega
 rw[j] at i;rw[J] at v w;generalize hg:(zb7 L r E (a.map (·.2.2)) gr pr).groups.length=g at*;have x:g<=n:=by have:=M.1;omega
 have O:g*L.length<=L.length*n:=by rw[qrl g];exact qty _ x
 have I:g*(10+L.length*10)=g*10+g*L.length*10:=by rw[qr2,qsx]
 have N:=congrArg List.length V;rw[zgx] at N;have T:(zek (zb7 L r E (a.map (·.2.2)) gr pr)).length<=1200000:=by omega
 refine⟨by omega,fun F s t=>?_⟩;rw[W] at t;injection t with t;injection t with y z;subst y z;refine⟨by omega,by rw[X];omega,fun p A=>?_⟩;have:=(zkj A).2;rw[qqw] at this;omega
theorem qie{L:List za2}{r:Int}{d:List zdw}{gr pr:Int}{E:List Int}{b:List Nat}(a:zee L r d gr pr E=(0,b)):ze1 L r d=0/\zdg gr pr E L=0:=by
 unfold zee at a;by_cases c:ze1 L r d=0
 ·by_cases e:zdg gr pr E L=0
  ·exact⟨c,e⟩
  ·rw[if_neg (by rw[c];simp),if_pos e] at a
   exact absurd (congrArg Prod.fst a) e
 ·rw[if_pos c] at a
  exact absurd (congrArg Prod.fst a) c
theorem z35{w:World}{Ac:Option Addr}{cc:Nat}{L:List za2}{r:Int}{t:Option Addr}{a:List zdw}{gr pr:Int}{E:List Int}{b:List Nat}(h:TabIn w Ac cc L t a)(o:∀d∈a,∀y∈d.2.2,CellFine y)(B:IntKind.i64.wrap (zt4 L+zyt a)<=3000)(s:zee L r a gr pr E=(0,b)):
 (∀x∈b,x<256)/\b.length<=2147483660/\qcn b=some (zb7 L r E (a.map (·.2.2)) gr pr,a.map (·.2.2))/\zse b/\zyx b=0:=by
 obtain⟨e,f⟩:=qie s;obtain⟨u,v,z,H,A⟩:=zm6 e;have m:zcz L=0:=by
  unfold ze1 at e;split at e
  ·rename_i q;exact absurd e q
  ·rename_i q;exact qvx.1 q
 have k:(1<=gr/\gr<=65536)/\1<=pr/\pr<=65536:=by
  have f:=f;unfold zdg at f;split at f
  ·omega
  ·rename_i g
   have g:=qvx.1 g;exact⟨⟨g.1,g.2.1⟩,g.2.2.1,g.2.2.2.1⟩
 have i:WrOk L r (a.map (·.2.2)) gr pr:=⟨(zdv L).1 m,fun c j=>(h.fine c j).1,by rw[qtl];exact u,⟨v,z⟩,fun l p=>by
  obtain⟨d,n,rfl⟩:=qqu.1 p;exact A d n,fun l p c j=>by
  obtain⟨d,n,rfl⟩:=qqu.1 p;exact zkb (o d n c j),k⟩
 obtain⟨-,-,-,-,C,-,D,F,G⟩:=qhs i s e f;refine⟨F,G,D,qid i s e f (qdr e B),?_⟩;unfold zyx;rw[C]
theorem qdt{b:List Nat}{L f:List za2}{r r2:Int}{E i:List Int}{D a:List (List zab)}{gr pr c e:Int}(h:qcn b=some (zb7 L r E D gr pr,D))(d:qcn b=some (zb7 f r2 i a c e,a)):L=f/\r=r2/\D=a:=by rw[h] at d;have g:=congrArg Prod.fst (qqf d);exact⟨congrArg FootS.cols g,congrArg FootS.rows g,congrArg Prod.snd (qqf d)⟩
end Go.Proofs.Y
