import Derived.Test.YtbahbnbpmfgimaaGreatDoorBun33
import Derived.Test.YtbahbnbpmfgimaaGreatDoorBun40
set_option maxHeartbeats 8000000
set_option maxRecDepth 100000
namespace Go.Proofs.Y
open Go.RowKit Go.Hm
noncomputable def openO(b:List Nat):Option (FootS × List Nat):=
 match zq5 b with
 |none=>none
 |some s=>match zo0 (fun r=>r) s with
  |none=>none
  |some F=>if zfm F (F.groups.length:Int) 0 0=(b.length:Int)-12-(s.length:Int) then some (F,s) else none
theorem qiz{b s:List Nat}(a:∀x∈b,x<256)(h:zq5 b=some s):∀x∈s,x<256:=by
 unfold zq5 at h;split at h
 ·cases h
 ·split at h
  ·cases h
  ·injection h with h
   subst h;exact fun x c=>a x (qte (qro c))
theorem zrf{b:List Nat}(a:∀x∈b,x<256)(c:b.length<=140737488351232):IsFoot b (zo0 (fun r=>r) b):=
 qg2 (k:=fun r=>r) (fun _ _ h=>⟨qu2 _,h⟩) a c
theorem qg3(n:Nat):qgz n (n:Int) 0 0=true:=by unfold qgz;simp
theorem zto{F:FootS}(h:zbs F):zfm F (F.groups.length:Int) 0 0=(szG F.groups:Int):=by
 unfold zfm;have e:ze6 F=true:=by unfold ze6;simpa using h
 rw[e,qg3,if_pos (by simp)];exact z55 h
def zfz(body own:List Nat):List Nat:=headL_film++(body++(own++(low own.length 4++tailL)))
theorem zgx(body a:List Nat):(zfz body a).length=body.length+a.length+12:=by simp[zfz,headL_film,tailL,za0];omega
theorem qbm{body a:List Nat}(h:a.length<4294967296):zq5 (zfz body a)=some a:=by
 have b:=zgx body a;have c:zfz body a=(headL_film++(body++a))++(low a.length 4++tailL):=by simp[zfz]
 have d:zfz body a=(headL_film++(body++(a++low a.length 4)))++tailL:=by simp[zfz]
 have e:zfz body a=(headL_film++body)++(a++(low a.length 4++tailL)):=by simp[zfz]
 have g:headL_film.length=4:=rfl;have i:tailL.length=4:=rfl;have f:ownN (zfz body a)=a.length:=by
  unfold ownN;rw[b];conv=>lhs;rw[c]
  rw[qtr (by simp only[qrp];omega),qts (za0 _ 4),zid (by omega)]
 unfold zq5;rw[f,b,if_neg,if_neg (by omega)]
 ·congr 1
  conv=>lhs;rw[e]
  rw[qtr (by simp only[qrp];omega),qts rfl]
 ·rintro(q|q|q)
  ·omega
  ·exact q (by unfold zfz;rw[qts g])
  ·refine q ?_
   conv=>lhs;rw[d]
   rw[qtr (by simp only[qrp,za0];omega)]
theorem ztp{F:FootS}{body:List Nat}(h:zbs F)(b:zfg F)(d:body.length=szG F.groups)(a:∀x∈zek F,x<256)(c:(zek F).length<4294967296):
 openO (zfz body (zek F))=some (F,zek F):=by
 unfold openO;rw[qbm c];dsimp only;rw[(zrf a (by omega)).compl F h b rfl];dsimp only;rw[zto h,zgx,if_pos (by omega)]
theorem zga{b:List Nat}{F:FootS}{s:List Nat}(t:∀x∈b,x<256)(R:b.length<=140737488351232)(h:openO b=some (F,s)):
 zbs F/\zfg F/\zek F=s/\b=zfz ((b.drop 4).take (szG F.groups)) s/\szG F.groups+s.length+12=b.length/\s.length<4294967296/\ ∀x∈s,x<256:=by
 unfold openO at h;cases c:zq5 b with
 |none=>rw[c] at h;cases h
 |some d=>
  rw[c] at h;dsimp only at h;cases hf:zo0 (fun r=>r) d with
  |none=>rw[hf] at h;cases h
  |some a=>
   rw[hf] at h;dsimp only at h;split at h
   ·rename_i I
    injection h with h;injection h with E G;subst E G;have m:=qiz t c;obtain⟨j,H⟩:=z2x c;obtain⟨p,v,w⟩:=(zrf m (by omega)).sound _ hf;rw[zto p] at I;have o:szG a.groups+d.length+12=b.length:=by omega
    have q:((b.drop (b.length-8)).take 4).length=4:=by rw[qqx,qqw];omega
    have g:∀x∈(b.drop (b.length-8)).take 4,x<256:=fun x J=>t x (qte (qro J))
    have k:low d.length 4=(b.drop (b.length-8)).take 4:=by have:=zub _ g;rw[q] at this;rw[j];exact this
    have i:d.length<4294967296:=by have:=zsl _ g;rw[q] at this;have e:ownN b=num ((b.drop (b.length-8)).take 4):=rfl;omega
    refine⟨p,v,w,?_,o,i,m⟩;unfold zq5 at c;split at c
    ·cases c
    ·rename_i u
     split at c
     ·cases c
     ·injection c with c
      rw[not_or,not_or,qvx,qvx] at u;obtain⟨Q,y,z⟩:=u;rw[<-j] at c;unfold zfz;rw[k,<-y,<-z];conv=>rhs;rw[<-c]
      have K:b.length-8-d.length=4+szG a.groups:=by omega
      have L:b.length-8=4+szG a.groups+d.length:=by omega
      have M:b.length-4=4+szG a.groups+d.length+4:=by omega
      rw[K,L,M];have N:b.drop (4+szG a.groups)=(b.drop 4).drop (szG a.groups):=by rw[qth]
      have O:b.drop (4+szG a.groups+d.length)=((b.drop 4).drop (szG a.groups)).drop d.length:=by rw[qth,qth];congr 1;omega
      have P:b.drop (4+szG a.groups+d.length+4)=(((b.drop 4).drop (szG a.groups)).drop d.length).drop 4:=by rw[qth,qth,qth];congr 1;omega
      rw[P,O,N];have f:∀l:List Nat,∀n,l=l.take n++l.drop n:=fun l n=>(qtq n l).symm
      have A:=f b 4;have B:=f (b.drop 4) (szG a.groups);have C:=f ((b.drop 4).drop (szG a.groups)) d.length;have D:=f (((b.drop 4).drop (szG a.groups)).drop d.length) 4;rw[<-D,<-C,<-B,<-A]
   ·cases h
theorem z6a{a b:List Nat}{F:FootS}{s:List Nat}(c:∀x∈a,x<256)(d:∀x∈b,x<256)(e:a.length<=140737488351232)(f:b.length<=140737488351232)(i:openO a=some (F,s))(j:openO b=some (F,s))
 (k:ze9 F.groups (a.drop 4)=ze9 F.groups (b.drop 4)):a=b:=by
 have g:=(zga c e i).2.2.2.1;have h:=(zga d f j).2.2.2.1;rw[g,h,<-zmu,<-zmu,k]
def zm5(t:Int)(l:List zab):zdp:=l.foldl (fun s c=>zok t s (zlj c)) zb4
theorem z3b{t:Int}:∀(l a:List zab) {s:zdp},IsStat t a s->IsStat t (a++l) (l.foldl (fun s c=>zok t s (zlj c)) s)
 | [],a,s,h=>by simpa using h
 |c::l,a,s,h=>by
  have:=z3b l (a++[c]) (h.merge (zs7 t c));simpa using this
theorem zko(t:Int)(l:List zab):IsStat t l (zm5 t l):=z3b l [] (zs6 t)
def zak(D:List (List zab))(c:Nat)(s:Int × Int):List zab:=((D.getD c []).drop s.1.toNat).take (s.2-s.1).toNat
def zg1(L:List za2)(E:List Int)(D:List (List zab))(c:Nat)(s:Int × Int):Int × List Nat:=pgE (L.getD c zeo).2.1 (L.getD c zeo).2.2 (E.getD c 0) (zak D c s)
def zcw(L:List za2)(E:List Int)(D:List (List zab))(c:Nat)(s:Int × Int):za3:=(((zg1 L E D c s).2.length:Int),((zak D c s).length:Int),zm5 (L.getD c zeo).2.1 (zak D c s))
abbrev WSt:=Option (List (List Nat) × Int)
def pgW(L:List za2)(E:List Int)(D:List (List zab))(c:Nat)(S:WSt)(s:Int × Int):WSt:=
 match S with
 |none=>none
 |some x=>if(zg1 L E D c s).1=0/\(zg1 L E D c s).2.length<=268435456/\x.2+(zg1 L E D c s).2.length<=1073741824 then some (x.1++[(zg1 L E D c s).2],x.2+(zg1 L E D c s).2.length) else none
def chW(L:List za2)(E:List Int)(D:List (List zab))(c:Nat)(S:WSt)(l:List (Int × Int)):WSt:=l.foldl (pgW L E D c) S
def gpW(L:List za2)(E:List Int)(D:List (List zab))(pr:Int)(s:Int × Int)(S:WSt):Nat->WSt
 |0=>S
 |k+1=>chW L E D k (gpW L E D pr s S k) (zbl s.1 s.2 pr)
def grW(L:List za2)(E:List Int)(D:List (List zab))(pr:Int)(S:WSt)(s:Int × Int):WSt:=gpW L E D pr s S L.length
def z3c(L:List za2)(E:List Int)(D:List (List zab))(pr:Int)(l:List (Int × Int)):WSt:=l.foldl (grW L E D pr) (some ([],0))
def zdb(L:List za2)(E:List Int)(D:List (List zab))(pr:Int)(s:Int × Int):za6:=(s.2-s.1,(List.range L.length).map fun c=>(zbl s.1 s.2 pr).map (zcw L E D c))
def zb7(L:List za2)(r:Int)(E:List Int)(D:List (List zab))(gr pr:Int):FootS:=⟨L,r,(zbl 0 r gr).map (zdb L E D pr)⟩
noncomputable def zee(L:List za2)(r:Int)(D:List zdw)(gr pr:Int)(E:List Int):Int × List Nat:=
 if ze1 L r D≠0 then(ze1 L r D,[])
 else if zdg gr pr E L≠0 then(zdg gr pr E L,[])
 else match z3c L E (D.map (·.2.2)) pr (zbl 0 r gr) with
  |none=>(4,[])
  |some x=>match zsj (zb7 L r E (D.map (·.2.2)) gr pr) with
   |none=>(4,[])
   |some own=>if 1073741824<own.length then(4,[]) else(0,zfz x.1.flatten own)
theorem qhj{L:List za2}{E:List Int}{D:List (List zab)}{c:Nat}(s:Int × Int):pgW L E D c none s=none:=rfl
theorem zkp{L:List za2}{E:List Int}{D:List (List zab)}{c:Nat}:∀l,chW L E D c none l=none
 | []=>rfl
 |s::l=>by
  show chW L E D c (pgW L E D c none s) l=none;rw[qhj,zkp l]
theorem z3d{L:List za2}{E:List Int}{D:List (List zab)}{pr:Int}{s:Int × Int}:∀k,gpW L E D pr s none k=none
 |0=>rfl
 |k+1=>by rw[gpW,z3d k,zkp]
theorem zrm{L:List za2}{E:List Int}{D:List (List zab)}{pr:Int}:∀l:List (Int × Int),l.foldl (grW L E D pr) none=none
 | []=>rfl
 |s::l=>by
  show l.foldl (grW L E D pr) (gpW L E D pr s none L.length)=none;rw[z3d,zrm l]
theorem qhk{L:List za2}{E:List Int}{D:List (List zab)}{c:Nat}{S:WSt}{l:List (Int × Int)}{k:Nat}(a:k<l.length):chW L E D c S (l.take (k+1))=pgW L E D c (chW L E D c S (l.take k)) (l.getD k (0,0)):=by rw[zac _ k (0,0) a];unfold chW;rw[qvz];rfl
theorem qca{L:List za2}{E:List Int}{D:List (List zab)}{c:Nat}{S:WSt}{l:List (Int × Int)}(k:Nat)(h:chW L E D c S (l.take k)=none):chW L E D c S l=none:=by
 have e:chW L E D c S l=chW L E D c (chW L E D c S (l.take k)) (l.drop k):=by unfold chW;rw[<-qvz,qtq]
 rw[e,h,zkp]
theorem zx8{L:List za2}{E:List Int}{D:List (List zab)}{pr:Int}{s:Int × Int}{S:WSt}{k:Nat}(h:gpW L E D pr s S k=none):∀n,k<=n->gpW L E D pr s S n=none
 |0,hn=>by
  obtain rfl:k=0:=by omega
  exact h
 |n+1,hn=>by
  rcases qq4 n k with b|a
  ·obtain rfl:k=n+1:=by omega
   exact h
  ·rw[gpW,zx8 h n a,zkp]
theorem qcb{L:List za2}{E:List Int}{D:List (List zab)}{pr:Int}{l:List (Int × Int)}{k:Nat}(a:k<l.length):z3c L E D pr (l.take (k+1))=grW L E D pr (z3c L E D pr (l.take k)) (l.getD k (0,0)):=by rw[zac _ k (0,0) a];unfold z3c;rw[qvz];rfl
theorem z6x{L:List za2}{E:List Int}{D:List (List zab)}{pr:Int}{l:List (Int × Int)}(k:Nat)(h:z3c L E D pr (l.take k)=none):z3c L E D pr l=none:=by
 have e:z3c L E D pr l=(l.drop k).foldl (grW L E D pr) (z3c L E D pr (l.take k)):=by unfold z3c;rw[<-qvz,qtq]
 rw[e,h,zrm]
def OkW(S:WSt):Prop:=∀x,S=some x->x.2=(x.1.flatten.length:Int)/\x.2<=1073741824/\(x.1.length:Int)<=x.2
theorem qnu{L:List za2}{E:List Int}{D:List (List zab)}{c:Nat}{S:WSt}{s:Int × Int}(h:OkW S):OkW (pgW L E D c S s):=by
 cases S with
 |none=>intro x a;cases a
 |some y=>
  intro x a;obtain⟨e,i,j⟩:=h y rfl;unfold pgW at a;dsimp only at a;split at a
  ·rename_i b
   injection a with a;subst a;have g:1<=(zg1 L E D c s).2.length:=by obtain⟨_,_,_,_,d,_,f⟩:=zol (show pgE _ _ _ _=(0,(zg1 L E D c s).2) from qug b.1 rfl);rw[f,qr1];omega
   refine⟨?_,b.2.2,?_⟩
   ·dsimp only
    rw[qul,qrp,qvg,qv0,qra,e];omega
   ·dsimp only
    rw[qrp,qu0];omega
  ·cases a
theorem qcc{L:List za2}{E:List Int}{D:List (List zab)}{c:Nat}:∀(l:List (Int × Int)) {S:WSt},OkW S->OkW (chW L E D c S l)
 | [],_,h=>h
 |s::l,S,h=>qcc l (S:=pgW L E D c S s) (qnu h)
theorem qcd{L:List za2}{E:List Int}{D:List (List zab)}{pr:Int}{s:Int × Int}{S:WSt}(h:OkW S):∀k,OkW (gpW L E D pr s S k)
 |0=>h
 |k+1=>qcc _ (qcd h k)
theorem z02{L:List za2}{E:List Int}{D:List (List zab)}{pr:Int}(l:List (Int × Int)):OkW (z3c L E D pr l):=by
 have:∀(l:List (Int × Int)) {S:WSt},OkW S->OkW (l.foldl (grW L E D pr) S):=by
  intro l;induction l with
  |nil=>intro S h;exact h
  |cons s l b=>intro S h;exact b (S:=grW L E D pr S s) (qcd h _)
 exact this l (fun x a=>by injection a with a;subst a;simp)
def z3h(b:List Nat)(w:World)(e:Ending)(w':World):Prop:=
 New w w'/\match openO b with
 |none=>e= .returned (.tuple #[.agg #[.slice none 0 0,.int .i64 0,.slice none 0 0],.slice none 0 0,.int .i64 2])
 |some x=>∃Ac cc L r Ag cg G A n c,e= .returned (.tuple #[zmp Ac cc L r Ag cg G,.slice A n c,.int .i64 0])/\zb0 L r G=x.1/\FootIn w' Ac cc L Ag G/\G.length<=cg/\Go.Hm.Own w' w.heap.size 5 (.slice A n c) (zar .u8 x.2)
theorem zyg{L:List za2}{r:Int}{G:List GrD}(h:zfg (zb0 L r G)):∀g∈G,∀x∈g.2.2.2,∀p∈x.2.2,zew p.2.2:=fun g a x c p b=>
 (h.2 (grP g) (qqu.2 ⟨g,a,rfl⟩) x.2.2 (qqu.2 ⟨x,c,rfl⟩) p b).fine
theorem wrS{x:Int}(h: -9223372036854775808<=x/\x<=9223372036854775807):wrap64 x=x:=by unfold wrap64;omega
theorem z3i{w:World}{A:Option Addr}{c:Nat}{b:List Nat}(h:Reads w w.heap.size 1 A b.length (zar .u8 b))(h8:∀x∈b,x<256)(hb:b.length<=140737488351232)(hc:b.length<=c)(a1:c<=9223372036854775807):
 Calls Tryz.prog 32 #[.slice A b.length c] w (z3h b w):=by
 obtain⟨W,j⟩:∃W,W=w.alloc (.cells #[.slice none 0 0,.int .i64 0,.slice none 0 0] 79):=⟨_,rfl⟩;have n1:New w W:=by rw[j];exact(qwd _ _).alloc (qq0 _) _
 have BZ:Blk W w.heap.size 79 #[.slice none 0 0,.int .i64 0,.slice none 0 0]:=by rw[j];exact qw1 _ _ _
 have O:=qwk (zyd (c:=c) (qxj h n1) h8 hb hc a1);rw[j] at O;have N1:=qwk n1;have HZ:=qwk BZ;have H8:=qwk (fun s k=>qiz h8 (s:=s) k);have HL:=qwk (fun s k=>z2x (b:=b) (s:=s) k);have HO:Hid (openO b=match zq5 b with
  |none=>none
  |some s=>match zo0 (fun r=>r) s with
   |none=>none
   |some F=>if zfm F (F.groups.length:Int) 0 0=(b.length:Int)-12-(s.length:Int) then some (F,s) else none):=qwk rfl
 have HW:=qwk j;unfold z3h;generalize openO b=X at*;clear h h8 n1 BZ j;go_enter Tryz.func32,Tryz.ntmps32
 go_wp2_with fail
 refine O.out.mono ?_;rintro e W1 ⟨l,a⟩;rw[<-HW.out] at l;have f:=HZ.out.below l HZ.out.lt;clear O;cases k:zq5 b with
 |none=>
  rw[k] at a;obtain rfl:=a;have d:X=none:=by rw[HO.out,k]
  subst d;clear k
  go_wp2_with (refine zal rfl 79 (.tmp 2) (.tmp 15) rfl w.heap.size _ rfl rfl f (by kernel_rfl) rfl (by simp[Value.oneCell']) ?_
               intro n y G2;obtain⟨H,I,J⟩:=zan y)
  exact bodyPost_ret (v:= .tuple #[.agg #[.slice none 0 0,.int .i64 0,.slice none 0 0],.slice none 0 0,.int .i64 2]) (by simp[results,Tryz.results32,go_sem,H,I,J]) rfl ⟨zbg (qw5 N1.out l) G2 (qq0 _) (qq0 _),rfl⟩
 |some s=>
  rw[k] at a;obtain⟨A1,c1,rfl,R1,a6,a0⟩:=a;obtain⟨a8,a9⟩:=HL.out s k;have a3:s.length+12<=b.length:=by omega
  have a4:=l.size;have D:=qwk (zyf (c:=c1) (R1.more (by have:=l.size;rw[HW.out] at this;exact this)) (H8.out s k) (by omega));have IF:=qwk (zrf (H8.out s k) (by omega));have d:=HO.out;rw[k] at d;have HX:=qwk d;have RS:=qwk R1;have S:=qwk a3;have HB:=qwk hb;clear d k HO R1 a8 a9 a3 a4 hb hc a6 a1 a0 HL H8;go_wp2_with fail
  refine D.out.mono ?_;intro e n hq;clear D;cases hF:zo0 (fun r=>r) s with
  |none=>
   rw[hF] at hq;obtain⟨rfl,t⟩:=hq;have d:X=none:=by rw[HX.out,hF]
   subst d;have i:=(f.below t f.lt);clear hF f
   go_upto_region 5 with(refine zal rfl 79 (.tmp 7) (.tmp 19) rfl n.heap.size _ rfl rfl (qw1 n 79 #[.slice none 0 0,.int .i64 0,.slice none 0 0]) (by kernel_rfl) rfl (by simp[Value.oneCell']) ?_
                         intro W3 M Q;have C:New n W3:=zbg ((qwd _ _).alloc (qq0 _) _) Q (qq0 _) (qq0 _);have m:=i.below C i.lt;clear M Q i)
   go_upto_region 6 with fail
   go_wp2_with (refine zal rfl 79 (.tmp 2) (.tmp 37) rfl w.heap.size _ rfl rfl m (by kernel_rfl) rfl (by simp[Value.oneCell']) ?_
                intro Y y G4;obtain⟨H,I,J⟩:=zan y)
   exact bodyPost_ret (v:= .tuple #[.agg #[.slice none 0 0,.int .i64 0,.slice none 0 0],.slice none 0 0,.int .i64 2]) (by simp[results,Tryz.results32,go_sem,H,I,J]) rfl ⟨zbg (qw5 N1.out (qw5 l (qw5 t C))) G4 (qq0 _) (qq0 _),rfl⟩
  |some F=>
   rw[hF] at hq;obtain⟨Ac,cc,L,r,Ag,cg,G,rfl,E,⟨FX,a7⟩,t⟩:=hq;obtain⟨f1,f2,f3⟩:=IF.out.sound F hF;rw[<-E] at f1 f2 f3;have d:=HX.out;rw[hF,<-E] at d;have a2:(zb0 L r G).groups.length=G.length:=by unfold zb0;simp
   dsimp only at d;rw[a2] at d;have FI:=FX 0 n (qq1 _) (qql n _);have T:=fun(W:World) (j:New n W)=>zxo (r:=r) (cc:=cc) (cg:=cg) (g:=(G.length:Int)) (c:=0) (p:=0) (FI.later j) (zyg f2)
   generalize zfm (zb0 L r G) (G.length:Int) 0 0=V at*;unfold zmp at T⊢;replace T:=qwk T;have i:=(f.below t f.lt);have R:=qwk FX;have U:=qwk (fun(W:World) (j:New n W)=>zht (c:=c1) (qxj ((RS.out.more (by have:=l.size;rw[HW.out] at this;exact this)).later t) j) (by have:=S.out;have:=HB.out;omega));have b0:=l.size;have b6:=t.size;replace d:=qwk d;clear hF f HX IF f1 f3 f2 a2 E FX FI
   go_upto_region 5 with(refine zal rfl 79 (.tmp 7) (.tmp 19) rfl n.heap.size _ rfl rfl (qw1 n 79 #[.slice none 0 0,.int .i64 0,.slice none 0 0]) (by kernel_rfl) rfl (by simp[Value.oneCell']) ?_
                         intro W3 M Q;have C:New n W3:=zbg ((qwd _ _).alloc (qq0 _) _) Q (qq0 _) (qq0 _);have m:=i.below C i.lt;obtain⟨x0,x1,x2⟩:=zan M;clear Q i)
   go_wp2_with fail
   refine(T.out W3 C).mono ?_;rintro e Y ⟨rfl,b4⟩;clear T x0 x1 x2;have o:=qw5 C b4;have z:=m.below b4 m.lt;have u:=M.below b4 M.lt;obtain⟨i1,i2⟩:wrap64 ((b.length:Int)-12)=(b.length:Int)-12/\wrap64 ((b.length:Int)-12-(s.length:Int))=(b.length:Int)-12-(s.length:Int):=by have:=S.out;have:=HB.out;exact⟨wrS (by omega),wrS (by omega)⟩
   clear m M C b4;by_cases N:V=(b.length:Int)-12-(s.length:Int)
   ·have hX:X=some (zb0 L r G,s):=by rw[d.out,if_pos N]
    have q:(V != (b.length:Int)-12-(s.length:Int))=false:=by simpa using N
    clear N d;subst hX;go_wp2_with fail
    refine zc6 New 3 [(0,0),(1,1),(2,2),(2,3),(1,4),(1,5)] qw4 qw5 (by kernel_rfl) (by kernel_rfl) (by kernel_rfl) (by kernel_rfl) ?_;have F:=qwk (fun(W:World) (j:New Y.drew W)=>u.below (qw5 (qw6 _) j) u.lt);refine zc7 rfl rfl (v:=?_) (fun W j=>?_) ?_;rotate_left;(obtain⟨x0,x1,x2⟩:=zan (F.out W j);go_simp<;> with_reducible rfl);simp only[Act.put,qta,qs1,qtb];refine zb8 rfl rfl (v:=?_) (fun W=>?_) ?_;rotate_left;(go_simp<;> with_reducible rfl);simp only[Act.put,qta,qs1,qtb];refine zbh rfl rfl (fun K Z=>?_);go_simp
    refine(U.out Y.drew (qw5 o (qw6 _))).mono ?_;rintro e W5 ⟨A5,n5,c5,rfl,o5,b5⟩;refine Z _ _ (.inr (.inr b5)) ?_;clear Z;have P:=z.below (qw5 (qw6 _) b5) z.lt;refine zbh rfl rfl (fun K Z=>?_);refine zm8 79 (.tmp 2) (.tmp 38) rfl w.heap.size _ rfl rfl P (by kernel_rfl) (by simp) (by simp[Value.oneCell']) ?_;intro W6 y G6;refine Z _ _ (.inr (.inl rfl)) ?_;clear Z P F;refine zb8 rfl rfl (v:=?_) (fun W=>?_) ?_;rotate_left;(go_simp<;> with_reducible rfl);simp only[Act.put,qta,qs1,qtb];refine zb8 rfl rfl (v:=?_) (fun W=>?_) ?_;rotate_left;(go_simp<;> with_reducible rfl);simp only[Act.put,qta,qs1,qtb];refine zgm ?_;go_wp2_with fail
    obtain⟨H,I,J⟩:=zan y;have B:=qw5 o (qw5 (qw6 _) b5);have b7:=B.size;have a5:w.heap.size<Y.heap.size:=by have:=HZ.out.lt;have:=l.size;have:=o.size;omega
    have o5:Go.Hm.Own W5 Y.heap.size 5 (.slice A5 n5 c5) (zar .u8 s):=o5;refine bodyPost_ret (v:= .tuple #[.agg #[.slice Ac L.length cc,.int .i64 r,.slice Ag G.length cg],.slice A5 n5 c5,.int .i64 0]) (by simp[results,Tryz.results32,go_sem,H,I,J]) rfl ⟨zbg (qw5 N1.out (qw5 l (qw5 t B))) G6 (qq0 _) (qq0 _),?_⟩;exact⟨Ac,cc,L,r,Ag,cg,G,A5,n5,c5,rfl,rfl,R.out w.heap.size W6 (by have:=HZ.out.lt;have:=l.size;omega) ((qw9 B).trans G6),a7,(o5.kept G6 (.inr (fun e=>by have:=(o5.lt _ e).1;omega))).base_le (by omega)⟩
   ·have hX:X=none:=by rw[d.out,if_neg N]
    have q:(V != (b.length:Int)-12-(s.length:Int))=true:=by simpa using N
    clear N d R U u;subst hX
    go_wp2_with (refine zal rfl 79 (.tmp 2) (.tmp 37) rfl w.heap.size _ rfl rfl z (by kernel_rfl) rfl (by simp[Value.oneCell']) ?_
                 intro W5 y G5;obtain⟨H,I,J⟩:=zan y)
    exact bodyPost_ret (v:= .tuple #[.agg #[.slice none 0 0,.int .i64 0,.slice none 0 0],.slice none 0 0,.int .i64 2]) (by simp[results,Tryz.results32,go_sem,H,I,J]) rfl ⟨zbg (qw5 N1.out (qw5 l (qw5 t o))) G5 (qq0 _) (qq0 _),rfl⟩
end Go.Proofs.Y
