/- Merged. -/
import Derived.Test.YtbahbnbpmfgimaaGreatDoorBun32
import Derived.Test.YtbahbnbpmfgimaaGreatDoorBun41
set_option maxHeartbeats 8000000
namespace Go.Proofs.Y
open Go.RowKit Go.Hm
noncomputable def openO(b:List Nat):Option (FootS × List Nat):=
 match zph b with
 |none=>none
 |some s=>match znd (fun r=>r) s with
  |none=>none
  |some F=>if ze0 F (F.groups.length:Int) 0 0=(b.length:Int)-12-(s.length:Int) then some (F,s) else none
theorem qeq{b s:List Nat}(h8:∀x∈b,x<256)(h:zph b=some s):∀x∈s,x<256:=by
 unfold zph at h;split at h
 ·cases h
 ·split at h
  ·cases h
  ·injection h with h
   subst h;exact fun x hx=>h8 x (List.mem_of_mem_drop (List.mem_of_mem_take hx))
theorem zpr{b:List Nat}(h8:∀x∈b,x<256)(hb:b.length<=140737488351232):IsFoot b (znd (fun r=>r) b):=
 qc4 (k:=fun r=>r) (fun _ _ h=>⟨Int.le_refl _,h⟩) h8 hb
theorem qc5(n:Nat):qc1 n (n:Int) 0 0=true:=by unfold qc1;simp
theorem zrq{F:FootS}(h:zbq F):ze0 F (F.groups.length:Int) 0 0=(szG F.groups:Int):=by
 unfold ze0;have e:zff F=true:=by unfold zff;simpa using h
 rw[e,qc5,if_pos (by simp)];exact z3a h
def zfi(body own:List Nat):List Nat:=headL_film++(body++(own++(low own.length 4++tailL)))
theorem zhc(body own:List Nat):(zfi body own).length=body.length+own.length+12:=by simp[zfi,headL_film,tailL,za6];omega
theorem z8j{body own:List Nat}(ho:own.length<4294967296):zph (zfi body own)=some own:=by
 have hl:=zhc body own;have e1:zfi body own=(headL_film++(body++own))++(low own.length 4++tailL):=by simp[zfi]
 have e2:zfi body own=(headL_film++(body++(own++low own.length 4)))++tailL:=by simp[zfi]
 have e3:zfi body own=(headL_film++body)++(own++(low own.length 4++tailL)):=by simp[zfi]
 have l1:headL_film.length=4:=rfl;have l2:tailL.length=4:=rfl;have hN:ownN (zfi body own)=own.length:=by
  unfold ownN;rw[hl];conv=>lhs;rw[e1]
  rw[List.drop_left' (by simp only[List.length_append];omega),List.take_left' (za6 _ 4),zhk (by omega)]
 unfold zph;rw[hN,hl,if_neg,if_neg (by omega)]
 ·congr 1
  conv=>lhs;rw[e3]
  rw[List.drop_left' (by simp only[List.length_append];omega),List.take_left' rfl]
 ·rintro(q|q|q)
  ·omega
  ·exact q (by unfold zfi;rw[List.take_left' l1])
  ·refine q ?_
   conv=>lhs;rw[e2]
   rw[List.drop_left' (by simp only[List.length_append,za6];omega)]
theorem zrr{F:FootS}{body:List Nat}(h:zbq F)(hd:zfa F)(hs:body.length=szG F.groups)(h8:∀x∈zev F,x<256)(ho:(zev F).length<4294967296):
 openO (zfi body (zev F))=some (F,zev F):=by
 unfold openO;rw[z8j ho];dsimp only;rw[(zpr h8 (by omega)).compl F h hd rfl];dsimp only;rw[zrq h,zhc,if_pos (by omega)]
theorem zfs{b:List Nat}{F:FootS}{s:List Nat}(h8:∀x∈b,x<256)(hb:b.length<=140737488351232)(h:openO b=some (F,s)):
 zbq F/\zfa F/\zev F=s/\b=zfi ((b.drop 4).take (szG F.groups)) s/\szG F.groups+s.length+12=b.length/\s.length<4294967296/\ ∀x∈s,x<256:=by
 unfold openO at h;cases ho:zph b with
 |none=>rw[ho] at h;cases h
 |some s'=>
  rw[ho] at h;dsimp only at h;cases hf:znd (fun r=>r) s' with
  |none=>rw[hf] at h;cases h
  |some F'=>
   rw[hf] at h;dsimp only at h;split at h
   ·rename_i hp
    injection h with h;injection h with h1 h2;subst h1 h2;have hs8:=qeq h8 ho;obtain⟨hl1,hl2⟩:=z0l ho;obtain⟨a1,a2,a3⟩:=(zpr hs8 (by omega)).sound _ hf;rw[zrq a1] at hp;have hsz:szG F'.groups+s'.length+12=b.length:=by omega
    have h4:((b.drop (b.length-8)).take 4).length=4:=by rw[List.length_take,List.length_drop];omega
    have h48:∀x∈(b.drop (b.length-8)).take 4,x<256:=fun x hx=>h8 x (List.mem_of_mem_drop (List.mem_of_mem_take hx))
    have hlow:low s'.length 4=(b.drop (b.length-8)).take 4:=by have:=zse _ h48;rw[h4] at this;rw[hl1];exact this
    have hNlt:s'.length<4294967296:=by have:=zqw _ h48;rw[h4] at this;have e:ownN b=num ((b.drop (b.length-8)).take 4):=rfl;omega
    refine⟨a1,a2,a3,?_,hsz,hNlt,hs8⟩;unfold zph at ho;split at ho
    ·cases ho
    ·rename_i hc
     split at ho
     ·cases ho
     ·injection ho with ho
      rw[not_or,not_or,Decidable.not_not,Decidable.not_not] at hc;obtain⟨c1,c2,c3⟩:=hc;rw[<-hl1] at ho;unfold zfi;rw[hlow,<-c2,<-c3];conv=>rhs;rw[<-ho]
      have q1:b.length-8-s'.length=4+szG F'.groups:=by omega
      have q2:b.length-8=4+szG F'.groups+s'.length:=by omega
      have q3:b.length-4=4+szG F'.groups+s'.length+4:=by omega
      rw[q1,q2,q3];have w1:b.drop (4+szG F'.groups)=(b.drop 4).drop (szG F'.groups):=by rw[List.drop_drop]
      have w2:b.drop (4+szG F'.groups+s'.length)=((b.drop 4).drop (szG F'.groups)).drop s'.length:=by rw[List.drop_drop,List.drop_drop];congr 1;omega
      have w3:b.drop (4+szG F'.groups+s'.length+4)=(((b.drop 4).drop (szG F'.groups)).drop s'.length).drop 4:=by rw[List.drop_drop,List.drop_drop,List.drop_drop];congr 1;omega
      rw[w3,w2,w1];have hd1:∀l:List Nat,∀n,l=l.take n++l.drop n:=fun l n=>(List.take_append_drop n l).symm
      have e1:=hd1 b 4;have e2:=hd1 (b.drop 4) (szG F'.groups);have e3:=hd1 ((b.drop 4).drop (szG F'.groups)) s'.length;have e4:=hd1 (((b.drop 4).drop (szG F'.groups)).drop s'.length) 4;rw[<-e4,<-e3,<-e2,<-e1]
   ·cases h
theorem z3f{a b:List Nat}{F:FootS}{s:List Nat}(ha8:∀x∈a,x<256)(hb8:∀x∈b,x<256)(hla:a.length<=140737488351232)(hlb:b.length<=140737488351232)(ha:openO a=some (F,s))(hb:openO b=some (F,s))
 (hc:zet F.groups (a.drop 4)=zet F.groups (b.drop 4)):a=b:=by
 have e1:=(zfs ha8 hla ha).2.2.2.1;have e2:=(zfs hb8 hlb hb).2.2.2.1;rw[e1,e2,<-zlg,<-zlg,hc]
open Go.RowKit Go.Hm
def zml(t:Int)(l:List zab):zdb:=l.foldl (fun s c=>zm0 t s (zj5 c)) zbx
theorem z0y{t:Int}:∀(l a:List zab) {s:zdb},IsStat t a s->IsStat t (a++l) (l.foldl (fun s c=>zm0 t s (zj5 c)) s)
 | [],a,s,h=>by simpa using h
 |c::l,a,s,h=>by
  have:=z0y l (a++[c]) (h.merge (zrd t c));simpa using this
theorem znv(t:Int)(l:List zab):IsStat t l (zml t l):=z0y l [] (zrc t)
def zb3(D:List (List zab))(c:Nat)(s:Int × Int):List zab:=((D.getD c []).drop s.1.toNat).take (s.2-s.1).toNat
def zh7(L:List zbc)(E:List Int)(D:List (List zab))(c:Nat)(s:Int × Int):Int × List Nat:=pgE (L.getD c zfr).2.1 (L.getD c zfr).2.2 (E.getD c 0) (zb3 D c s)
def zd5(L:List zbc)(E:List Int)(D:List (List zab))(c:Nat)(s:Int × Int):za2:=(((zh7 L E D c s).2.length:Int),((zb3 D c s).length:Int),zml (L.getD c zfr).2.1 (zb3 D c s))
abbrev WSt:=Option (List (List Nat) × Int)
def pgW(L:List zbc)(E:List Int)(D:List (List zab))(c:Nat)(S:WSt)(s:Int × Int):WSt:=
 match S with
 |none=>none
 |some x=>if(zh7 L E D c s).1=0/\(zh7 L E D c s).2.length<=268435456/\x.2+(zh7 L E D c s).2.length<=1073741824 then some (x.1++[(zh7 L E D c s).2],x.2+(zh7 L E D c s).2.length) else none
def chW(L:List zbc)(E:List Int)(D:List (List zab))(c:Nat)(S:WSt)(l:List (Int × Int)):WSt:=l.foldl (pgW L E D c) S
def gpW(L:List zbc)(E:List Int)(D:List (List zab))(pr:Int)(s:Int × Int)(S:WSt):Nat->WSt
 |0=>S
 |k+1=>chW L E D k (gpW L E D pr s S k) (zdq s.1 s.2 pr)
def grW(L:List zbc)(E:List Int)(D:List (List zab))(pr:Int)(S:WSt)(s:Int × Int):WSt:=gpW L E D pr s S L.length
def z0z(L:List zbc)(E:List Int)(D:List (List zab))(pr:Int)(l:List (Int × Int)):WSt:=l.foldl (grW L E D pr) (some ([],0))
def zdt(L:List zbc)(E:List Int)(D:List (List zab))(pr:Int)(s:Int × Int):za1:=(s.2-s.1,(List.range L.length).map fun c=>(zdq s.1 s.2 pr).map (zd5 L E D c))
def zem(L:List zbc)(r:Int)(E:List Int)(D:List (List zab))(gr pr:Int):FootS:=⟨L,r,(zdq 0 r gr).map (zdt L E D pr)⟩
noncomputable def zgr(L:List zbc)(r:Int)(D:List zex)(gr pr:Int)(E:List Int):Int × List Nat:=
 if zgg L r D≠0 then(zgg L r D,[])
 else if zej gr pr E L≠0 then(zej gr pr E L,[])
 else match z0z L E (D.map (·.2.2)) pr (zdq 0 r gr) with
  |none=>(4,[])
  |some x=>match zqu (zem L r E (D.map (·.2.2)) gr pr) with
   |none=>(4,[])
   |some own=>if 1073741824<own.length then(4,[]) else(0,zfi x.1.flatten own)
theorem qdm{L:List zbc}{E:List Int}{D:List (List zab)}{c:Nat}(s:Int × Int):pgW L E D c none s=none:=rfl
theorem zjp{L:List zbc}{E:List Int}{D:List (List zab)}{c:Nat}:∀l,chW L E D c none l=none
 | []=>rfl
 |s::l=>by
  show chW L E D c (pgW L E D c none s) l=none;rw[qdm,zjp l]
theorem z00{L:List zbc}{E:List Int}{D:List (List zab)}{pr:Int}{s:Int × Int}:∀k,gpW L E D pr s none k=none
 |0=>rfl
 |k+1=>by rw[gpW,z00 k,zjp]
theorem zpz{L:List zbc}{E:List Int}{D:List (List zab)}{pr:Int}:∀l:List (Int × Int),l.foldl (grW L E D pr) none=none
 | []=>rfl
 |s::l=>by
  show l.foldl (grW L E D pr) (gpW L E D pr s none L.length)=none;rw[z00,zpz l]
theorem qdn{L:List zbc}{E:List Int}{D:List (List zab)}{c:Nat}{S:WSt}{l:List (Int × Int)}{k:Nat}(hk:k<l.length):chW L E D c S (l.take (k+1))=pgW L E D c (chW L E D c S (l.take k)) (l.getD k (0,0)):=by rw[zac _ k (0,0) hk];unfold chW;rw[List.foldl_append];rfl
theorem z86{L:List zbc}{E:List Int}{D:List (List zab)}{c:Nat}{S:WSt}{l:List (Int × Int)}(k:Nat)(h:chW L E D c S (l.take k)=none):chW L E D c S l=none:=by
 have e:chW L E D c S l=chW L E D c (chW L E D c S (l.take k)) (l.drop k):=by unfold chW;rw[<-List.foldl_append,List.take_append_drop]
 rw[e,h,zjp]
theorem zwb{L:List zbc}{E:List Int}{D:List (List zab)}{pr:Int}{s:Int × Int}{S:WSt}{k:Nat}(h:gpW L E D pr s S k=none):∀n,k<=n->gpW L E D pr s S n=none
 |0,hn=>by
  obtain rfl:k=0:=by omega
  exact h
 |n+1,hn=>by
  rcases Nat.lt_or_ge n k with hlt|hge
  ·obtain rfl:k=n+1:=by omega
   exact h
  ·rw[gpW,zwb h n hge,zjp]
theorem z87{L:List zbc}{E:List Int}{D:List (List zab)}{pr:Int}{l:List (Int × Int)}{k:Nat}(hk:k<l.length):z0z L E D pr (l.take (k+1))=grW L E D pr (z0z L E D pr (l.take k)) (l.getD k (0,0)):=by rw[zac _ k (0,0) hk];unfold z0z;rw[List.foldl_append];rfl
theorem z32{L:List zbc}{E:List Int}{D:List (List zab)}{pr:Int}{l:List (Int × Int)}(k:Nat)(h:z0z L E D pr (l.take k)=none):z0z L E D pr l=none:=by
 have e:z0z L E D pr l=(l.drop k).foldl (grW L E D pr) (z0z L E D pr (l.take k)):=by unfold z0z;rw[<-List.foldl_append,List.take_append_drop]
 rw[e,h,zpz]
def OkW(S:WSt):Prop:=∀x,S=some x->x.2=(x.1.flatten.length:Int)/\x.2<=1073741824/\(x.1.length:Int)<=x.2
theorem qi2{L:List zbc}{E:List Int}{D:List (List zab)}{c:Nat}{S:WSt}{s:Int × Int}(h:OkW S):OkW (pgW L E D c S s):=by
 cases S with
 |none=>intro x hx;cases hx
 |some y=>
  intro x hx;obtain⟨h1,h2,h3⟩:=h y rfl;unfold pgW at hx;dsimp only at hx;split at hx
  ·rename_i hc
   injection hx with hx;subst hx;have hne:1<=(zh7 L E D c s).2.length:=by obtain⟨_,_,_,_,d,_,hb⟩:=z0k (show pgE _ _ _ _=(0,(zh7 L E D c s).2) from Prod.ext hc.1 rfl);rw[hb,List.length_cons];omega
   refine⟨?_,hc.2.2,?_⟩
   ·dsimp only
    rw[List.flatten_append,List.length_append,List.flatten_cons,List.flatten_nil,List.append_nil,h1];omega
   ·dsimp only
    rw[List.length_append,List.length_singleton];omega
  ·cases hx
theorem z88{L:List zbc}{E:List Int}{D:List (List zab)}{c:Nat}:∀(l:List (Int × Int)) {S:WSt},OkW S->OkW (chW L E D c S l)
 | [],_,h=>h
 |s::l,S,h=>z88 l (S:=pgW L E D c S s) (qi2 h)
theorem z89{L:List zbc}{E:List Int}{D:List (List zab)}{pr:Int}{s:Int × Int}{S:WSt}(h:OkW S):∀k,OkW (gpW L E D pr s S k)
 |0=>h
 |k+1=>z88 _ (z89 h k)
theorem zyz{L:List zbc}{E:List Int}{D:List (List zab)}{pr:Int}(l:List (Int × Int)):OkW (z0z L E D pr l):=by
 have:∀(l:List (Int × Int)) {S:WSt},OkW S->OkW (l.foldl (grW L E D pr) S):=by
  intro l;induction l with
  |nil=>intro S h;exact h
  |cons s l ih=>intro S h;exact ih (S:=grW L E D pr S s) (z89 h _)
 exact this l (fun x hx=>by injection hx with hx;subst hx;simp)
open Go.RowKit Go.Hm
theorem qj0{t:Int}{nu:Bool}{e:Int}{l:List zab}(h:ckE t nu e l=0):(0<=t/\t<=3)/\l.length<=65536/\(∀c∈l,zae c t nu=true)/\fitsV t (encOf t e l)=true:=by
 unfold ckE at h;split at h
 ·omega
 ·rename_i h1
  split at h
  ·omega
  ·rename_i h2
   split at h
   ·rename_i h3
    rw[List.all_eq_true] at h3;have ht:0<=t/\t<=3:=by
     by_cases q:0<=t/\t<=3
     ·exact q
     ·exact absurd (.inl q) h1
    refine⟨ht,by omega,h3,?_⟩;unfold encOf;split
    ·exact(zvh (z73 ht (by omega) h3)).1
    ·rename_i he
     cases hf:fitsV t e with
     |true=>rfl
     |false=>exact absurd (.inr ⟨he,hf⟩) h1
   ·omega
theorem z38{l:List zab}(h:∀y∈l,CellFine y):∀y∈zdy l,CellFine y:=fun y hy=>h y (by unfold zdy at hy;exact(List.mem_filter.1 hy).1)
set_option maxRecDepth 100000 in
theorem zy2{w:World}{cn:List Nat}{t:Int}{nu:Bool}{e:Int}{A:Option Addr}{n c:Nat}{L:List zab}(h:Reads w w.heap.size 5 A n (recs zay L))(hL:∀y∈L,CellFine y)(hn:n<=4611686018427387903):
 Calls Tryz.prog 108 #[.agg #[.string (zad cn),.int .i64 t,.bool nu],.int .i64 e,.slice A n c] w (zjn (pgE t nu e L) w):=by
 obtain rfl:=h.lenCell;have n1:New w (w.alloc (.cells #[.string (zad cn),.int .i64 t,.bool nu] 71)):=(Below.refl _ _).alloc (Nat.le_refl _) _;have g1:Blk (w.alloc (.cells #[.string (zad cn),.int .i64 t,.bool nu] 71)) w.heap.size 71 #[.string (zad cn),.int .i64 t,.bool nu]:=Blk.new _ _ _;have HD:Hid (∀y∈L,zaq y):=Hz (fun y hy=>zk5 (hL y hy));have CK:=Hz (z31 (cn:=cn) (t:=t) (nu:=nu) (e:=e) (c:=c) (Reads.later h n1) (fun y hy=>(hL y hy).1.1) hn);have HP:=Hz (qiz t nu e L);have HX:=Hz (fun k b=>zyt (t:=t) (nu:=nu) (e:=e) (l:=L) (b:=b) (k:=k) HD.out);have H0:=Hz (@qj0 t nu e L);have HR:=Hz (Reads.later h n1);have HF:=Hz hL;have HE:Hid (encOf t e L=if e= -1 then bestV t (zdy L) else e):=Hz rfl;generalize hX:pgE t nu e L=X at*;generalize ckE t nu e L=M at*;generalize encOf t e L=E at*;have N1:=Hz n1;have G1:=Hz g1;obtain⟨c0,c1,c2⟩:=zan g1;clear h hL g1 n1 hX;go_enter Tryz.func108,Tryz.ntmps108
 go_wp2_with fail
 refine CK.out.mono ?_;rintro e W1 ⟨rfl,b1⟩;clear CK c0 c1 c2;by_cases hm:M=0
 ·subst hm
  obtain⟨ht,hl6,hr,hf⟩:=H0.out rfl;have hp:=HP.out;rw[if_pos rfl] at hp;replace HP:=Hz hp;clear hp H0;have hfe:=(ztc hf).1;obtain⟨q,rfl⟩:=Int.eq_ofNat_of_zero_le hfe.1;have hvl:=ztg L;have SP:=Hz (zqt (c:=c) (Reads.later HR.out b1) hl6);have VE:Hid (zyr t (q:Int) (zdy L)=match zfl t (q:Int) (zdy L) with|some d=>(0,d)|none=>(1,[])):=Hz (by unfold zyr;rw[if_pos hf];generalize zfl t (q:Int) (zdy L)=Z;cases Z<;> rfl);have VL:Hid (∀d,zfl t (q:Int) (zdy L)=some d->d.length<=100000000000):=Hz (fun d hd=>z0x (zpg HD.out) hd);have HVF:=Hz (z38 HF.out);have HS:=Hz (zrw hl6);have HVL:=Hz (zap (n:=L.length) (by omega));have hq4:q<=4:=by omega
  clear hr hf hfe ht;go_wp2_with fail
  refine SP.out.mono ?_;rintro e W2 ⟨A1,m1,k1,A2,m2,k2,rfl,o1,o2,b2⟩;clear SP;have R2:=Hz (Reads.of_own o2);have b12:=New.trans b1 b2;obtain⟨c0,c1,c2⟩:=zan (G1.out.below b12 G1.out.lt);have hm2:m2<=65536:=by have:=R2.out.lenCell;omega
  by_cases he:e= -1
  ·subst he
   have hE:=HE.out;rw[if_pos rfl] at hE;have B:=Hz (z81 (t:=t) (c:=k2) R2.out HVF.out hm2);rw[<-hE] at B;clear hE;go_wp2_with fail
   refine B.out.mono ?_;rintro e W3 ⟨rfl,b3⟩;clear B;have V:=Hz (zj8 (t:=t) (e:=(q:Int)) (c:=k2) (Reads.later R2.out b3) HVF.out hm2);have b13:=New.trans b12 b3;clear c0 c1 c2;obtain⟨c0,c1,c2⟩:=zan (G1.out.below b13 G1.out.lt);obtain rfl:m1=(zcx L).length:=by simpa[zao] using o1.len
   have R1:=Hz (BytIn.later (show BytIn W2 (A1,k1,zcx L) from o1.reads) b3);generalize zfl t (q:Int) (zdy L)=Y at*;generalize zyr t (q:Int) (zdy L)=Z at*;go_wp2_with fail
   refine V.out.mono ?_;rintro e W4 ⟨A3,m3,k3,rfl,o3,b4⟩;clear V;have b14:=New.trans b13 b4;clear c0 c1 c2;obtain⟨c0,c1,c2⟩:=zan (G1.out.below b14 G1.out.lt);cases Y with
   |none=>
    have hz:Z=(1,[]):=VE.out;have hx:X=(1,[]):=HP.out;subst hz hx;go_wp2_with fail
    go_ret2
    exact⟨none,0,0,rfl,Own.nil_,New.trans N1.out b14⟩
   |some d=>
    have hz:Z=(0,d):=VE.out;have hx:X=(0,q::(vp L.length++((if nu=true then zcx L else [])++d))):=HP.out;subst hz;have hdl:=VL.out d rfl;obtain rfl:m3=d.length:=by simpa[zao] using o3.len
    have R3:=Hz (show BytIn W4 (A3,k3,d) from o3.reads);have R1b:=Hz (BytIn.later R1.out b4);obtain⟨c3,hc3⟩:∃c3:Value,c3= .int .u8 (q:Int):=⟨_,rfl⟩;have iw:IntKind.u8.wrap (q:Int)=(q:Int):=by rw[IntKind.wrap_u8];omega
    have n5:New W4 (W4.alloc (.cells #[.int .u8 (q:Int)] 5)):=(Below.refl _ _).alloc (Nat.le_refl _) _;have R5:Hid (BytIn (W4.alloc (.cells #[.int .u8 (q:Int)] 5)) (some ⟨W4.heap.size,0,none⟩,1,[q])):=Hz (Reads.litV _ _ _ 1 _ rfl rfl);have P:=Hz (zc0 none 0 0 [] L.length (W4.alloc (.cells #[.int .u8 (q:Int)] 5)) Reads.none_ (by omega) (by omega));have iz:IntKind.u64.wrap (L.length:Int)=(L.length:Int):=by rw[IntKind.wrap_u64];omega
    clear hc3 c3;cases nu with
    |false=>
     go_wp2_with fail
     refine P.out.mono ?_;rintro e W5 ⟨A5,m5,k5,rfl,o5,b5⟩;clear P;rw[List.nil_append] at o5;obtain rfl:m5=(vp L.length).length:=by simpa[zao] using o5.len
     have R6:=Hz (show BytIn W5 (A5,k5,vp L.length) from o5.reads);have n6:New W5 (W5.alloc (.cells #[.slice (some ⟨W4.heap.size,0,none⟩) 1 1,.slice A5 (vp L.length).length k5,.slice none 0 0,.slice A3 d.length k3] 24)):=(Below.refl _ _).alloc (Nat.le_refl _) _;have hfd:zc4 [(some ⟨W4.heap.size,0,none⟩,1,[q]),(A5,k5,vp L.length),(none,0,[]),(A3,k3,d)]=q::(vp L.length++d):=by simp[zc4]
     have C:=Hz (zgc (w:=W5.alloc (.cells #[.slice (some ⟨W4.heap.size,0,none⟩) 1 1,.slice A5 (vp L.length).length k5,.slice none 0 0,.slice A3 d.length k3] 24)) (c:=4) (D:=[(some ⟨W4.heap.size,0,none⟩,1,[q]),(A5,k5,vp L.length),(none,0,[]),(A3,k3,d)]) (Reads.litV _ _ _ 4 _ rfl rfl) (by
      intro x hx;rcases List.mem_cons.1 hx with rfl|hx
      ·exact BytIn.later R5.out (New.trans b5 n6)
      rcases List.mem_cons.1 hx with rfl|hx
      ·exact BytIn.later R6.out n6
      rcases List.mem_cons.1 hx with rfl|hx
      ·exact Reads.none_
      obtain rfl:=List.mem_singleton.1 hx;exact BytIn.later R3.out (New.trans n5 (New.trans b5 n6))) (by omega) (by rw[hfd];have:=HVL.out;simp only[List.length_cons,List.length_append];omega))
     rw[hfd] at C;have HC:Hid (X=(0,q::(vp L.length++d))):=Hz (hx.trans (by simp));clear hx hfd;generalize vp L.length=vL at*;go_wp2_with fail
     refine C.out.mono ?_;rintro e W6 ⟨A6,m6,k6,rfl,o6,b6⟩;clear C;go_wp2_with fail
     go_ret2
     rw[HC.out];exact⟨A6,m6,k6,rfl,o6.base_le (by have:=N1.out.size;have:=b14.size;have:=n5.size;have:=b5.size;have:=n6.size;omega),New.trans N1.out (New.trans b14 (New.trans n5 (New.trans b5 (New.trans n6 b6))))⟩
    |true=>
     go_wp2_with fail
     refine P.out.mono ?_;rintro e W5 ⟨A5,m5,k5,rfl,o5,b5⟩;clear P;rw[List.nil_append] at o5;obtain rfl:m5=(vp L.length).length:=by simpa[zao] using o5.len
     have R6:=Hz (show BytIn W5 (A5,k5,vp L.length) from o5.reads);have n6:New W5 (W5.alloc (.cells #[.slice (some ⟨W4.heap.size,0,none⟩) 1 1,.slice A5 (vp L.length).length k5,.slice A1 (zcx L).length k1,.slice A3 d.length k3] 24)):=(Below.refl _ _).alloc (Nat.le_refl _) _;have hfd:zc4 [(some ⟨W4.heap.size,0,none⟩,1,[q]),(A5,k5,vp L.length),(A1,k1,zcx L),(A3,k3,d)]=q::(vp L.length++(zcx L++d)):=by simp[zc4]
     have C:=Hz (zgc (w:=W5.alloc (.cells #[.slice (some ⟨W4.heap.size,0,none⟩) 1 1,.slice A5 (vp L.length).length k5,.slice A1 (zcx L).length k1,.slice A3 d.length k3] 24)) (c:=4) (D:=[(some ⟨W4.heap.size,0,none⟩,1,[q]),(A5,k5,vp L.length),(A1,k1,zcx L),(A3,k3,d)]) (Reads.litV _ _ _ 4 _ rfl rfl) (by
      intro x hx;rcases List.mem_cons.1 hx with rfl|hx
      ·exact BytIn.later R5.out (New.trans b5 n6)
      rcases List.mem_cons.1 hx with rfl|hx
      ·exact BytIn.later R6.out n6
      rcases List.mem_cons.1 hx with rfl|hx
      ·exact BytIn.later R1b.out (New.trans n5 (New.trans b5 n6))
      obtain rfl:=List.mem_singleton.1 hx;exact BytIn.later R3.out (New.trans n5 (New.trans b5 n6))) (by omega) (by rw[hfd];have:=HVL.out;have:=HS.out;simp only[List.length_cons,List.length_append];omega))
     rw[hfd] at C;have HC:Hid (X=(0,q::(vp L.length++(zcx L++d)))):=Hz (hx.trans (by simp));clear hx hfd;generalize vp L.length=vL at*;generalize zcx L=sL at*;go_wp2_with fail
     refine C.out.mono ?_;rintro e W6 ⟨A6,m6,k6,rfl,o6,b6⟩;clear C;go_wp2_with fail
     go_ret2
     rw[HC.out];exact⟨A6,m6,k6,rfl,o6.base_le (by have:=N1.out.size;have:=b14.size;have:=n5.size;have:=b5.size;have:=n6.size;omega),New.trans N1.out (New.trans b14 (New.trans n5 (New.trans b5 (New.trans n6 b6))))⟩
  ·have hE:=HE.out
   rw[if_neg he] at hE;subst hE;have i1:((q:Int)== -1)=false:=beq_eq_false_iff_ne.2 (by omega);have b3:New W2 W2:=New.refl _;clear he;have V:=Hz (zj8 (t:=t) (e:=(q:Int)) (c:=k2) (Reads.later R2.out b3) HVF.out hm2);have b13:=New.trans b12 b3;clear c0 c1 c2;obtain⟨c0,c1,c2⟩:=zan (G1.out.below b13 G1.out.lt);obtain rfl:m1=(zcx L).length:=by simpa[zao] using o1.len
   have R1:=Hz (BytIn.later (show BytIn W2 (A1,k1,zcx L) from o1.reads) b3);generalize zfl t (q:Int) (zdy L)=Y at*;generalize zyr t (q:Int) (zdy L)=Z at*;go_wp2_with fail
   refine V.out.mono ?_;rintro e W4 ⟨A3,m3,k3,rfl,o3,b4⟩;clear V;have b14:=New.trans b13 b4;clear c0 c1 c2;obtain⟨c0,c1,c2⟩:=zan (G1.out.below b14 G1.out.lt);cases Y with
   |none=>
    have hz:Z=(1,[]):=VE.out;have hx:X=(1,[]):=HP.out;subst hz hx;go_wp2_with fail
    go_ret2
    exact⟨none,0,0,rfl,Own.nil_,New.trans N1.out b14⟩
   |some d=>
    have hz:Z=(0,d):=VE.out;have hx:X=(0,q::(vp L.length++((if nu=true then zcx L else [])++d))):=HP.out;subst hz;have hdl:=VL.out d rfl;obtain rfl:m3=d.length:=by simpa[zao] using o3.len
    have R3:=Hz (show BytIn W4 (A3,k3,d) from o3.reads);have R1b:=Hz (BytIn.later R1.out b4);obtain⟨c3,hc3⟩:∃c3:Value,c3= .int .u8 (q:Int):=⟨_,rfl⟩;have iw:IntKind.u8.wrap (q:Int)=(q:Int):=by rw[IntKind.wrap_u8];omega
    have n5:New W4 (W4.alloc (.cells #[.int .u8 (q:Int)] 5)):=(Below.refl _ _).alloc (Nat.le_refl _) _;have R5:Hid (BytIn (W4.alloc (.cells #[.int .u8 (q:Int)] 5)) (some ⟨W4.heap.size,0,none⟩,1,[q])):=Hz (Reads.litV _ _ _ 1 _ rfl rfl);have P:=Hz (zc0 none 0 0 [] L.length (W4.alloc (.cells #[.int .u8 (q:Int)] 5)) Reads.none_ (by omega) (by omega));have iz:IntKind.u64.wrap (L.length:Int)=(L.length:Int):=by rw[IntKind.wrap_u64];omega
    clear hc3 c3;cases nu with
    |false=>
     go_wp2_with fail
     refine P.out.mono ?_;rintro e W5 ⟨A5,m5,k5,rfl,o5,b5⟩;clear P;rw[List.nil_append] at o5;obtain rfl:m5=(vp L.length).length:=by simpa[zao] using o5.len
     have R6:=Hz (show BytIn W5 (A5,k5,vp L.length) from o5.reads);have n6:New W5 (W5.alloc (.cells #[.slice (some ⟨W4.heap.size,0,none⟩) 1 1,.slice A5 (vp L.length).length k5,.slice none 0 0,.slice A3 d.length k3] 24)):=(Below.refl _ _).alloc (Nat.le_refl _) _;have hfd:zc4 [(some ⟨W4.heap.size,0,none⟩,1,[q]),(A5,k5,vp L.length),(none,0,[]),(A3,k3,d)]=q::(vp L.length++d):=by simp[zc4]
     have C:=Hz (zgc (w:=W5.alloc (.cells #[.slice (some ⟨W4.heap.size,0,none⟩) 1 1,.slice A5 (vp L.length).length k5,.slice none 0 0,.slice A3 d.length k3] 24)) (c:=4) (D:=[(some ⟨W4.heap.size,0,none⟩,1,[q]),(A5,k5,vp L.length),(none,0,[]),(A3,k3,d)]) (Reads.litV _ _ _ 4 _ rfl rfl) (by
      intro x hx;rcases List.mem_cons.1 hx with rfl|hx
      ·exact BytIn.later R5.out (New.trans b5 n6)
      rcases List.mem_cons.1 hx with rfl|hx
      ·exact BytIn.later R6.out n6
      rcases List.mem_cons.1 hx with rfl|hx
      ·exact Reads.none_
      obtain rfl:=List.mem_singleton.1 hx;exact BytIn.later R3.out (New.trans n5 (New.trans b5 n6))) (by omega) (by rw[hfd];have:=HVL.out;simp only[List.length_cons,List.length_append];omega))
     rw[hfd] at C;have HC:Hid (X=(0,q::(vp L.length++d))):=Hz (hx.trans (by simp));clear hx hfd;generalize vp L.length=vL at*;go_wp2_with fail
     refine C.out.mono ?_;rintro e W6 ⟨A6,m6,k6,rfl,o6,b6⟩;clear C;go_wp2_with fail
     go_ret2
     rw[HC.out];exact⟨A6,m6,k6,rfl,o6.base_le (by have:=N1.out.size;have:=b14.size;have:=n5.size;have:=b5.size;have:=n6.size;omega),New.trans N1.out (New.trans b14 (New.trans n5 (New.trans b5 (New.trans n6 b6))))⟩
    |true=>
     go_wp2_with fail
     refine P.out.mono ?_;rintro e W5 ⟨A5,m5,k5,rfl,o5,b5⟩;clear P;rw[List.nil_append] at o5;obtain rfl:m5=(vp L.length).length:=by simpa[zao] using o5.len
     have R6:=Hz (show BytIn W5 (A5,k5,vp L.length) from o5.reads);have n6:New W5 (W5.alloc (.cells #[.slice (some ⟨W4.heap.size,0,none⟩) 1 1,.slice A5 (vp L.length).length k5,.slice A1 (zcx L).length k1,.slice A3 d.length k3] 24)):=(Below.refl _ _).alloc (Nat.le_refl _) _;have hfd:zc4 [(some ⟨W4.heap.size,0,none⟩,1,[q]),(A5,k5,vp L.length),(A1,k1,zcx L),(A3,k3,d)]=q::(vp L.length++(zcx L++d)):=by simp[zc4]
     have C:=Hz (zgc (w:=W5.alloc (.cells #[.slice (some ⟨W4.heap.size,0,none⟩) 1 1,.slice A5 (vp L.length).length k5,.slice A1 (zcx L).length k1,.slice A3 d.length k3] 24)) (c:=4) (D:=[(some ⟨W4.heap.size,0,none⟩,1,[q]),(A5,k5,vp L.length),(A1,k1,zcx L),(A3,k3,d)]) (Reads.litV _ _ _ 4 _ rfl rfl) (by
      intro x hx;rcases List.mem_cons.1 hx with rfl|hx
      ·exact BytIn.later R5.out (New.trans b5 n6)
      rcases List.mem_cons.1 hx with rfl|hx
      ·exact BytIn.later R6.out n6
      rcases List.mem_cons.1 hx with rfl|hx
      ·exact BytIn.later R1b.out (New.trans n5 (New.trans b5 n6))
      obtain rfl:=List.mem_singleton.1 hx;exact BytIn.later R3.out (New.trans n5 (New.trans b5 n6))) (by omega) (by rw[hfd];have:=HVL.out;have:=HS.out;simp only[List.length_cons,List.length_append];omega))
     rw[hfd] at C;have HC:Hid (X=(0,q::(vp L.length++(zcx L++d)))):=Hz (hx.trans (by simp));clear hx hfd;generalize vp L.length=vL at*;generalize zcx L=sL at*;go_wp2_with fail
     refine C.out.mono ?_;rintro e W6 ⟨A6,m6,k6,rfl,o6,b6⟩;clear C;go_wp2_with fail
     go_ret2
     rw[HC.out];exact⟨A6,m6,k6,rfl,o6.base_le (by have:=N1.out.size;have:=b14.size;have:=n5.size;have:=b5.size;have:=n6.size;omega),New.trans N1.out (New.trans b14 (New.trans n5 (New.trans b5 (New.trans n6 b6))))⟩
 ·have hp:=HP.out
  rw[if_neg hm] at hp;subst hp;have i1:(M==0)=false:=by simpa using hm
  clear hm;go_wp2_with fail
  go_ret2
  exact⟨none,0,0,rfl,Own.nil_,New.trans N1.out b1⟩
end Go.Proofs.Y
