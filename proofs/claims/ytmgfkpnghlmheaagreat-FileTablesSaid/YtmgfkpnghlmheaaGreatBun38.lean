/- Merged. -/
import Derived.Test.YtmgfkpnghlmheaaGreatBun30
import Derived.Test.YtmgfkpnghlmheaaGreatBun36
import Derived.Test.YtmgfkpnghlmheaaGreatBun37
set_option maxHeartbeats 8000000
namespace Go.Proofs.Y
open Go.RowKit Go.Hm
theorem OptCX.u{o:Option (List zab)}{w w':World}{e:Ending}(h:OptCX o w e w'):∃v,e= .returned (.tuple #[v,.bool o.isSome])/\New w w'/\ ∀l,o=some l-> ∃A n c,v= .slice A n c/\w'.ownsRow w.heap.size 61 5 (.slice A n c) n (recs zam l):=by
 cases o with
 |none=>obtain⟨⟨v,rfl⟩,h2⟩:=h;exact⟨v,rfl,h2,fun b hb=>by cases hb⟩
 |some l=>obtain⟨A,n,c,rfl,h2,h3⟩:=h;exact⟨_,rfl,h3,fun b hb=>by injection hb with hb;subst hb;exact⟨_,_,_,rfl,h2⟩⟩
theorem OptCX.of{o:Option (List zab)}{w w':World}{v:Value}(h1:New w w')(h2:∀l,o=some l-> ∃A n c,v= .slice A n c/\w'.ownsRow w.heap.size 61 5 (.slice A n c) n (recs zam l)):OptCX o w (.returned (.tuple #[v,.bool o.isSome])) w':=by
 cases o with
 |none=>exact⟨⟨v,rfl⟩,h1⟩
 |some l=>obtain⟨A,n,c,rfl,h3⟩:=h2 l rfl;exact⟨A,n,c,rfl,h3,h1⟩
set_option maxRecDepth 100000 in
theorem zm6{w:World}{A:Option Addr}{c:Nat}{b:List Nat}{n:Int}(h:Reads w w.heap.size 1 A b.length (za3 .u8 b))(h8:∀x∈b,x<256)(hb:b.length<=140737488351232):
 Calls Tryz.prog 187 #[.int .i64 3,.slice A b.length c,.int .i64 n] w (z2y 3 3 b n w):=by
 have D:=Hz (zm5 (c:=c) (n:=n) h h8 hb);clear h h8;go_enter Tryz.func187,Tryz.ntmps187
 go_wp2_with fail
 refine D.out.mono ?_;rintro e W1 ⟨o,hi,hpost⟩;obtain⟨v,rfl,b1,ho⟩:=hpost.u;have HO:=Hz ho;have HI:=Hz hi;clear ho hi hpost D;generalize hs:o.isSome=S at*;have HS:=Hz hs;clear hs;go_wp2_with fail
 go_ret2
 rw[<-HS.out];exact⟨o,HI.out,OptCX.of b1 HO.out⟩
theorem qcl{w:World}{q:Nat}{t:Int}{A:Option Addr}{c:Nat}{b:List Nat}{n:Int}(hf:fitsV t (q:Int)=true)(h:Reads w w.heap.size 1 A b.length (za3 .u8 b))(h8:∀x∈b,x<256)(hb:b.length<=140737488351232)(hn:zew n):
 Calls Tryz.prog (zxy q) #[.int .i64 t,.slice A b.length c,.int .i64 n] w (z2y t (q:Int) b n w):=by
 have hq:=(zf0 hf).1;have hf2:=hf;unfold fitsV at hf2;rw[decide_eq_true_eq] at hf2;rcases(by omega:q=0\/q=1\/q=2\/q=3\/q=4) with rfl|rfl|rfl|rfl|rfl
 ·exact(zj6 h h8 hb).mono fun _ _ p=>by obtain⟨o,h1,h2⟩:=p;exact⟨o,zou h1,OptC.x h2⟩
 ·exact(zx2 h h8 hb hn.1 hn.2).mono fun _ _ p=>by obtain⟨o,h1,h2⟩:=p;exact⟨o,zq5 h1,OptC.x h2⟩
 ·exact zqk (by omega) h h8 (by omega)
 ·have ht:t=0\/t=3:=by omega
  rcases ht with rfl|rfl
  ·exact zql h h8 (by omega)
  ·exact zm6 h h8 hb
 ·obtain rfl:t=2:=by omega
  exact zpp h h8 (by omega) hn
def DecVPost(t e:Int)(b:List Nat)(n:Int)(w:World)(en:Ending)(w':World):Prop:=
 New w w'/\((fitsV t e=false/\en= .returned (.tuple #[.slice none 0 0,.int .i64 3]))\/
  (fitsV t e=true/\IsVal t e b n none/\en= .returned (.tuple #[.slice none 0 0,.int .i64 2]))\/
  (fitsV t e=true/\ ∃l A m c,IsVal t e b n (some l)/\en= .returned (.tuple #[.slice A m c,.int .i64 0])/\w'.ownsRow w.heap.size 61 5 (.slice A m c) m (recs zam l)))
set_option maxRecDepth 100000 in
theorem zpr{w:World}{t e:Int}{A:Option Addr}{c:Nat}{b:List Nat}{n:Int}(h:Reads w w.heap.size 1 A b.length (za3 .u8 b))(h8:∀x∈b,x<256)(hb:b.length<=140737488351232)(hn:zew n):
 Calls Tryz.prog 125 #[.int .i64 t,.int .i64 e,.slice A b.length c,.int .i64 n] w (DecVPost t e b n w):=by
 have F:=Hz (zim t e w);by_cases hf:fitsV t e=true
 ·have hq:=(zf0 hf).1
  obtain⟨q,rfl⟩:=Int.eq_ofNat_of_zero_le hq.1;have hq4:q<=4:=by omega
  have C:=Hz (@zpj w);have V:=Hz (fun(W:World) (hW:New w W)=>qcl (c:=c) hf (Reads.later h hW) h8 hb hn);have hk:∀args w,(callFunc (zxy q) args).run Tryz.prog w= .ok (.enter (zxy q) args) w:=by intro args w;rcases(by omega:q=0\/q=1\/q=2\/q=3\/q=4) with rfl|rfl|rfl|rfl|rfl<;> simp only[zxy]<;> go_simp
  have HF:=Hz hf;rw[hf] at F;clear hf h hq h8;go_enter Tryz.func125,Tryz.ntmps125
  go_wp2_with fail
  refine F.out.mono ?_;rintro e W0 ⟨rfl,rfl⟩;clear F;go_wp2_with fail
  refine C.out.mono ?_;rintro e W1 ⟨bl,f,rfl,M,hff,b1⟩;have V1:=Hz (V.out W1 b1);have hfq:=hff q hq4;clear C V hff;have hz:=z7o W1;have hfd:=z2w (zxx q) (zxy q) W1;go_wp2_with (refine zhc rfl (.tmp 17) (.tmp 18) 190 rfl qf4 zxz hz M hfq (zh1 q hq4) rfl rfl ?_;unfold qig)
  refine V1.out.mono ?_;rintro e W2 ⟨o,hi,hpost⟩;have HI:=Hz hi;obtain⟨v,rfl,b2,ho⟩:=hpost.u;have HO:=Hz ho;clear ho hpost V1 M hz hfq hi;cases o with
  |none=>
   go_wp2_with fail
   go_ret2
   exact⟨New.trans b1 b2,.inr (.inl ⟨HF.out,HI.out,rfl⟩)⟩
  |some l=>
   obtain⟨A1,n1,c1,rfl,o1⟩:=HO.out l rfl;go_wp2_with fail
   go_ret2
   exact⟨New.trans b1 b2,.inr (.inr ⟨HF.out,l,A1,n1,c1,HI.out,rfl,zbd o1 b1.size⟩)⟩
 ·have hf0:fitsV t e=false:=by simpa using hf
  have HF:=Hz hf0;rw[hf0] at F;clear hf hf0 h h8;go_enter Tryz.func125,Tryz.ntmps125
  go_wp2_with fail
  refine F.out.mono ?_;rintro e W0 ⟨rfl,rfl⟩;clear F;go_wp2_with fail
  go_ret2
  exact⟨New.refl _,.inl ⟨HF.out,rfl⟩⟩
open Go.RowKit Go.Hm
theorem qho(t:Int):fitsV t 0=decide (0<=t/\t<=3):=by unfold fitsV;rw[decide_eq_decide];omega
def ckE(t:Int)(nu:Bool)(e:Int)(l:List zab):Int:=
 if¬(0<=t/\t<=3)\/(e≠ -1/\fitsV t e=false) then 3 else if 65536<l.length then 4 else if(l.all fun c=>zac c t nu)=true then 0 else 1
theorem qhp(t:Int)(nu:Bool)(e:Int)(l:List zab):pgE t nu e l=if ckE t nu e l=0 then(match zdh t (encOf t e l) (zbz l) with
 |some d=>(0,(encOf t e l).toNat::(vp l.length++((if nu=true then zb3 l else [])++d)))
 |none=>(1,[])) else(ckE t nu e l,[]):=by
 unfold pgE ckE;split
 ·simp
 ·split
  ·simp
  ·split
   ·rw[if_pos rfl]
    generalize zdh t (encOf t e l) (zbz l)=Z;cases Z<;> rfl
   ·simp
theorem zrw{w:World}{t:Int}:Calls Tryz.prog 121 #[.int .i64 t] w (zdw (.bool (decide (0<=t/\t<=3))) w):=by
 have F:=Hz (zim t 0 w);rw[qho] at F;generalize decide (0<=t/\t<=3)=K at*;go_enter Tryz.func121,Tryz.ntmps121
 go_wp2_with fail
 refine F.out.mono ?_;rintro e W0 ⟨rfl,rfl⟩;go_wp2_with fail
 go_ret
 exact⟨rfl,rfl⟩
set_option maxRecDepth 100000 in
theorem z20{w:World}{cn:List Nat}{t:Int}{nu:Bool}{e:Int}{A:Option Addr}{n c:Nat}{L:List zab}(h:Reads w w.heap.size 5 A n (recs zam L))(hL:∀y∈L,y.2.2.1.length<=140737488351232)(hn:n<=4611686018427387903):
 Calls Tryz.prog 133 #[.agg #[.string (zad cn),.int .i64 t,.bool nu],.int .i64 e,.slice A n c] w (zap (.int .i64 (ckE t nu e L)) w):=by
 obtain rfl:=h.lenCell;have HR:=Hz h;have HL:=Hz hL;clear h hL;have KN:=Hz (fun W=>zrw (w:=W) (t:=t));have F:=Hz (fun W=>zim t e W);obtain⟨M,hM⟩:∃M,M=ckE t nu e L:=⟨_,rfl⟩;rw[<-hM];unfold ckE at hM;have n1:New w (w.alloc (.cells #[.string (zad cn),.int .i64 t,.bool nu] 70)):=(Below.refl _ _).alloc (Nat.le_refl _) _;have g1:Blk (w.alloc (.cells #[.string (zad cn),.int .i64 t,.bool nu] 70)) w.heap.size 70 #[.string (zad cn),.int .i64 t,.bool nu]:=Blk.new _ _ _;obtain⟨c0,c1,c2⟩:=zaf g1;have N1:=Hz n1;have G1:=Hz g1;clear n1 g1;by_cases hk:0<=t/\t<=3
 ·rw[decide_eq_true hk] at KN
  by_cases he:e= -1
  ·subst he
   rw[if_neg (by rintro(q|q);exact q hk;exact q.1 rfl)] at hM;have HM:=Hz hM;clear hM hk F;go_enter Tryz.func133,Tryz.ntmps133
   go_wp2_with fail
   refine(KN.out _).mono ?_;rintro e W0 ⟨rfl,rfl⟩;clear KN;by_cases hbig:65536<L.length
   ·have hx:M=4:=by rw[HM.out,if_pos hbig]
    subst hx;have i2:(65536:Int)<(L.length:Int):=by omega
    go_wp2_with fail
    go_ret
    exact⟨rfl,N1.out⟩
   ·have hx:=HM.out
    rw[if_neg hbig] at hx;replace HM:=Hz hx;have i2:(L.length:Int)<=65536:=by omega
    have hs:L.length<=65536:=by omega
    clear hx hbig;go_wp2_with fail
    go_loopw [29] (fun i wr=>∃k:Nat,k<=L.length/\i= .int .i64 (k:Int)/\New (w.alloc (.cells #[.string (zad cn),.int .i64 t,.bool nu] 70)) wr/\Hid (∀c∈L.take k,zac c t nu=true)) (fun i _=>L.length-(intOf i).toNat)
    case atStart=>exact⟨0,Nat.zero_le _,rfl,New.refl _,Hz (by simp)⟩
    case round=>
     clear c0 c1 c2;obtain⟨k,hk,rfl,hW,hr⟩:=hrel;by_cases hlt:k<L.length
     ·obtain⟨ad,rfl,hb,d0,d1,d2,d3,d4⟩:=(Reads.later HR.out (New.trans N1.out hW)).cell5 hlt
      have htk:=zae L k (false,0,[],0,0) hlt;have hmem:=zc7 (false,0,[],0,0) hlt;have hy:=HL.out _ hmem;have R1:=fun(W:World)=>zfj (w:=W) (b:=(L.getD k (false,0,[],0,0)).1) (n:=(L.getD k (false,0,[],0,0)).2.1) (s:=(L.getD k (false,0,[],0,0)).2.2.1) (x:=(L.getD k (false,0,[],0,0)).2.2.2.1) (y:=(L.getD k (false,0,[],0,0)).2.2.2.2) (cn:=cn) (t:=t) (nu:=nu) hy
      have hno:zac (L.getD k (false,0,[],0,0)) t nu=false->M=1:=fun e=>by rw[HM.out,if_neg];intro e2;have:=(List.all_eq_true.1 e2) _ hmem;rw[e] at this;cases this
      have hyes:zac (L.getD k (false,0,[],0,0)) t nu=true-> ∀c∈L.take (k+1),zac c t nu=true:=fun e c hc=>by
       rw[htk] at hc;rcases List.mem_append.1 hc with hc|hc
       ·exact hr.out c hc
       ·rw[List.mem_singleton.1 hc];exact e
      clear htk hmem hy hr;generalize L.getD k (false,0,[],0,0)=y at*;obtain⟨y0,y1,y2,y3,y4⟩:=y;dsimp only at R1 d0 d1 d2 d3 d4;generalize zac (y0,y1,y2,y3,y4) t nu=m at*;have R1:Hid (∀W,Calls Tryz.prog 52 #[.agg #[.bool y0,.int .i64 y1,.string (zad y2),.int .i64 y3,.int .i64 y4],.agg #[.string (zad cn),.int .i64 t,.bool nu]] W (zap (.bool m) W)):=Hz R1;have hno:=Hz hno;have hyes:=Hz hyes;have ha:New wr (wr.alloc (.cells #[.bool y0,.int .i64 y1,.string (zad y2),.int .i64 y3,.int .i64 y4] 61)):=(Below.refl _ _).alloc (Nat.le_refl _) _;have G2:=(G1.out.below hW G1.out.lt).below ha (G1.out.below hW G1.out.lt).lt;obtain⟨c0,c1,c2⟩:=zaf G2;clear G2;have i3:(k:Int)<(L.length:Int):=by omega
      go_wp2_with fail
      refine(R1.out _).mono ?_;rintro e w1 ⟨rfl,b1⟩;have hl:=New.trans (New.trans hW ha) b1;clear c0 c1 c2;cases m with
      |false=>
       have hm:=hno.out (by trivial);have HM2:=Hz hm;clear hno hyes hm;go_wp2_with fail
       go_ret
       rw[HM2.out];exact⟨rfl,New.trans N1.out hl⟩
      |true=>
       have hm:=Hz (hyes.out (by trivial));clear hno hyes;go_wp2_with fail
       go_roundw
       case rel=>exact⟨k+1,by omega,by go_num,hl,hm⟩
       case measure=>simp[intOf];omega
     ·obtain rfl:k=L.length:=by omega
      have hx:M=0:=by rw[HM.out,if_pos];exact List.all_eq_true.2 (by simpa using hr.out)
      subst hx;go_wp2_with fail
      go_ret
      exact⟨rfl,New.trans N1.out hW⟩
  ·have i1:(e== -1)=false:=by simpa using he
   cases hf:fitsV t e with
   |false=>
    rw[if_pos (.inr ⟨he,hf⟩)] at hM;subst hM;rw[hf] at F;have HE:=Hz he;clear he hf hk;go_enter Tryz.func133,Tryz.ntmps133
    go_wp2_with fail
    refine(KN.out _).mono ?_;rintro e W0 ⟨rfl,rfl⟩;clear KN;go_wp2_with fail
    refine(F.out _).mono ?_;rintro e W0 ⟨rfl,rfl⟩;clear F;go_wp2_with fail
    go_ret
    exact⟨rfl,N1.out⟩
   |true=>
    rw[if_neg (by rintro(q|q);exact q hk;rw[hf] at q;cases q.2)] at hM;have HM:=Hz hM;rw[hf] at F;have HE:=Hz he;clear hM hk he hf;go_enter Tryz.func133,Tryz.ntmps133
    go_wp2_with fail
    refine(KN.out _).mono ?_;rintro e W0 ⟨rfl,rfl⟩;clear KN;go_wp2_with fail
    refine(F.out _).mono ?_;rintro e W0 ⟨rfl,rfl⟩;clear F;by_cases hbig:65536<L.length
    ·have hx:M=4:=by rw[HM.out,if_pos hbig]
     subst hx;have i2:(65536:Int)<(L.length:Int):=by omega
     go_wp2_with fail
     go_ret
     exact⟨rfl,N1.out⟩
    ·have hx:=HM.out
     rw[if_neg hbig] at hx;replace HM:=Hz hx;have i2:(L.length:Int)<=65536:=by omega
     have hs:L.length<=65536:=by omega
     clear hx hbig;go_wp2_with fail
     go_loopw [29] (fun i wr=>∃k:Nat,k<=L.length/\i= .int .i64 (k:Int)/\New (w.alloc (.cells #[.string (zad cn),.int .i64 t,.bool nu] 70)) wr/\Hid (∀c∈L.take k,zac c t nu=true)) (fun i _=>L.length-(intOf i).toNat)
     case atStart=>exact⟨0,Nat.zero_le _,rfl,New.refl _,Hz (by simp)⟩
     case round=>
      clear c0 c1 c2;obtain⟨k,hk,rfl,hW,hr⟩:=hrel;by_cases hlt:k<L.length
      ·obtain⟨ad,rfl,hb,d0,d1,d2,d3,d4⟩:=(Reads.later HR.out (New.trans N1.out hW)).cell5 hlt
       have htk:=zae L k (false,0,[],0,0) hlt;have hmem:=zc7 (false,0,[],0,0) hlt;have hy:=HL.out _ hmem;have R1:=fun(W:World)=>zfj (w:=W) (b:=(L.getD k (false,0,[],0,0)).1) (n:=(L.getD k (false,0,[],0,0)).2.1) (s:=(L.getD k (false,0,[],0,0)).2.2.1) (x:=(L.getD k (false,0,[],0,0)).2.2.2.1) (y:=(L.getD k (false,0,[],0,0)).2.2.2.2) (cn:=cn) (t:=t) (nu:=nu) hy
       have hno:zac (L.getD k (false,0,[],0,0)) t nu=false->M=1:=fun e=>by rw[HM.out,if_neg];intro e2;have:=(List.all_eq_true.1 e2) _ hmem;rw[e] at this;cases this
       have hyes:zac (L.getD k (false,0,[],0,0)) t nu=true-> ∀c∈L.take (k+1),zac c t nu=true:=fun e c hc=>by
        rw[htk] at hc;rcases List.mem_append.1 hc with hc|hc
        ·exact hr.out c hc
        ·rw[List.mem_singleton.1 hc];exact e
       clear htk hmem hy hr;generalize L.getD k (false,0,[],0,0)=y at*;obtain⟨y0,y1,y2,y3,y4⟩:=y;dsimp only at R1 d0 d1 d2 d3 d4;generalize zac (y0,y1,y2,y3,y4) t nu=m at*;have R1:Hid (∀W,Calls Tryz.prog 52 #[.agg #[.bool y0,.int .i64 y1,.string (zad y2),.int .i64 y3,.int .i64 y4],.agg #[.string (zad cn),.int .i64 t,.bool nu]] W (zap (.bool m) W)):=Hz R1;have hno:=Hz hno;have hyes:=Hz hyes;have ha:New wr (wr.alloc (.cells #[.bool y0,.int .i64 y1,.string (zad y2),.int .i64 y3,.int .i64 y4] 61)):=(Below.refl _ _).alloc (Nat.le_refl _) _;have G2:=(G1.out.below hW G1.out.lt).below ha (G1.out.below hW G1.out.lt).lt;obtain⟨c0,c1,c2⟩:=zaf G2;clear G2;have i3:(k:Int)<(L.length:Int):=by omega
       go_wp2_with fail
       refine(R1.out _).mono ?_;rintro e w1 ⟨rfl,b1⟩;have hl:=New.trans (New.trans hW ha) b1;clear c0 c1 c2;cases m with
       |false=>
        have hm:=hno.out (by trivial);have HM2:=Hz hm;clear hno hyes hm;go_wp2_with fail
        go_ret
        rw[HM2.out];exact⟨rfl,New.trans N1.out hl⟩
       |true=>
        have hm:=Hz (hyes.out (by trivial));clear hno hyes;go_wp2_with fail
        go_roundw
        case rel=>exact⟨k+1,by omega,by go_num,hl,hm⟩
        case measure=>simp[intOf];omega
      ·obtain rfl:k=L.length:=by omega
       have hx:M=0:=by rw[HM.out,if_pos];exact List.all_eq_true.2 (by simpa using hr.out)
       subst hx;go_wp2_with fail
       go_ret
       exact⟨rfl,New.trans N1.out hW⟩
 ·rw[decide_eq_false hk] at KN
  rw[if_pos (.inl hk)] at hM;subst hM;have HK:=Hz hk;clear hk F;go_enter Tryz.func133,Tryz.ntmps133
  go_wp2_with fail
  refine(KN.out _).mono ?_;rintro e W0 ⟨rfl,rfl⟩;clear KN;go_wp2_with fail
  go_ret
  exact⟨rfl,N1.out⟩
open Go.RowKit Go.Hm
theorem DecVPost.u{t e:Int}{b:List Nat}{n:Int}{w w':World}{en:Ending}(h:DecVPost t e b n w en w'):
 ∃v k,en= .returned (.tuple #[v,.int .i64 k])/\New w w'/\((k≠0/\(fitsV t e=true->IsVal t e b n none))\/(k=0/\fitsV t e=true/\ ∃l A m c,v= .slice A m c/\IsVal t e b n (some l)/\w'.ownsRow w.heap.size 61 5 (.slice A m c) m (recs zam l))):=by
 obtain⟨hb,h⟩:=h;rcases h with⟨h1,rfl⟩|⟨h1,h2,rfl⟩|⟨h1,l,A,m,c,h2,rfl,h3⟩
 ·exact⟨_,_,rfl,hb,.inl ⟨by omega,fun q=>by rw[h1] at q;cases q⟩⟩
 ·exact⟨_,_,rfl,hb,.inl ⟨by omega,fun _=>h2⟩⟩
 ·exact⟨_,_,rfl,hb,.inr ⟨rfl,h1,l,A,m,c,rfl,h2,h3⟩⟩
def qcq(t:Int)(nu:Bool)(b:List Nat)(w:World)(en:Ending)(w':World):Prop:=
 New w w'/\((¬(0<=t/\t<=3)/\en= .returned (.tuple #[.slice none 0 0,.int .i64 3]))\/
  ((0<=t/\t<=3)/\IsPg t nu b none/\en= .returned (.tuple #[.slice none 0 0,.int .i64 2]))\/
  ((0<=t/\t<=3)/\ ∃l A m c,IsPg t nu b (some l)/\en= .returned (.tuple #[.slice A m c,.int .i64 0])/\w'.ownsRow w.heap.size 61 5 (.slice A m c) m (recs zam l)))
theorem zx4{t:Int}{e:Nat}{S:St}{ov:Option (List zab)}(h:S=none\/fitsV t (e:Int)=false\/ov=none):qgq t e S ov=none:=by
 unfold qgq;rcases h with h|h|h
 ·rw[if_pos (.inl h)]
 ·rw[if_pos (.inr h)]
 ·subst h;split<;> rfl
theorem zx5{t:Int}{e:Nat}{S:St}{U:Option (List Nat)}{ov:Option (List zab)}(h:S=none\/fitsV t (e:Int)=false\/ov=none):qgr t e S U ov=none:=by
 unfold qgr;rcases h with h|h|h
 ·rw[if_pos (.inl h)]
 ·rw[if_pos (.inr h)]
 ·subst h;split<;> rfl
theorem wr7{n:Nat}(h:(n:Int)<=65536):wrap64 ((n:Int)+7)=(n:Int)+7:=by unfold wrap64;omega
theorem qje(n:Nat):Int.tdiv ((n:Int)+7) 8=(((n+7)/8:Nat):Int):=by rw[Int.tdiv_eq_ediv_of_nonneg (by omega)];omega
theorem wr8{m:Nat}(h:m<=65536):wrap64 (m:Int)=(m:Int):=by unfold wrap64;omega
theorem z7z:∀m:List Nat,(∀y∈m,y<2^1)->m.sum<=m.length
 | [],_=>by simp
 |y::m,h=>by
  have h1:=h y (by simp);have h2:=z7z m (fun z hz=>h z (by simp[hz]));simp only[List.sum_cons,List.length_cons];omega
theorem z0a{b:List Nat}{n:Int}(h8:∀x∈b,x<256): -1<=zp8 (zbf b 1 n)/\zp8 (zbf b 1 n)<=65536:=by
 cases h:zbf b 1 n with
 |none=>exact⟨Int.le_refl _,by simp[zp8]⟩
 |some m=>
  obtain⟨_,_,h2,h3⟩:=zsy h8 h;have:=z7z m h2;simp only[zp8];omega
set_option maxRecDepth 100000 in
theorem zvz{w:World}{cn:List Nat}{t:Int}{nu:Bool}{A:Option Addr}{c:Nat}{b:List Nat}(h:Reads w w.heap.size 1 A b.length (za3 .u8 b))(h8:∀x∈b,x<256)(hb:b.length<=140737488351232):
 Calls Tryz.prog 97 #[.agg #[.string (zad cn),.int .i64 t,.bool nu],.slice A b.length c] w (qcq t nu b w):=by
 have n1:New w (w.alloc (.cells #[.string (zad cn),.int .i64 t,.bool nu] 70)):=(Below.refl _ _).alloc (Nat.le_refl _) _;have g1:Blk (w.alloc (.cells #[.string (zad cn),.int .i64 t,.bool nu] 70)) w.heap.size 70 #[.string (zad cn),.int .i64 t,.bool nu]:=Blk.new _ _ _;have KN:=Hz (fun W=>zrw (w:=W) (t:=t));have C:=Hz (zfa (c:=c) (Reads.later h n1) (by omega) h8);have N1:=Hz n1;have G1:=Hz g1;obtain⟨c0,c1,c2⟩:=zaf g1;clear g1 n1;by_cases hk:0<=t/\t<=3
 ·rw[decide_eq_true hk] at KN
  have HK:=Hz hk;have hok:St.ok (some b):=St.ok_some h8;have HE8:Hid ((zbc (some b)).1<256):=Hz (zhp (St.ok_some h8));obtain⟨en,S1,k1⟩:∃en S1,zbc (some b)=(en,S1):=⟨_,_,rfl⟩;have hok1:S1.ok:=by have:=zt7 hok;rwa[k1] at this
  rw[k1] at HE8;have HE8:Hid (en<256):=HE8;obtain⟨n,S2,k2⟩:∃n S2,lenS 65536 S1=(n,S2):=⟨_,_,rfl⟩;have hok2:S2.ok:=by have:=za6 (m:=65536) hok1;rwa[k2] at this
  have hn6:(n:Int)<=65536:=by have:=zb1 (m:=65536) S1 (by omega) hok1;rwa[k2] at this
  have hs1:(S1.getD []).length<=b.length:=by have:=zn4 (S:=some b);rwa[k1] at this
  have hs2:(S2.getD []).length<=(S1.getD []).length:=by have:=zc5 (m:=65536) hok1;rwa[k2] at this
  have KK:=Hz (And.intro h8 (And.intro k1 k2));have HO2:=Hz hok2;have K1:=Hz k1;have K2:=Hz k2;clear hok hok1 hok2 hk h h8 k1 k2;have iw:IntKind.i64.wrap (en:Int)=(en:Int):=by rw[IntKind.wrap_i64];have:=HE8.out;omega
  go_enter Tryz.func97,Tryz.ntmps97
  go_wp2_with fail
  refine(KN.out _).mono ?_;rintro e W0 ⟨rfl,rfl⟩;clear KN;go_wp2_with fail
  refine C.out.mono ?_;rintro e w1 ⟨g,rfl,hg,C1,b1⟩;have s1:=CurS.of C1;have BY:=ze2 s1;rw[K1.out] at BY;replace BY:=Hz BY;clear C C1 s1 c0 c1 c2;go_wp2_with fail
  refine BY.out.mono ?_;rintro e w2 ⟨rfl,s2,g2⟩;have b2:=Far.below b1 g2 hg (Nat.le_refl _);have L1:=zb9 (m:=65536) s2 (by omega) (by omega);rw[K2.out] at L1;replace L1:=Hz L1;clear BY b1 g2 s2;go_wp2_with fail
  refine L1.out.mono ?_;rintro e w3 ⟨rfl,s3,g3⟩;have b3:=Far.below b2 g3 hg (Nat.le_refl _);clear L1 b2 g3;obtain⟨c0,c1,c2⟩:=zaf (G1.out.below b3 G1.out.lt);have hgne:w.heap.size≠g:=by have:=G1.out.lt;omega
  cases nu with
  |false=>
   go_wp2_with fail
   have hT0:(n:Int)<=65536:=hn6;have hT1:(0:Int)<=(n:Int):=by omega
   obtain⟨hy1,hy2⟩:=zpq S2;have hin:zew (n:Int):=⟨by omega,by omega⟩;refine zat (Turns [g]) [(true,0),(true,1),(true,2),(true,3),(true,4),(true,7),(false,5),(false,6),(false,8),(true,9),(true,10),(true,11),(true,12),(true,13)]
    (Turns.refl _) Turns.trans (by kernel_rfl) (by kernel_rfl) (by kernel_rfl) (by kernel_rfl) ?_
   have F:=Hz (fun(W:World) (hW:Turns [g] w3.drew W)=>(G1.out.below b3 G1.out.lt).drew.touch hW (by simp;omega));clear c0 c1 c2;have s3:=s3.below (New.drew _);have b5:=New.trans b3 (New.drew _);obtain⟨wa,hwa⟩:∃wa,wa=w3.drew:=⟨_,rfl⟩;rw[<-hwa] at F s3 b5⊢;clear hwa b3;repeat(first
    |(refine za1 rfl rfl (v:=?_) (fun W hQ=>?_) ?_;rotate_left;(obtain⟨y0,y1,y2⟩:=zaf (F.out W hQ);go_simp<;> with_reducible rfl);simp only[Act.put,List.setIfInBounds_toArray,List.set_cons_zero,List.set_cons_succ]))
   have LF:=Hz (zud s3);unfold ze9 at LF;refine zbb rfl rfl (fun K0 hK0=>?_);go_simp
   (with_reducible refine LF.out.mono ?_)
   rintro e u ⟨rfl,rfl⟩;refine hK0 _ _ (Turns.refl _ _) ?_;clear hK0 LF;have T2:=zc8 (n:=((S2.getD []).length:Int)) s3 (by omega) (by omega);rw[hy1] at T2;obtain⟨S9,hS9⟩:∃S9,S9=(zbt ((S2.getD []).length:Int) S2).2:=⟨_,rfl⟩;rw[<-hS9] at T2 hy2;replace T2:=Hz T2;have HX8:Hid (∀z∈S2.getD [],z<256):=Hz (fun z hz=>by
    cases hq:S2 with
    |none=>rw[hq] at hz;cases hz
    |some r=>rw[hq] at hz;exact HO2.out r hq z hz)
   clear hS9 hy1;refine zbb rfl rfl (fun K0 hK0=>?_);go_simp
   (with_reducible refine T2.out.mono ?_)
   rintro e w5 ⟨A5,n5,c5,rfl,rfl,o5,s5,g5⟩;refine hK0 _ _ (Turns.of_far g5 (by simp)) ?_;clear hK0 T2;have b5:=Far.below b5 g5 hg (Nat.le_refl _);have V:=Hz (zpr (t:=t) (e:=(en:Int)) (c:=c5) (n:=(n:Int)) o5.reads HX8.out (by omega) hin);clear o5 F;refine zbb rfl rfl (fun K0 hK0=>?_);go_simp
   (with_reducible refine V.out.mono ?_)
   intro e w6 hpost;obtain⟨v,k,rfl,b56,HC⟩:=hpost.u;refine hK0 _ _ (Turns.of_new b56) ?_;clear hK0 V hpost;repeat(first
    |(refine za1 rfl rfl (v:=?_) (fun W hQ=>?_) ?_;rotate_left;(go_simp<;> with_reducible rfl);simp only[Act.put,List.setIfInBounds_toArray,List.set_cons_zero,List.set_cons_succ]))
   refine zc3 ?_;have b6:=New.trans b5 b56;have BD:=Hz (zy5 (s5.below b56));rw[hy2] at BD;clear s5 hy2;obtain⟨c0,c1,c2⟩:=zaf (G1.out.below b6 G1.out.lt);cases hS:S2 with
   |none=>
    have HN:Hid (IsPg t false b none):=Hz (by
     rcases HC with⟨_,q⟩|⟨_,_,l,_,_,_,_,q,_⟩
     ·have:=zk1 (t:=t) (x:=S2.getD []) (ov:=none) KK.out.1 KK.out.2.1 KK.out.2.2 rfl q
      rwa[zx4 (.inr (.inr rfl))] at this
     ·have:=zk1 (t:=t) (x:=S2.getD []) (ov:=some l) KK.out.1 KK.out.2.1 KK.out.2.2 rfl (fun _=>q)
      rwa[zx4 (.inl hS)] at this)
    have hsn:S2.isNone=true:=by rw[hS];rfl
    rw[hsn] at BD;clear hS HC hsn;go_wp2_with fail
    refine BD.out.mono ?_;rintro e w7 ⟨rfl,rfl⟩;go_wp2_with fail
    go_ret2
    exact⟨New.trans N1.out b6,.inr (.inl ⟨HK.out,HN.out,rfl⟩)⟩
   |some R=>
    have hsn:S2.isNone=false:=by rw[hS];rfl
    have HSN:=Hz (show S2≠none by rw[hS];simp);rw[hsn] at BD;clear hS hsn;rcases HC with⟨hk0,q⟩|⟨rfl,hfit,l,A7,m7,c7,rfl,q,o7⟩
    ·have HN:Hid (IsPg t false b none):=Hz (by
      have:=zk1 (t:=t) (x:=S2.getD []) (ov:=none) KK.out.1 KK.out.2.1 KK.out.2.2 rfl q;rwa[zx4 (.inr (.inr rfl))] at this)
     have i9:(k==0)=false:=beq_eq_false_iff_ne.2 hk0;clear q hk0;go_wp2_with fail
     refine BD.out.mono ?_;rintro e w7 ⟨rfl,rfl⟩;go_wp2_with fail
     go_ret2
     exact⟨New.trans N1.out b6,.inr (.inl ⟨HK.out,HN.out,rfl⟩)⟩
    ·have HN:Hid (IsPg t false b (some l)):=Hz (by
      have:=zk1 (t:=t) (x:=S2.getD []) (ov:=some l) KK.out.1 KK.out.2.1 KK.out.2.2 rfl (fun _=>q);unfold qgq at this;rwa[if_neg (by rintro(p|p);exact HSN.out p;rw[hfit] at p;cases p)] at this)
     clear q hfit;have hz6:w.heap.size<=w5.heap.size:=by have:=N1.out.size;have:=b5.size;omega
     go_wp2_with fail
     refine BD.out.mono ?_;rintro e w7 ⟨rfl,rfl⟩;go_wp2_with fail
     go_ret2
     exact⟨New.trans N1.out b6,.inr (.inr ⟨HK.out,l,A7,m7,c7,HN.out,rfl,zbd o7 hz6⟩)⟩
  |true=>
   obtain⟨bits,S3,k4⟩:∃bits S3,zbt (((n+7)/8:Nat):Int) S2=(bits,S3):=⟨_,_,rfl⟩;have htk:=zcq (n:=(((n+7)/8:Nat):Int)) HO2.out;rw[k4] at htk;have hs3:(S3.getD []).length<=(S2.getD []).length:=by have:=zg3 (n:=(((n+7)/8:Nat):Int)) S2;rwa[k4] at this
   have hbl:(bits.length:Int)<=(((n+7)/8:Nat):Int):=by have:=zeh (n:=(((n+7)/8:Nat):Int)) (S:=S2) (by omega);rwa[k4] at this
   have T1:=zc8 (n:=(((n+7)/8:Nat):Int)) s3 (by omega) (by omega);rw[k4] at T1;replace T1:=Hz T1;have HB8:=Hz htk.2;have HO3:=Hz htk.1;have K4:=Hz k4;clear htk k4 s3;have nd:(n+7)/8<=8193:=by clear iw;omega
   have iw3:=wr7 hn6;have iw4:=qje n;have iw5:=wr8 (m:=(n+7)/8) (Nat.le_trans nd (by decide));have ND:=Hz nd;clear nd;generalize hD:(n+7)/8=D8 at*;have HD8:=Hz hD;clear hD;go_wp2_with fail
   clear iw iw3 iw4 iw5;refine T1.out.mono ?_;rintro e w4 ⟨A3,n3,c3,rfl,rfl,o3,s4,g4⟩;have b4:=Far.below b3 g4 hg (Nat.le_refl _);have hbl2:bits.length<=8193:=by have:=ND.out;omega
   have CT:=Hz (zvy (c:=c3) (n:=(n:Int)) o3.reads HB8.out (by omega) (by omega) (by omega));have o3:=o3.base_le (b':=w.heap.size) (by have:=N1.out.size;have:=b3.size;omega);clear T1 b3 g4 c0 c1 c2;obtain⟨U,hU⟩:∃U,U=zbf bits 1 (n:Int):=⟨_,rfl⟩;have hUb: -1<=zp8 U/\zp8 U<=65536:=by rw[hU];exact z0a HB8.out
   rw[<-hU] at CT;have HU:=Hz hU;clear hU;obtain⟨T,hT⟩:∃T,T=zp8 U:=⟨_,rfl⟩;rw[<-hT] at CT hUb;have HT:=Hz hT;clear hT;obtain⟨hT1,hT0⟩:=hUb;go_wp2_with fail
   refine CT.out.mono ?_;rintro e w3 ⟨rfl,b43⟩;clear CT;have s3:=s4.below b43;have b3:=New.trans b4 b43;have o3:=o3.later b43;obtain⟨c0,c1,c2⟩:=zaf (G1.out.below b3 G1.out.lt);have HO2:=HO3;clear s4 b4 b43;go_wp2_with fail
   obtain⟨hy1,hy2⟩:=zpq S3;have hin:zew T:=⟨by omega,by omega⟩;refine zat (Turns [g]) [(true,0),(true,1),(true,2),(true,3),(true,4),(true,7),(false,5),(false,6),(false,8),(true,9),(true,10),(true,11),(true,12),(true,13)]
    (Turns.refl _) Turns.trans (by kernel_rfl) (by kernel_rfl) (by kernel_rfl) (by kernel_rfl) ?_
   have F:=Hz (fun(W:World) (hW:Turns [g] w3.drew W)=>(G1.out.below b3 G1.out.lt).drew.touch hW (by simp;omega));clear c0 c1 c2;have s3:=s3.below (New.drew _);have b5:=New.trans b3 (New.drew _);obtain⟨wa,hwa⟩:∃wa,wa=w3.drew:=⟨_,rfl⟩;rw[<-hwa] at F s3 b5⊢;have o3:=o3.later (New.drew _);rw[<-hwa] at o3;clear hwa b3;repeat(first
    |(refine za1 rfl rfl (v:=?_) (fun W hQ=>?_) ?_;rotate_left;(obtain⟨y0,y1,y2⟩:=zaf (F.out W hQ);go_simp<;> with_reducible rfl);simp only[Act.put,List.setIfInBounds_toArray,List.set_cons_zero,List.set_cons_succ]))
   have LF:=Hz (zud s3);unfold ze9 at LF;refine zbb rfl rfl (fun K0 hK0=>?_);go_simp
   (with_reducible refine LF.out.mono ?_)
   rintro e u ⟨rfl,rfl⟩;refine hK0 _ _ (Turns.refl _ _) ?_;clear hK0 LF;have T2:=zc8 (n:=((S3.getD []).length:Int)) s3 (by omega) (by omega);rw[hy1] at T2;obtain⟨S9,hS9⟩:∃S9,S9=(zbt ((S3.getD []).length:Int) S3).2:=⟨_,rfl⟩;rw[<-hS9] at T2 hy2;replace T2:=Hz T2;have HX8:Hid (∀z∈S3.getD [],z<256):=Hz (fun z hz=>by
    cases hq:S3 with
    |none=>rw[hq] at hz;cases hz
    |some r=>rw[hq] at hz;exact HO2.out r hq z hz)
   clear hS9 hy1;refine zbb rfl rfl (fun K0 hK0=>?_);go_simp
   (with_reducible refine T2.out.mono ?_)
   rintro e w5 ⟨A5,n5,c5,rfl,rfl,o5,s5,g5⟩;refine hK0 _ _ (Turns.of_far g5 (by simp)) ?_;clear hK0 T2;have b5:=Far.below b5 g5 hg (Nat.le_refl _);have V:=Hz (zpr (t:=t) (e:=(en:Int)) (c:=c5) (n:=T) o5.reads HX8.out (by omega) hin);clear o5 F;refine zbb rfl rfl (fun K0 hK0=>?_);go_simp
   (with_reducible refine V.out.mono ?_)
   intro e w6 hpost;obtain⟨v,k,rfl,b56,HC⟩:=hpost.u;refine hK0 _ _ (Turns.of_new b56) ?_;clear hK0 V hpost;repeat(first
    |(refine za1 rfl rfl (v:=?_) (fun W hQ=>?_) ?_;rotate_left;(go_simp<;> with_reducible rfl);simp only[Act.put,List.setIfInBounds_toArray,List.set_cons_zero,List.set_cons_succ]))
   refine zc3 ?_;have b6:=New.trans b5 b56;have BD:=Hz (zy5 (s5.below b56));rw[hy2] at BD;clear s5 hy2;obtain⟨c0,c1,c2⟩:=zaf (G1.out.below b6 G1.out.lt);have o3:=(o3.kept g5 (.inr (zal o3 s3.blk.choose_spec (by decide)))).later b56;have HMK:=Hz (fun ov (hv:fitsV t (en:Int)=true->IsVal t (en:Int) (S3.getD []) T ov)=>zzv (t:=t) (x:=S3.getD []) (ov:=ov) KK.out.1 KK.out.2.1 KK.out.2.2 (by rw[HD8.out];exact K4.out) rfl (by rw[<-HU.out,<-HT.out];exact hv));cases hS:S3 with
   |none=>
    have HN:Hid (IsPg t true b none):=Hz (by
     rcases HC with⟨_,q⟩|⟨_,_,l,_,_,_,_,q,_⟩
     ·have:=HMK.out none q
      rwa[zx5 (.inr (.inr rfl))] at this
     ·have:=HMK.out (some l) (fun _=>q)
      rwa[zx5 (.inl hS)] at this)
    have hsn:S3.isNone=true:=by rw[hS];rfl
    rw[hsn] at BD;clear hS HC hsn o3;go_wp2_with fail
    refine BD.out.mono ?_;rintro e w7 ⟨rfl,rfl⟩;go_wp2_with fail
    go_ret2
    exact⟨New.trans N1.out b6,.inr (.inl ⟨HK.out,HN.out,rfl⟩)⟩
   |some R=>
    have hsn:S3.isNone=false:=by rw[hS];rfl
    have HSN:=Hz (show S3≠none by rw[hS];simp);rw[hsn] at BD;clear hS hsn;rcases HC with⟨hk0,q⟩|⟨rfl,hfit,l,A7,m7,c7,rfl,q,o7⟩
    ·have HN:Hid (IsPg t true b none):=Hz (by
      have:=HMK.out none q;rwa[zx5 (.inr (.inr rfl))] at this)
     have i9:(k==0)=false:=beq_eq_false_iff_ne.2 hk0;clear q hk0 o3;go_wp2_with fail
     refine BD.out.mono ?_;rintro e w7 ⟨rfl,rfl⟩;go_wp2_with fail
     go_ret2
     exact⟨New.trans N1.out b6,.inr (.inl ⟨HK.out,HN.out,rfl⟩)⟩
    ·have HN:Hid (IsPg t true b (zow U l)):=Hz (by
      have:=HMK.out (some l) (fun _=>q);unfold qgr at this;rwa[if_neg (by rintro(p|p);exact HSN.out p;rw[hfit] at p;cases p),<-HU.out] at this)
     have hl7:=(Reads.of_own o7).lenCell;have hm7:m7<=65536:=by obtain⟨q1,q2,_⟩:=q.sound l rfl;have:=(plOk_iff.1 (zlw q2)).1.2.2;omega
     have J:=Hz (qcp (c:=c3) (c2:=c7) (n:=(n:Int)) o3.reads HB8.out (by omega) (by omega) (by omega) (Reads.of_own o7) (by omega));rw[<-HU.out] at J;clear q hfit o7 o3 hl7;have hz6:w.heap.size<=w6.heap.size:=by have:=N1.out.size;have:=b6.size;omega
     obtain⟨c0,c1,c2⟩:=zaf (G1.out.below b6 G1.out.lt);generalize zow U l=Y at*;go_wp2_with fail
     refine BD.out.mono ?_;rintro e w7 ⟨rfl,rfl⟩;go_wp2_with fail
     refine J.out.mono ?_;intro e w8 hpost;clear J;cases Y with
     |none=>
      obtain⟨rfl,b8⟩:=hpost;go_wp2_with fail
      go_ret2
      exact⟨New.trans N1.out (New.trans b6 b8),.inr (.inl ⟨HK.out,HN.out,rfl⟩)⟩
     |some x=>
      obtain⟨A8,c8,rfl,o8,b8⟩:=hpost;go_wp2_with fail
      go_ret2
      exact⟨New.trans N1.out (New.trans b6 b8),.inr (.inr ⟨HK.out,x,A8,_,c8,HN.out,rfl,zbd o8 hz6⟩)⟩
 ·rw[decide_eq_false hk] at KN
  have HK:=Hz hk;clear hk C h h8;go_enter Tryz.func97,Tryz.ntmps97
  go_wp2_with fail
  refine(KN.out _).mono ?_;rintro e W0 ⟨rfl,rfl⟩;clear KN;go_wp2_with fail
  go_ret2
  exact⟨N1.out,.inl ⟨HK.out,rfl⟩⟩
end Go.Proofs.Y
