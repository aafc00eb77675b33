import Derived.Test.YtbahbnbpmfgimaaGreatDoorBun23
import Derived.Test.YtbahbnbpmfgimaaGreatDoorBun24
import Derived.Test.YtbahbnbpmfgimaaGreatDoorBun39
set_option maxHeartbeats 8000000
set_option maxRecDepth 100000
namespace Go.Proofs.Y
open Go.RowKit Go.Hm
def encOf(t e:Int)(l:List zab):Int:=if e= -1 then bestV t (zed l) else e
def pgE(t:Int)(nu:Bool)(e:Int)(l:List zab):Int × List Nat:=
 if¬(0<=t/\t<=3)\/(e≠ -1/\fitsV t e=false) then(3,[])
 else if 65536<l.length then(4,[])
 else if(l.all fun c=>zam c t nu)=true then
  (match zf1 t (encOf t e l) (zed l) with
  |some d=>(0,(encOf t e l).toNat::(vp l.length++((if nu=true then zc6 l else [])++d)))
  |none=>(1,[]))
 else(1,[])
theorem zry{l:List zab}{t:Int}{nu:Bool}(h:∀c∈l,zam c t nu=true):∀c∈zed l,zam c t false=true:=fun c hc=>by
 unfold zed at hc;rw[qqv] at hc;have h1:=h c hc.1;have h2:c.1=false:=by simpa using hc.2
 unfold zam at h1⊢;rw[h2] at h1⊢;exact h1
theorem z8o{c:zab}{t:Int}(nu:Bool)(h:zam c t false=true):zam c t nu=true:=by have h0:=zla h;unfold zam at h⊢;rw[h0] at h⊢;exact h
theorem z8p{l:List zab}{t:Int}{nu:Bool}(ht:0<=t/\t<=3)(hl:l.length<=65536)(h:∀c∈l,zam c t nu=true):zk9 t (zed l)=true:=
 plOk_iff.2 ⟨⟨ht.1,ht.2,qlw (ztx l) hl⟩,zry h⟩
theorem z04{t:Int}{nu:Bool}{e:Int}{l:List zab}{b:List Nat}(h:pgE t nu e l=(0,b)):
 (0<=t/\t<=3)/\l.length<=65536/\(∀c∈l,zam c t nu=true)/\fitsV t (encOf t e l)=true/\ ∃d,zf1 t (encOf t e l) (zed l)=some d/\b=(encOf t e l).toNat::(vp l.length++((if nu=true then zc6 l else [])++d)):=by
 unfold pgE at h;split at h
 ·injection h with h _
  omega
 ·rename_i h1
  split at h
  ·injection h with h _
   omega
  ·rename_i h2
   split at h
   ·rename_i h3
    rw[qog] at h3;have ht:0<=t/\t<=3:=by
     by_cases q:0<=t/\t<=3
     ·exact q
     ·exact absurd (.inl q) h1
    split at h
    ·rename_i d hd
     injection h with _ h;refine⟨ht,by omega,h3,?_,d,hd,h.symm⟩;unfold encOf;split
     ·exact(zvz (z8p ht (by omega) h3)).1
     ·rename_i he
      cases hf:fitsV t e with
      |true=>rfl
      |false=>exact absurd (.inr ⟨he,hf⟩) h1
    ·injection h with h _
     omega
   ·injection h with h _
    omega
structure IsPg(t:Int)(nu:Bool)(b:List Nat)(o:Option (List zab)):Prop where
 sound:∀l,o=some l->(∃e,fitsV t e=true/\pgE t nu e l=(0,b))/\ ∀c∈l,zat c
 compl:∀l,(∀c∈l,zat c)->(∃e,fitsV t e=true/\pgE t nu e l=(0,b))->o=some l
theorem IsPg.uniq{t:Int}{nu:Bool}{b:List Nat}{o p:Option (List zab)}(h:IsPg t nu b o)(k:IsPg t nu b p):o=p:=by
 cases o with
 |some l=>obtain⟨a,c⟩:=h.sound l rfl;exact(k.compl l c a).symm
 |none=>
  cases p with
  |none=>rfl
  |some l=>obtain⟨a,c⟩:=k.sound l rfl;exact h.compl l c a
theorem zpt{l:List zab}(h:∀c∈l,zat c):∀c∈zed l,zat c:=fun c hc=>h c (by unfold zed at hc;exact(qqv.1 hc).1)
end Go.Proofs.Y
namespace Go.Hm
def headL_film:List Nat:=[72,89,80,79]
def tailL:List Nat:=[79,80,89,72]
def ownN(b:List Nat):Nat:=num ((b.drop (b.length-8)).take 4)
def zpu(b:List Nat):Option (List Nat):=
 if b.length<12\/b.take 4≠headL_film\/b.drop (b.length-4)≠tailL then none
 else if b.length-12<ownN b then none
 else some ((b.drop (b.length-8-ownN b)).take (ownN b))
theorem z05{b s:List Nat}(h:zpu b=some s):s.length=ownN b/\ownN b+12<=b.length:=by
 unfold zpu at h;split at h
 ·cases h
 ·rename_i h1
  split at h
  ·cases h
  ·injection h with h
   subst h;rw[ql2,ql0];omega
end Go.Hm
namespace Go.Proofs.Y
open Go.RowKit Go.Hm
theorem zwl:Tryz.prog.underlying 24=some (.slice (Tryz.prog.elem 24)):=by kernel_rfl
theorem zwm(w:World):(sizeOf (Tryz.prog.elem 24)).run Tryz.prog w= .ok 1 w:=by kernel_rfl
theorem z9a{l:List Nat}(hl:∀x∈l,x<256):((zai l).toList== [72,89,80,79])=decide (l=headL_film):=by rw[<-zi6 hl (m:=headL_film) (by decide)];rw[show(zai headL_film).toList=[72,89,80,79] by simp[zai,headL_film]]
theorem z9b{l:List Nat}(hl:∀x∈l,x<256):((zai l).toList== [79,80,89,72])=decide (l=tailL):=by rw[<-zi6 hl (m:=tailL) (by decide)];rw[show(zai tailL).toList=[79,80,89,72] by simp[zai,tailL]]
def zmw(b:List Nat)(w:World)(e:Ending)(w':World):Prop:=
 New w w'/\match zpu b with
 |none=>e= .returned (.tuple #[.slice none 0 0,.bool false])
 |some s=>∃A c,e= .returned (.tuple #[.slice A s.length c,.bool true])/\Reads w' w.heap.size 1 A s.length (zah .u8 s)/\s.length<=c/\c<=9223372036854775807
theorem zwn{w:World}{A:Option Addr}{c:Nat}{b:List Nat}(h:Reads w w.heap.size 1 A b.length (zah .u8 b))(h8:∀x∈b,x<256)(hb:b.length<=140737488351232)(hc:b.length<=c)(hc2:c<=9223372036854775807):
 Calls Tryz.prog 67 #[.slice A b.length c] w (zmw b w):=by
 have HR:=qrf h;by_cases h1:b.length<12
 ·have ho:zpu b=none:=by unfold zpu;rw[if_pos (.inl h1)]
  have i1:(b.length:Int)<12:=by omega
  go_enter Tryz.func67,Tryz.ntmps67
  go_wp2_with fail
  go_ret2
  unfold zmw;rw[ho];exact⟨qrz _,rfl⟩
 ·have i1:(12:Int)<=(b.length:Int):=by omega
  have S1:(Instr.sliceAt 24 (.slice A b.length c) none (some (.int .i64 4)) none).run Tryz.prog w= .ok (.slice A 4 c) w:=qdt zwl zwm A b.length c 4 (by omega) w;have C1:=znu (c:=c) (show Reads w w.heap.size 1 A 4 (zah .u8 (b.take 4)) by have:=h.take (k:=4) (by omega);rwa[show 4*1=4 from rfl,ze2] at this)
  have q1:=z9a (l:=b.take 4) (fun x hx=>h8 x (qmu hx));have hz1:=zbt (b.take 4);by_cases hH:b.take 4=headL_film
  ·rw[decide_eq_true hH] at q1
   have S2:(Instr.sliceAt 24 (.slice A b.length c) (some (.int .i64 ((b.length:Int)-4))) none none).run Tryz.prog w= .ok (.slice (if c=b.length-4 then A else A.map (·.add ((b.length-4)*1))) (b.length-(b.length-4)) (c-(b.length-4))) w:=by have:=qdu zwl zwm A b.length c (b.length-4) (by omega) w;rwa[show((b.length-4:Nat):Int)=(b.length:Int)-4 by omega] at this
   have C2:=znu (c:=c-(b.length-4)) (show Reads w w.heap.size 1 (if c=b.length-4 then A else A.map (·.add ((b.length-4)*1))) (b.length-(b.length-4)) (zah .u8 (b.drop (b.length-4))) by have:=h.cut (k:=b.length-4) (cap:=c) (by omega) hc;simpa only[qmd,zei] using this)
   have q2:=z9b (l:=b.drop (b.length-4)) (fun x hx=>h8 x (qoo hx));generalize hA2:(if c=b.length-4 then A else A.map (·.add ((b.length-4)*1)))=A2 at*;have HA2:=qrf hA2;generalize hD2:b.drop (b.length-4)=D2 at*;have HD2:=qrf hD2;generalize hN4:b.length-4=N4 at*;have HN4:=qrf hN4;have HH:=qrf hH;clear hA2 hD2 hN4 hH;by_cases hT:D2=tailL
   ·rw[decide_eq_true hT] at q2
    subst hT;have S3:(Instr.sliceAt 24 (.slice A b.length c) (some (.int .i64 ((b.length:Int)-4-4))) (some (.int .i64 ((b.length:Int)-4))) none).run Tryz.prog w= .ok (.slice (if c=b.length-8 then A else A.map (·.add ((b.length-8)*1))) 4 (c-(b.length-8))) w:=by have:=zhu zwl zwm A b.length c (b.length-8) (b.length-4) (by omega) (by omega) w;rwa[show((b.length-8:Nat):Int)=(b.length:Int)-4-4 by omega,show((b.length-4:Nat):Int)=(b.length:Int)-4 by omega,show b.length-4-(b.length-8)=4 by omega] at this
    have hd4:((b.drop (b.length-8)).take 4).length=4:=by rw[ql2,ql0];omega
    have R3:Reads w w.heap.size 1 (if c=b.length-8 then A else A.map (·.add ((b.length-8)*1))) 4 (zah .u8 ((b.drop (b.length-8)).take 4)):=by have:=(h.cut (k:=b.length-8) (cap:=c) (by omega) hc).take (k:=4) (by omega);simpa only[qmd,zei,ze2] using this
    have h48:∀x∈(b.drop (b.length-8)).take 4,x<256:=fun x hx=>h8 x (qoo (qmu hx))
    have R3':Reads w w.heap.size 1 (if c=b.length-8 then A else A.map (·.add ((b.length-8)*1))) ((b.drop (b.length-8)).take 4).length (zah .u8 ((b.drop (b.length-8)).take 4)):=by rw[hd4];exact R3
    have C:=qrf (zs7 (c:=c-(b.length-8)) R3' (by omega) h48);rw[hd4] at C;have hnl:=zrd _ h48;rw[hd4] at hnl;have hN:num ((b.drop (b.length-8)).take 4)=ownN b:=rfl;rw[hN] at hnl;have hnl2:ownN b<4294967296:=hnl;generalize hA3:(if c=b.length-8 then A else A.map (·.add ((b.length-8)*1)))=A3 at*;generalize hD4:(b.drop (b.length-8)).take 4=D4 at*;have HD4:=qrf hD4;have HN:=qrf hN;have HL4:=qrf hd4;have S4:Hid (∀W,ownN b<=b.length-12->(Instr.sliceAt 24 (.slice A b.length c) (some (.int .i64 ((b.length:Int)-4-4-(ownN b:Int)))) (some (.int .i64 ((b.length:Int)-4-4))) none).run Tryz.prog W= .ok (.slice (if c=b.length-8-ownN b then A else A.map (·.add ((b.length-8-ownN b)*1))) (ownN b) (c-(b.length-8-ownN b))) W):=qrf (fun W hW=>by have:=zhu zwl zwm A b.length c (b.length-8-ownN b) (b.length-8) (by omega) (by omega) W;rwa[show((b.length-8-ownN b:Nat):Int)=(b.length:Int)-4-4-(ownN b:Int) by omega,show((b.length-8:Nat):Int)=(b.length:Int)-4-4 by omega,show b.length-8-(b.length-8-ownN b)=ownN b by omega] at this)
    have R4:Hid (ownN b<=b.length-12->Reads w w.heap.size 1 (if c=b.length-8-ownN b then A else A.map (·.add ((b.length-8-ownN b)*1))) (ownN b) (zah .u8 ((b.drop (b.length-8-ownN b)).take (ownN b)))):=qrf (fun hW=>by have:=(h.cut (k:=b.length-8-ownN b) (cap:=c) (by omega) hc).take (k:=ownN b) (by omega);simpa only[qmd,zei,ze2] using this)
    have hown:zpu b=if b.length-12<ownN b then none else some ((b.drop (b.length-8-ownN b)).take (ownN b)):=by unfold zpu;rw[if_neg (by rintro(q|q|q);exact h1 q;exact q HH.out;exact q (by rw[HN4.out,HD2.out]))]
    have HOW:=qrf hown;clear hA3 hD4 hN hd4 hown R3 R3' h48 h8 h;generalize ownN b=N at*;have iw:IntKind.i64.wrap (N:Int)=(N:Int):=by rw[qrl];omega
    go_enter Tryz.func67,Tryz.ntmps67
    go_wp2_with fail
    refine C.out.mono ?_;rintro e w1 ⟨g,rfl,hg,C1,b1⟩;have U:=qb3 C1 (by rw[HL4.out];exact ql6 _);rw[qm0 (by rw[HL4.out];exact ql6 _),HN.out] at U;replace U:=qrf U;clear C C1;go_wp2_with fail
    refine U.out.mono ?_;rintro e w2 ⟨rfl,C2',g2⟩;have b2:=qr5 b1 g2 hg (ql6 _);clear U C2' g2 b1;by_cases hbig:b.length-12<N
    ·have ho:zpu b=none:=by rw[HOW.out,if_pos hbig]
     have i5:(b.length:Int)-4-4-4<(N:Int):=by omega
     clear hbig;go_wp2_with fail
     go_ret2
     unfold zmw;rw[ho];exact⟨b2,rfl⟩
    ·have ho:zpu b=some ((b.drop (b.length-8-N)).take N):=by rw[HOW.out,if_neg hbig]
     have i5:(N:Int)<=(b.length:Int)-4-4-4:=by omega
     have S5:=S4.out w2 (by omega);have R5:=qrf ((R4.out (by omega)).below b2);have hcN:N<=c-(b.length-8-N):=by omega
     have hlN:((b.drop (b.length-8-N)).take N).length=N:=by rw[ql2,ql0];omega
     have HO:=qrf ho;have HLN:=qrf hlN;clear hbig ho hlN;generalize(if c=b.length-8-N then A else A.map (·.add ((b.length-8-N)*1)))=A5 at*;generalize hk5:c-(b.length-8-N)=k5 at*;have HK5:=qrf hk5;clear hk5;go_wp2_with fail
     go_ret2
     unfold zmw;rw[HO.out];refine⟨b2,A5,k5,?_,?_,?_,?_⟩
     ·rw[HLN.out];rfl
     ·rw[HLN.out];exact R5.out
     ·rw[HLN.out];exact hcN
     ·rw[<-HK5.out];omega
   ·rw[decide_eq_false hT] at q2
    have ho:zpu b=none:=by unfold zpu;rw[if_pos (.inr (.inr (by rw[HN4.out,HD2.out];exact hT)))]
    clear hT;go_enter Tryz.func67,Tryz.ntmps67
    go_wp2_with fail
    go_ret2
    unfold zmw;rw[ho];exact⟨qrz _,rfl⟩
  ·rw[decide_eq_false hH] at q1
   have ho:zpu b=none:=by unfold zpu;rw[if_pos (.inr (.inl hH))]
   clear hH;go_enter Tryz.func67,Tryz.ntmps67
   go_wp2_with fail
   go_ret2
   unfold zmw;rw[ho];exact⟨qrz _,rfl⟩
def z38:Nat->Nat
 |0=>134
 |1=>155
 |2=>157
 |3=>159
 |_=>161
def qjg:Nat->Nat
 |0=>154
 |1=>156
 |2=>158
 |3=>160
 |_=>162
def qko(q:Nat):Value:= .agg #[.func (.func (z38 q)) #[] #[],.func (.func (qjg q)) #[] #[]]
theorem qie:Maps.Keyed Tryz.prog 3:=Maps.int_keyed (show Tryz.prog.underlying 3=some (.int .i64) by kernel_rfl)
theorem z39:Tryz.prog.underlying 206=some (.map 3 205):=by kernel_rfl
theorem zjs(k:Nat)(h:k<=4):∃kl,keyOf Tryz.prog 3 (.int .i64 (k:Int))=some kl:=
 ⟨_,Maps.keyOf_int_mk (show Tryz.prog.underlying 3=some (.int .i64) by kernel_rfl) (by simp[Lit.wf,IntKind.min,IntKind.max,IntKind.signed,IntKind.bits];omega)⟩
theorem z4a(W:World):(Instr.makeMap 206 none).run Tryz.prog W= .ok (.map (some W.heap.size)) (W.alloc (.map #[] 0)):=by simp[Instr.makeMap,Result.andThen]
def qhq(w:World)(e:Ending)(w':World):Prop:=
 ∃b f,e= .returned (.map (some b))/\MapF_mapf Tryz.prog 3 qko w' b 5 f/\(∀k:Nat,k<=4->f (k:Int)=some k)/\New w w'
theorem zy6{w:World}:Calls Tryz.prog 143 #[] w (qhq w):=by
 have hmm:=z4a;have b0:New w (w.alloc (.map #[] 0)):=(qq8 _ _).alloc (ql6 _) _;have M0:=MapF_mapf.made (P:=Tryz.prog) (k:=3) (F:=qko) w;go_enter Tryz.func143,Tryz.ntmps143
 go_wp2_with (first
  |(refine zgn rfl (.tmp 1) _ (.tmp 2) 206 rfl qie z39 M0 (by unfold maxLen;omega) (zjs 0 (by omega)) 0 rfl rfl rfl ?_
    intro w1 M1 g1)
  |(refine zgn rfl (.tmp 1) _ (.tmp 3) 206 rfl qie z39 M1 (by unfold maxLen;omega) (zjs 1 (by omega)) 1 rfl rfl rfl ?_
    intro w2 M2 g2)
  |(refine zgn rfl (.tmp 1) _ (.tmp 4) 206 rfl qie z39 M2 (by unfold maxLen;omega) (zjs 2 (by omega)) 2 rfl rfl rfl ?_
    intro w3 M3 g3)
  |(refine zgn rfl (.tmp 1) _ (.tmp 5) 206 rfl qie z39 M3 (by unfold maxLen;omega) (zjs 3 (by omega)) 3 rfl rfl rfl ?_
    intro w4 M4 g4)
  |(refine zgn rfl (.tmp 1) _ (.tmp 6) 206 rfl qie z39 M4 (by unfold maxLen;omega) (zjs 4 (by omega)) 4 rfl rfl rfl ?_
    intro w5 M5 g5))
 go_ret
 have gr:∀{wa wb:World},New w wa->wa.grownBy wb (some w.heap.size)->New w wb:=fun h g=>zbo h g (ql6 _) (ql6 _)
 exact⟨_,_,rfl,M5,fun k hk=>by rcases(by omega:k=0\/k=1\/k=2\/k=3\/k=4) with rfl|rfl|rfl|rfl|rfl<;> rfl,gr (gr (gr (gr (gr b0 g1) g2) g3) g4) g5⟩
def zt8(l:List zab):List (Int × Int):=l.map fun c=>(c.2.2.2.1,c.2.2.2.2)
theorem qec(l:List zab):(zt8 l).length=l.length:=by simp[zt8]
theorem qji(l:List zab):(zt8 l).map (·.1)=xsV l:=by unfold zt8 xsV;rw[qnr];rfl
theorem qjj(l:List zab):(zt8 l).map (·.2)=ysV l:=by unfold zt8 ysV;rw[qnr];rfl
theorem z1k{l:List Int}(h:l.length<=65536):∃b,zvb l=some b:=by unfold zvb;rw[if_neg (by omega)];split<;> exact⟨_,rfl⟩
theorem z9o{S:List (Int × Int)}{k:Nat}(h:k<S.length):((S.take (k+1)).map (·.1))=(S.take k).map (·.1)++[(S.getD k (0,0)).1]:=by rw[zae S k (0,0) h];simp
theorem z9p{S:List (Int × Int)}{k:Nat}(h:k<S.length):((S.take (k+1)).map (·.2))=(S.take k).map (·.2)++[(S.getD k (0,0)).2]:=by rw[zae S k (0,0) h];simp
theorem zns{w:World}{A:Option Addr}{n c:Nat}{L:List zab}(h:Reads w w.heap.size 5 A n (recs za4 L))(hr:∀y∈L,zam y 3 false=true)(hn:n<=65536):
 Calls Tryz.prog 178 #[.slice A n c] w (OptX (encPts L) w):=by
 obtain rfl:=h.lenCell;have HR:=qrf h;obtain⟨S,hS⟩:∃S,S=(zqs 0 (xsV L)).zip (zqs 0 (ysV L)):=⟨_,rfl⟩;have hS1:zgl (0,0) (zt8 L)=some S:=by
  rw[hS,zvy (zt8 L) (0,0) (fun p hp=>by obtain⟨c,hc,rfl⟩:=qly.1 hp;have:=zpb (hr c hc);exact inBox_iff.2 (by dsimp only;omega)),qji,qjj]
 have hxl:(zqs 0 (xsV L)).length=L.length:=by rw[ztu];simp[xsV]
 have hyl:(zqs 0 (ysV L)).length=L.length:=by rw[ztu];simp[ysV]
 have hSl:S.length=L.length:=by rw[hS,qqy];omega
 have hSx:S.map (·.1)=zqs 0 (xsV L):=by rw[hS];exact List.map_fst_zip (by omega)
 have hSy:S.map (·.2)=zqs 0 (ysV L):=by rw[hS];exact List.map_snd_zip (by omega)
 obtain⟨i1,i2⟩:=qjb hr;obtain⟨a,ha⟩:=z1k (l:=zqs 0 (xsV L)) (by omega);obtain⟨b,hb⟩:=z1k (l:=zqs 0 (ysV L)) (by omega);have hal:=zk6 i1 ha;have hbl:=zk6 i2 hb;have HE:Hid (encPts L=some (vp a.length++a++b)):=qrf (by unfold encPts;rw[ha,hb]);rw[<-hSx] at i1 ha;rw[<-hSy] at i2 hb;have HA:=qrf (qok i1 ha);have HB:=qrf (qok i2 hb);have PS:=fun(W:World) (A:Option Addr) (c:Nat) (hR:Reads W W.heap.size 2 A L.length (zdu (zt8 L)))=>show Calls Tryz.prog 194 #[.slice A L.length c] W (qfl (some S) W) from by have:=z4d (c:=c) hR (by omega);rw[hS1] at this;exact this
 have PS:=qrf PS;have HSL:=qrf hSl;clear h hr hS hS1 hxl hyl hSx hSy i1 i2 ha hb hSl;have hb0:New w w:=qrz w;have hz0:w.heap.size<=w.heap.size:=ql6 _;go_enter Tryz.func178,Tryz.ntmps178
 go_wp2_with (refine zy8 qkp rfl (.tmp 17) (.tmp 17) rfl (W:=w) (B:=w.heap.size) L.length rfl rfl rfl rfl hb0 hz0 (by omega) (by simp only[maxLen];omega) ?_
              intro w1 o1 g1 b1 hs1)
 rw[z4f] at o1;clear hb0 hz0 g1;go_loopw [21] (fun i wr=>∃k:Nat,k<=L.length/\i= .int .i64 (k:Int)/\wr.ownsRow w.heap.size 73 2 (.slice (some ⟨w.heap.size,0,none⟩) L.length L.length) L.length (zdu (zt8 (L.take k)++List.replicate (L.length-k) (0,0)))/\New w wr) (fun i _=>L.length-(intOf i).toNat)
 case atStart=>exact⟨0,ql7 _,rfl,by simpa[zt8] using o1,b1⟩
 case round=>
  clear o1 b1 hs1;obtain⟨k,hk,rfl,o,bw⟩:=hrel;by_cases hlt:k<L.length
  ·obtain⟨ad,rfl,_,d0,d1,d2,d3,d4⟩:=(qsg HR.out bw).cell5 hlt
   have hst:zt8 (L.take (k+1))=zt8 (L.take k)++zt8 [L.getD k (false,0,[],0,0)]:=by rw[zae L k (false,0,[],0,0) hlt];simp[zt8]
   have hll:(zt8 (L.take k)).length=k:=by rw[qec,ql2];omega
   have i1:(k:Int)<(L.length:Int):=by omega
   generalize L.getD k (false,0,[],0,0)=x at*;obtain⟨xb,xn,xs,xx,xy⟩:=x;have hst:zt8 (L.take (k+1))=zt8 (L.take k)++[(xx,xy)]:=hst;dsimp only at d0 d1 d2 d3 d4;have b2:New wr (wr.alloc (.cells #[.bool xb,.int .i64 xn,.string (zai xs),.int .i64 xx,.int .i64 xy] 75)):=(qq8 _ _).alloc (ql6 _) _;have B2:=qrv wr 75 #[.bool xb,.int .i64 xn,.string (zai xs),.int .i64 xx,.int .i64 xy];rw[show L.length-k=(L.length-(k+1))+1 by omega,qn7] at o;have o2:=qrf (za8 o b2);have b02:=qr0 bw b2;obtain⟨p0,p1,p2,p3,p4⟩:=zc4 B2;have ead:(⟨w.heap.size,0,none⟩:Addr).add (k*2)=⟨w.heap.size,k*2,none⟩:=by unfold Addr.add;split<;> simp_all
   have HST:=qrf hst;have HLL:=qrf hll;clear hst hll o bw b2 B2
   go_wp2_with (refine zwz rfl 73 (.tmp 30) (.tmp 29) rfl (new:=(xx,xy)) o2.out HLL.out hlt rfl rfl (by kernel_rfl) ?_
                intro w3 o3 g3)
   have b3:=qr5 b02 g3 (ql6 _) (ql6 _);have o3:w3.ownsRow w.heap.size 73 2 (.slice (some ⟨w.heap.size,0,none⟩) L.length L.length) L.length (zdu (zt8 (L.take (k+1))++List.replicate (L.length-(k+1)) (0,0))):=by rw[HST.out,qmi];exact o3
   go_roundw
   case rel=>exact⟨k+1,by omega,by go_num,o3,b3⟩
   case measure=>simp[intOf];omega
  ·obtain rfl:k=L.length:=by omega
   rw[qp1,qn6,qpq,qmg] at o;have HRO:=qrf (qrt o);clear o hlt;obtain⟨i1,hi1,hz1,hs1,hb1⟩:=info_parts elI.hi;have mk1:=fun W=>run_make (P:=Tryz.prog) W 57 3 i1 _ elI.ht hi1 hz1 .i64 .i64 (L.length:Int) (L.length:Int) (by omega) (by omega) (by rw[hb1];omega) (by omega)
   simp only[qmt,hs1] at mk1;generalize hC1:madeCells _ (L.length*1)=C1 at mk1;have HC1:=qrf hC1;clear hC1 hi1 hz1 hs1 hb1;have BA:=qrv wr 3 C1;have BB:=qrv (wr.alloc (.cells C1 3)) 3 C1;have BA2:=BA.alloc (.cells C1 3);have hba:New wr ((wr.alloc (.cells C1 3)).alloc (.cells C1 3)):=((qq8 _ _).alloc (ql6 _) _).alloc (by simp) _;simp only[qrq] at BB;go_upto_region 7 with fail
   go_cut [7,8] (fun s7 s8 wx=>∃gx gy:Nat,s7= .slice (some ⟨gx,0,none⟩) L.length L.length/\s8= .slice (some ⟨gy,0,none⟩) L.length L.length/\gx≠gy/\wr.heap.size<=gx/\wr.heap.size<=gy/\Blk wx gx 3 C1/\Blk wx gy 3 C1/\New wr wx)
   case first=>
    go_region
    all_goals
     go_wp2_with fail
     go_meet
     first
      |exact⟨wr.heap.size,wr.heap.size+1,rfl,rfl,by omega,by omega,by omega,BA2,BB,hba⟩
      |exact⟨wr.heap.size+1,wr.heap.size,rfl,rfl,by omega,by omega,by omega,BB,BA2,hba⟩
      |exact⟨wr.heap.size,wr.heap.size+1,rfl,rfl,by omega,by omega,by omega,BA2,BB,qr0 hba (qr1 _)⟩
      |exact⟨wr.heap.size+1,wr.heap.size,rfl,rfl,by omega,by omega,by omega,BB,BA2,qr0 hba (qr1 _)⟩
   case rest=>
    obtain⟨gx,gy,rfl,rfl,hxy,hgx,hgy,BX,BY,bx⟩:=hcut;have hz:=bw.size;have own0:∀g,wr.heap.size<=g->Blk wc g 3 C1->Go.Hm.Own wc w.heap.size 3 (.slice (some ⟨g,0,none⟩) L.length L.length) (zap .i64 (List.replicate L.length 0)):=by
     intro g hg hB;have e1:(zap .i64 (List.replicate L.length 0)).length=L.length:=by rw[zhw,qom]
     unfold Go.Hm.Own;rw[e1];refine⟨by rw[e1,qmd],.inr ⟨g,L.length,C1,rfl,by omega,hB,ql6 _,by simp only[maxLen];omega,by rw[<-HC1.out];simp[size_madeCells],?_⟩⟩;rw[<-HC1.out,qm0 (by simp[size_madeCells]),zeo];have:=toList_madeCells_one (.int .i64 0) (L.length*1);rw[qmd] at this⊢;exact this
    have ox:=own0 gx hgx BX;have oy:=own0 gy hgy BY;have bc:=qr0 bw bx;have RC:=qsg HRO.out bx;have lx:=BX.lt;have ly:=BY.lt;have hgx:w.heap.size<=gx:=by omega
    have hgy:w.heap.size<=gy:=by omega
    have PC:=qrf (PS.out wc _ L.length RC);clear own0 BX BY bw bx RC BA BB BA2 hba HC1 mk1 HRO PS hz;go_wp2_with fail
    refine PC.out.mono ?_;rintro e w4 ⟨A4,n4,c4,rfl,o4,b4⟩;obtain rfl:n4=S.length:=(qrt o4).lenP;have hSl:=HSL.out;have o4:w4.ownsRow wc.heap.size 73 2 (.slice A4 S.length c4) S.length (zdu S):=o4;have ox:=ox.later b4;have oy:=oy.later b4;have b04:=qr0 bc b4;generalize wc.heap.size=n1 at*;clear PC bc b4;go_wp2_with fail
    go_loopw [41] (fun i wr=>∃k:Nat,k<=S.length/\i= .int .i64 (k:Int)/\Go.Hm.Own wr w.heap.size 3 (.slice (some ⟨gx,0,none⟩) L.length L.length) (zap .i64 ((S.take k).map (·.1)++List.replicate (L.length-k) 0))/\Go.Hm.Own wr w.heap.size 3 (.slice (some ⟨gy,0,none⟩) L.length L.length) (zap .i64 ((S.take k).map (·.2)++List.replicate (L.length-k) 0))/\wr.ownsRow n1 73 2 (.slice A4 S.length c4) S.length (zdu S)/\New w wr) (fun i _=>S.length-(intOf i).toNat)
    case atStart=>exact⟨0,ql7 _,rfl,by simpa using ox,by simpa using oy,o4,b04⟩
    case round=>
     clear ox oy o4 b04;obtain⟨k,hk,rfl,ox,oy,o4,bw⟩:=hrel;by_cases hlt:k<S.length
     ·obtain⟨ad,rfl,_,d0,d1⟩:=(qrt o4).pair hlt
      have ms1:=z9o hlt;have ms2:=z9p hlt;have hlx:((S.take k).map (·.1)).length=k:=by rw[qos,ql2];omega
      have hly:((S.take k).map (·.2)).length=k:=by rw[qos,ql2];omega
      have d2:wr.cell? ⟨(ad.add (k*2)).block,(ad.add (k*2)).off+1,none⟩=some (.int .i64 (S.getD k (0,0)).2):=by rw[<-zba] at d1;exact d1
      have i1:(k:Int)<(S.length:Int):=by omega
      have i2:(k:Int)<(L.length:Int):=by omega
      have hkL:k<L.length:=by omega
      generalize S.getD k (0,0)=sp at*;obtain⟨sx,sy⟩:=sp;dsimp only at d0 d1 d2 ms1 ms2;have b2:New wr (wr.alloc (.cells #[.int .i64 sx,.int .i64 sy] 73)):=(qq8 _ _).alloc (ql6 _) _;have B2:=qrv wr 73 #[.int .i64 sx,.int .i64 sy];obtain⟨p0,p1⟩:=zb6 B2;have lx2:=(ox.lt gx rfl).2;have ly2:=(oy.lt gy rfl).2;obtain⟨-,-,hcx,hfx,hsx⟩:=ox.int0 hkL;obtain⟨-,-,hcy,hfy,hsy⟩:=oy.int0 hkL;have xA:=hsx sx;have yA:=hsy sy;have nxy:Value.ownBlock (.slice (some ⟨gx,0,none⟩) L.length L.length)=none\/Value.ownBlock (.slice (some ⟨gx,0,none⟩) L.length L.length)≠some gy:= .inr (by simpa[Value.ownBlock] using hxy);have nyx:Value.ownBlock (.slice (some ⟨gy,0,none⟩) L.length L.length)=none\/Value.ownBlock (.slice (some ⟨gy,0,none⟩) L.length L.length)≠some gx:= .inr (by simpa[Value.ownBlock] using fun e=>hxy e.symm);have yx:=oy.kept (za1 (g:=gx) (i:=k) (x:= .int .i64 sx)) nyx;have xy:=ox.kept (za1 (g:=gy) (i:=k) (x:= .int .i64 sy)) nxy;have yB:=(yx.int0 hkL).2.2.2.2 sy;have xB:=(xy.int0 hkL).2.2.2.2 sx;have xC:=xA.kept (za1 (g:=gy) (i:=k) (x:= .int .i64 sy)) nxy;have yC:=yA.kept (za1 (g:=gx) (i:=k) (x:= .int .i64 sx)) nyx;rw[zlz _ hlx hkL,<-ms1] at xB xC;rw[zlz _ hly hkL,<-ms2] at yB yC;have o4x:=qlm o4 (za1 (g:=gx) (i:=k) (x:= .int .i64 sx)) (.inr (fun e=>by have:=(qln o4 _ e).1;omega));have o4y:=qlm o4 (za1 (g:=gy) (i:=k) (x:= .int .i64 sy)) (.inr (fun e=>by have:=(qln o4 _ e).1;omega));have o4A:=qlm o4x (za1 (g:=gy) (i:=k) (x:= .int .i64 sy)) (.inr (fun e=>by have:=(qln o4x _ e).1;omega));have o4B:=qlm o4y (za1 (g:=gx) (i:=k) (x:= .int .i64 sx)) (.inr (fun e=>by have:=(qln o4y _ e).1;omega));have bA:=(bw.setCell (p:=⟨gx,k,none⟩) hgx (.int .i64 sx)).setCell (p:=⟨gy,k,none⟩) hgy (.int .i64 sy);have bB:=(bw.setCell (p:=⟨gy,k,none⟩) hgy (.int .i64 sy)).setCell (p:=⟨gx,k,none⟩) hgx (.int .i64 sx);have al:∀W:World,New W ((W.alloc (.cells #[.int .i64 sx,.int .i64 sy] 73)).drew):=fun W=>qr0 ((qq8 _ _).alloc (ql6 _) _) (qr1 _)
      have HA1:=qrf (qok (xC.later (al _)) (qok (yB.later (al _)) (qok (za8 o4A (al _)) (qr0 bA (al _)))));have HB1:=qrf (qok (xB.later (al _)) (qok (yC.later (al _)) (qok (za8 o4B (al _)) (qr0 bB (al _)))));have hcx':∃q,wr.cell? ⟨gx,k,none⟩=some (.int .i64 q):=⟨_,hcx⟩;have hcy':∃q,wr.cell? ⟨gy,k,none⟩=some (.int .i64 q):=⟨_,hcy⟩;clear hcx hcy;obtain⟨q1,hcx⟩:=hcx';obtain⟨q2,hcy⟩:=hcy';have hyx:gy≠gx:=fun e=>hxy e.symm
      clear al xC yB o4A bA xB yC o4B bB o4x o4y xA yA xy yx nxy nyx hsx hsy ox oy o4 bw b2 B2 ms1 ms2 hlx hly d1;go_wp2_with fail
      go_region
      all_goals
       go_wp2_with fail
       go_roundw
       case rel=>
        first
         |exact⟨k+1,by omega,by go_num,HA1.out⟩
         |exact⟨k+1,by omega,by go_num,HB1.out⟩
       case measure=>simp[intOf];omega
     ·obtain rfl:k=S.length:=by omega
      rw[qp1,hSl,qn6,qpq,qmg] at ox;rw[qp1,hSl,qn6,qpq,qmg] at oy;have EX:=qrf (zi5 (c:=L.length) ox.reads HA.out.1 (by omega));have hzw:=bw.size;clear o4 hlt;go_wp2_with fail
      refine EX.out.mono ?_;intro e w5 h5;rw[HA.out.2] at h5;obtain⟨A5,n5,c5,rfl,o5,b5⟩:=h5;obtain rfl:n5=a.length:=by have:=o5.len;rwa[zaa] at this
      have EY:=qrf (zi5 (c:=L.length) (oy.later b5).reads HB.out.1 (by omega));have b05:=qr0 bw b5;have hz5:=b05.size;clear EX ox oy b5 bw;go_wp2_with fail
      refine EY.out.mono ?_;intro e w6 h6;rw[HB.out.2] at h6;obtain⟨A6,n6,c6,rfl,o6,b6⟩:=h6;obtain rfl:n6=b.length:=by have:=o6.len;rwa[zaa] at this
      have o5:=o5.later b6;have b06:=qr0 b05 b6;have hz6:=b06.size;have hw1:IntKind.u64.wrap (a.length:Int)=(a.length:Int):=by rw[qrj];omega
      have PT:=qrf (fun W:World=>zc9 none 0 0 [] a.length W qrs (by omega) (by omega));have hvl:=zas (n:=a.length) (by omega);clear EY b6 b05;generalize hV:vp a.length=V at*;clear hV;go_wp2_with fail
      refine(PT.out _).mono ?_;rintro e w7 ⟨A7,n7,c7,rfl,o7,b7⟩;rw[qmx] at o7;obtain rfl:n7=V.length:=by have:=o7.len;rwa[zaa] at this
      have h57:=zgj (zh6 o7 (o5.base_le (ql7 _)));have h67:=zgj (zh6 o7 (o6.base_le (ql7 _)));have o5:=o5.later b7;have o6:=o6.later b7;have b07:=qr0 b06 b7;have hz7:=b07.size;have o7:=o7.base_le (b':=w.heap.size) hz6;clear PT b7 b06;go_wp2_with (first
       |(refine zal elB rfl (.tmp 71) (.tmp 72) rfl (W:=w) (B:=w.heap.size) o7 o5.reads rfl rfl b07 (ql6 _) hz7 (by omega) (by simp only[maxLen];omega) ?_
         intro A8 c8 w8 _ _ o8 g8 b8 d8;have p6:=o6.kept g8 h67;have hz8:=b8.size)
       |(refine zal elB rfl (.tmp 74) (.tmp 75) rfl (W:=w) (B:=w.heap.size) o8 p6.reads rfl rfl b8 (ql6 _) hz8 (by omega) (by simp only[maxLen];omega) ?_
         intro A9 c9 w9 _ _ o9 _ b9 _))
      go_ret2
      rw[HE.out];exact⟨_,_,_,rfl,o9,b9⟩
theorem OptX.u{o:Option (List Nat)}{w w':World}{e:Ending}(h:OptX o w e w'):∃v,e= .returned (.tuple #[v,.bool o.isSome])/\New w w'/\ ∀b,o=some b-> ∃A n c,v= .slice A n c/\Go.Hm.Own w' w.heap.size 5 (.slice A n c) (zah .u8 b):=by
 cases o with
 |none=>obtain⟨⟨v,rfl⟩,h2⟩:=h;exact⟨v,rfl,h2,fun b hb=>by cases hb⟩
 |some l=>obtain⟨A,n,c,rfl,h2,h3⟩:=h;exact⟨_,rfl,h3,fun b hb=>by injection hb with hb;subst hb;exact⟨_,_,_,rfl,h2⟩⟩
theorem OptX.of{o:Option (List Nat)}{w w':World}{v:Value}(h1:New w w')(h2:∀b,o=some b-> ∃A n c,v= .slice A n c/\Go.Hm.Own w' w.heap.size 5 (.slice A n c) (zah .u8 b)):OptX o w (.returned (.tuple #[v,.bool o.isSome])) w':=by
 cases o with
 |none=>exact⟨⟨v,rfl⟩,h1⟩
 |some l=>obtain⟨A,n,c,rfl,h3⟩:=h2 l rfl;exact⟨A,n,c,rfl,h3,h1⟩
theorem znt{w:World}{A:Option Addr}{n c:Nat}{L:List zab}(h:Reads w w.heap.size 5 A n (recs za4 L))(hL:∀y∈L,zat y)(hn:n<=65536):
 Calls Tryz.prog 159 #[.int .i64 3,.slice A n c] w (OptX (zf1 3 3 L) w):=by
 obtain rfl:=h.lenCell;have RI:=qrf (zjr (t:=3) (c:=c) h hL (by omega));have PE:Hid (∀W,New w W->zk9 3 L=true->Calls Tryz.prog 178 #[.slice A L.length c] W (OptX (encPts L) W)):=
  qrf (fun W hW hp=>zns (qsg h hW) (plOk_iff.1 hp).2 hn)
 have hv:zf1 3 3 L=if zk9 3 L=true then encPts L else none:=by unfold zf1;simp
 obtain⟨X,hX⟩:∃X,X=zf1 3 3 L:=⟨_,rfl⟩;rw[<-hX];have HX:=qrf (hX.trans hv);clear hv hX h hL;generalize zk9 3 L=O at*;go_enter Tryz.func159,Tryz.ntmps159
 go_wp2_with fail
 refine RI.out.mono ?_;rintro e W0 ⟨rfl,b0⟩;clear RI;cases O with
 |false=>
  have hx:X=none:=by rw[HX.out];rfl
  subst hx;go_wp2
  go_ret2
  exact⟨⟨_,rfl⟩,b0⟩
 |true=>
  have hx:=HX.out;rw[if_pos rfl] at hx;subst hx;have P2:=qrf (PE.out W0 b0 rfl);clear HX PE;generalize encPts L=Y at*;go_wp2_with fail
  refine P2.out.mono ?_;rintro e W1 hpost;obtain⟨v,rfl,b1,ho⟩:=hpost.u;have HO:=qrf ho;clear ho hpost P2;generalize hs:Y.isSome=S at*;have HS:=qrf hs;clear hs;go_wp2_with fail
  go_ret2
  rw[<-HS.out];exact OptX.of (qr0 b0 b1) (fun b hb=>by obtain⟨A1,n1,c1,e1,o1⟩:=HO.out b hb;exact⟨A1,n1,c1,e1,o1.base_le b0.size⟩)
theorem qed{w:World}{q:Nat}{t:Int}{A:Option Addr}{n c:Nat}{L:List zab}(hf:fitsV t (q:Int)=true)(h:Reads w w.heap.size 5 A n (recs za4 L))(hL:∀y∈L,CellFine y)(hn:n<=65536):
 Calls Tryz.prog (z38 q) #[.int .i64 t,.slice A n c] w (OptX (zf1 t (q:Int) L) w):=by
 have hq:=(ztt hf).1;have hD:∀y∈L,zat y:=fun y hy=>zlh (hL y hy)
 rcases(by omega:q=0\/q=1\/q=2\/q=3\/q=4) with rfl|rfl|rfl|rfl|rfl
 ·have e:zf1 t ((0:Nat):Int) L=plO t L:=by unfold zf1;simp
  rw[e];exact(zld h hD (by omega)).mono fun _ _ p=>OptB.x p
 ·have e:zf1 t ((1:Nat):Int) L=zmi t L:=by unfold zf1;simp
  rw[e];exact(zyf h hL hn).mono fun _ _ p=>OptB.x p
 ·exact zq8 h hD (by omega)
 ·have ht:t=0\/t=3:=by
   unfold fitsV at hf;rw[decide_eq_true_eq] at hf;omega
  rcases ht with rfl|rfl
  ·exact zq9 h hD (by omega)
  ·exact znt h hD hn
 ·exact zqf h hD (by omega)
def zy9(t e:Int)(L:List zab):Int × List Nat:=if fitsV t e=true then(match zf1 t e L with|some b=>(0,b)|none=>(1,[])) else(3,[])
def zjt(x:Int × List Nat)(w:World)(en:Ending)(w':World):Prop:=
 ∃A n c,en= .returned (.tuple #[.slice A n c,.int .i64 x.1])/\Go.Hm.Own w' w.heap.size 5 (.slice A n c) (zah .u8 x.2)/\New w w'
noncomputable def qlh:Value:=match(Tryz.prog.info? 205).bind (·.zero) with|some v=>v|none=>undef
theorem qhr(w:World):(zeroValue 205).run Tryz.prog w= .ok qlh w:=by kernel_rfl
theorem z4g(i j:Nat)(w:World):(Instr.field 205 (.agg #[.func (.func i) #[] #[],.func (.func j) #[] #[]]) 0).run Tryz.prog w= .ok (.func (.func i) #[] #[]) w:=by kernel_rfl
theorem zkh{w:World}{t e:Int}{A:Option Addr}{n c:Nat}{L:List zab}(h:Reads w w.heap.size 5 A n (recs za4 L))(hL:∀y∈L,CellFine y)(hn:n<=65536):
 Calls Tryz.prog 128 #[.int .i64 t,.int .i64 e,.slice A n c] w (zjt (zy9 t e L) w):=by
 have F:=qrf (zlk t e w);by_cases hf:fitsV t e=true
 ·have hq:=(ztt hf).1
  obtain⟨q,rfl⟩:=qn1 hq.1;have hq4:q<=4:=by omega
  have C:=qrf (@zy6 w);have V:=qrf (fun(W:World) (hW:New w W)=>qed (c:=c) hf (qsg h hW) hL hn);have hk:∀args w,(callFunc (z38 q) args).run Tryz.prog w= .ok (.enter (z38 q) args) w:=by intro args w;rcases(by omega:q=0\/q=1\/q=2\/q=3\/q=4) with rfl|rfl|rfl|rfl|rfl<;> simp only[z38]<;> go_simp
  have HV:Hid (zy9 t (q:Int) L=match zf1 t (q:Int) L with|some b=>(0,b)|none=>(1,[])):=qrf (by unfold zy9;rw[if_pos hf]);rw[hf] at F;generalize zf1 t (q:Int) L=Y at*;generalize zy9 t (q:Int) L=X at*;clear hf h hL hq;go_enter Tryz.func128,Tryz.ntmps128
  go_wp2_with fail
  refine F.out.mono ?_;rintro e W0 ⟨rfl,rfl⟩;clear F;go_wp2_with fail
  refine C.out.mono ?_;rintro e W1 ⟨bl,f,rfl,M,hff,b1⟩;have V1:=qrf (V.out W1 b1);have hfq:=hff q hq4;clear C V hff;have hz:=qhr W1;have hfd:=z4g (z38 q) (qjg q) W1;go_wp2_with (refine zmy rfl (.tmp 15) (.tmp 16) 206 rfl qie z39 hz M hfq (zjs q hq4) rfl rfl ?_;unfold qko)
  refine V1.out.mono ?_;rintro e W2 hpost;obtain⟨v,rfl,b2,ho⟩:=hpost.u;have HO:=qrf ho;clear ho hpost V1 M hz hfq;cases Y with
  |none=>
   have hx:X=(1,[]):=HV.out;subst hx;go_wp2_with fail
   go_ret2
   exact⟨none,0,0,rfl,qru,qr0 b1 b2⟩
  |some b=>
   have hx:X=(0,b):=HV.out;subst hx;obtain⟨A1,n1,c1,rfl,o1⟩:=HO.out b rfl;go_wp2_with fail
   go_ret2
   exact⟨A1,n1,c1,rfl,o1.base_le b1.size,qr0 b1 b2⟩
 ·have hf0:fitsV t e=false:=by simpa using hf
  have hx:zy9 t e L=(3,[]):=by unfold zy9;rw[if_neg hf]
  rw[hx];rw[hf0] at F;clear hf hf0 h hL;go_enter Tryz.func128,Tryz.ntmps128
  go_wp2_with fail
  refine F.out.mono ?_;rintro e W0 ⟨rfl,rfl⟩;clear F;go_wp2_with fail
  go_ret2
  exact⟨none,0,0,rfl,qru,qrz _⟩
def OptCX(o:Option (List zab))(w:World)(e:Ending)(w':World):Prop:=
 match o with
 |none=>(∃v,e= .returned (.tuple #[v,.bool false]))/\New w w'
 |some l=>∃A n c,e= .returned (.tuple #[.slice A n c,.bool true])/\w'.ownsRow w.heap.size 75 5 (.slice A n c) n (recs za4 l)/\New w w'
theorem OptC.x{o:Option (List zab)}{w w':World}{e:Ending}(h:OptC o w e w'):OptCX o w e w':=by
 cases o with
 |none=>exact⟨⟨_,h.1⟩,h.2⟩
 |some l=>exact h
end Go.Proofs.Y
namespace Go.Hm
open Go Go.RowKit
end Go.Hm
namespace Go.Proofs.Y
open Go.RowKit Go.Hm
theorem OptI.u{o:Option (List Int)}{w w':World}{e:Ending}(h:OptI o w e w'):
 ∃A n c,e= .returned (.tuple #[.slice A n c,.bool o.isSome])/\Go.Hm.Own w' w.heap.size 3 (.slice A n c) (zap .i64 (o.getD []))/\New w w':=by
 cases o with
 |none=>exact⟨none,0,0,h.1,qru,h.2⟩
 |some l=>exact h
theorem z9r(t:Int)(l:List zab)(k:Nat):zec t l (k+1)=if(zy9 t (k:Int) l).1=0/\((zec t l k).1<0\/(zy9 t (k:Int) l).2.length<(zec t l k).2) then((k:Int),(zy9 t (k:Int) l).2.length) else zec t l k:=by
 rw[zec];unfold zy9;cases hf:fitsV t (k:Int) with
 |false=>simp
 |true=>
  cases hv:zf1 t (k:Int) l with
  |none=>simp
  |some b=>simp
theorem z9s{w:World}{t:Int}{A:Option Addr}{n c:Nat}{L:List zab}(h:Reads w w.heap.size 5 A n (recs za4 L))(hL:∀y∈L,CellFine y)(hn:n<=65536):
 Calls Tryz.prog 127 #[.int .i64 t,.slice A n c] w (zak (.int .i64 (bestV t L)) w):=by
 have V:=qrf (fun(W:World) (hW:New w W) (e:Int)=>zkh (t:=t) (e:=e) (c:=c) (qsg h hW) hL hn);have HK:=qrf (ztw t L);have ST:=qrf (z9r t L);have HE:Hid (bestV t L=(zec t L 5).1):=qrf rfl;have H0:Hid (zec t L 0=(-1,0)):=qrf rfl;generalize bestV t L=Z at*;generalize hB:zec t L=B at*;generalize hG:(fun k:Nat=>zy9 t (k:Int) L)=G at*;have V2:Hid (∀(W:World) (k:Nat),New w W->Calls Tryz.prog 128 #[.int .i64 t,.int .i64 (k:Int),.slice A n c] W (zjt (G k) W)):=qrf (by subst hG;exact fun W k hW=>V.out W hW (k:Int));have ST2:Hid (∀k,B (k+1)=if(G k).1=0/\((B k).1<0\/(G k).2.length<(B k).2) then((k:Int),(G k).2.length) else B k):=qrf (by subst hG;exact ST.out);clear V h hL hB hG ST;go_enter Tryz.func127,Tryz.ntmps127
 go_wp2_with fail
 go_loopw [5,6,7] (fun p f i wr=>∃k:Nat,k<=5/\i= .int .i64 (k:Int)/\p= .int .i64 (B k).1/\f= .int .i64 ((B k).2:Int)/\New w wr) (fun _ _ i _=>5-(intOf i).toNat)
 case atStart=>exact⟨0,by omega,rfl,by rw[H0.out],by rw[H0.out];rfl,qrz _⟩
 case round=>
  obtain⟨k,hk,rfl,rfl,rfl,b⟩:=hrel;by_cases hlt:k<5
  ·have V3:=qrf (V2.out _ k b)
   have hst:=ST2.out k;obtain⟨⟨p,f⟩,hpf⟩:∃x,B k=x:=⟨_,rfl⟩;obtain⟨⟨er,bs⟩,hgk⟩:∃x,G k=x:=⟨_,rfl⟩;rw[hpf,hgk] at hst;rw[hpf];rw[hgk] at V3;have HST:=qrf hst;have i1:(k:Int)<=4:=by omega
   clear hst hpf hgk;go_wp2_with fail
   refine V3.out.mono ?_;rintro e W1 ⟨A1,n1,c1,rfl,o1,b1⟩;obtain rfl:n1=bs.length:=by simpa[zah] using o1.len
   clear V3;by_cases h1:er=0
   ·subst h1
    by_cases h2:p<0
    ·go_wp2_with fail
     go_roundw
     case rel=>exact⟨k+1,by omega,by go_num,by rw[HST.out,if_pos ⟨by trivial,.inl h2⟩],by rw[HST.out,if_pos ⟨by trivial,.inl h2⟩],qr0 b b1⟩
     case measure=>simp[intOf];omega
    ·by_cases h3:bs.length<f
     ·have i3:(bs.length:Int)<(f:Int):=by omega
      go_wp2_with fail
      go_roundw
      case rel=>exact⟨k+1,by omega,by go_num,by rw[HST.out,if_pos ⟨by trivial,.inr h3⟩],by rw[HST.out,if_pos ⟨by trivial,.inr h3⟩],qr0 b b1⟩
      case measure=>simp[intOf];omega
     ·have i3:decide ((bs.length:Int)<(f:Int))=false:=decide_eq_false (by omega)
      have h4: ¬(p<0\/bs.length<f):=by rintro(q|q);exact h2 q;exact h3 q
      have H4:=qrf h4;clear h4;go_wp2_with fail
      go_roundw
      case rel=>exact⟨k+1,by omega,by go_num,by rw[HST.out,if_neg (fun q=>H4.out q.2)],by rw[HST.out,if_neg (fun q=>H4.out q.2)],qr0 b b1⟩
      case measure=>simp[intOf];omega
   ·have H1:=qrf h1
    have i2:(er==0)=false:=by simpa using h1
    go_wp2_with fail
    go_roundw
    case rel=>exact⟨k+1,by omega,by go_num,by rw[HST.out,if_neg (fun q=>H1.out q.1)],by rw[HST.out,if_neg (fun q=>H1.out q.1)],qr0 b b1⟩
    case measure=>simp[intOf];omega
  ·have hk5:k=5:=by omega
   subst hk5;go_wp2_with fail
   go_ret
   exact⟨by rw[HE.out];rfl,b⟩
theorem qee{l:List zab}(h:∀c∈l,zat c):∀x∈zi0 l,zjg x:=fun x hx=>by obtain⟨c,hc,rfl⟩:=qly.1 hx;exact(h c hc).2
theorem z1l{t:Int}{l:List zab}(h:zk9 t l=true)(ht:t=3):(∀x∈zqs 0 (xsV l),zjg x)/\ ∀x∈zqs 0 (ysV l),zjg x:=by
 subst ht;have hr:=(plOk_iff.1 h).2;have hb:∀c∈l,(-1048576<=c.2.2.2.1/\c.2.2.2.1<=1048576)/\ -1048576<=c.2.2.2.2/\c.2.2.2.2<=1048576:=fun c hc=>by have:=zpb (hr c hc);omega
 refine⟨fun x hx=>?_,fun x hx=>?_⟩
 ·have:=ztv (a:=0) (by omega) (fun z hz=>by obtain⟨c,hc,rfl⟩:=qly.1 hz;exact(hb c hc).1) x hx
  unfold zjg;omega
 ·have:=ztv (a:=0) (by omega) (fun z hz=>by obtain⟨c,hc,rfl⟩:=qly.1 hz;exact(hb c hc).2) x hx
  unfold zjg;omega
theorem z1m{t e:Int}{l:List zab}{b:List Nat}(hd:∀c∈l,zat c)(h:zf1 t e l=some b):b.length<=100000000000:=by
 have hok:=z8m h;have hl:=(plOk_iff.1 hok).1.2.2;unfold zf1 at h;split at h
 ·have:=zye hok
  rw[<-(plO_iff.1 h).2];omega
 ·split at h
  ·have:=z7w h
   omega
  ·try rw[if_pos hok] at h
   split at h
   ·injection h with h
    have:=ztm (zps hd) (by unfold zh9;rw[qos];exact hl);rw[show(zh9 l).length=l.length by unfold zh9;rw[qos]] at this;rw[<-h];omega
   ·split at h
    ·split at h
     ·rename_i ht
      obtain⟨d1,d2⟩:=z1l hok ht;unfold encPts at h;split at h
      ·rename_i x y hx hy
       have a1:=zk6 d1 hx;have a2:=zk6 d2 hy;have a3:=zas (n:=x.length) (by omega);injection h with h;rw[<-h,qmv,qmv];omega
      ·cases h
     ·have:=zk6 (qee hd) h
      omega
    ·unfold qe8 at h
     split at h
     ·rename_i hf
      obtain⟨f1,f2,f3⟩:=(zjl _).1 hf;have:=z0s [] (zii l) f2;injection h with h;rw[<-h];omega
     ·cases h
theorem qhs{t e:Int}{l:List zab}{b:List Nat}(hd:∀c∈l,zat c)(h:zf1 t e l=some b):∀x∈b,x<256:=by
 have hok:=z8m h;unfold zf1 at h;split at h
 ·rw[<-(plO_iff.1 h).2]
  exact z8h (fun c hc=>(hd c hc).1.2)
 ·split at h
  ·exact qcz hd h
  ·try rw[if_pos hok] at h
   split at h
   ·injection h with h
    rw[<-h];exact zvi (zps hd)
   ·split at h
    ·split at h
     ·rename_i ht
      obtain⟨d1,d2⟩:=z1l hok ht;unfold encPts at h;split at h
      ·rename_i x y hx hy
       injection h with h;rw[<-h];intro z hz;rcases qnd.1 hz with hz|hz
       ·rcases qnd.1 hz with hz|hz
        ·exact z0t _ _ (ql6 _) z hz
        ·exact zza hx z hz
       ·exact zza hy z hz
      ·cases h
     ·exact zza h
    ·exact qha (fun s hs=>by obtain⟨c,hc,rfl⟩:=qly.1 hs;exact(hd c hc).1.2) h
theorem zsf{l:List zab}(h:l.length<=65536):(zc6 l).length<=8193:=by unfold zc6;rw[zbe,zll];omega
theorem zzb{t:Int}{nu:Bool}{e:Int}{l:List zab}{b:List Nat}{k:Int}(hd:∀c∈l,zat c)(h:pgE t nu e l=(k,b)):b.length<=100000010000:=by
 by_cases hk:k=0
 ·subst hk
  obtain⟨_,h1,_,_,d,h2,rfl⟩:=z04 h;have a:=z1m (zpt hd) h2;have b:=zsf h1;have c:=zas (n:=l.length) (by omega);simp only[qm9,qmv];split<;> simp<;> omega
 ·have:b=[]:=by
   unfold pgE at h;split at h
   ·injection h with _ h;exact h.symm
   ·split at h
    ·injection h with _ h;exact h.symm
    ·split at h
     ·split at h
      ·injection h with h _;exact absurd h.symm hk
      ·injection h with _ h;exact h.symm
     ·injection h with _ h;exact h.symm
  subst this;simp
theorem qjm{t:Int}{nu:Bool}{e:Int}{l:List zab}{b:List Nat}(hd:∀c∈l,zat c)(h:pgE t nu e l=(0,b)):∀x∈b,x<256:=by
 obtain⟨_,_,_,h4,d,h2,rfl⟩:=z04 h;have:=(ztt h4).1;intro x hx;rcases qnu.1 hx with rfl|hx
 ·omega
 ·rcases qnd.1 hx with hx|hx
  ·exact z0t _ _ (ql6 _) x hx
  ·rcases qnd.1 hx with hx|hx
   ·split at hx
    ·exact zgf _ _ x hx
    ·cases hx
   ·exact qhs (zpt hd) h2 x hx
end Go.Proofs.Y
