import Derived.Test.YtbahbnbpmfgimaaGreatDoorBun27
set_option maxHeartbeats 4000000
set_option maxRecDepth 100000
namespace Go.Hm
open Go Go.RowKit
theorem z2e{T:List Nat}{w w1 w2:World}{g:Nat}{V1 V2:Value}(hT:∀x∈g::zbg V1,x∈T)(hw:w.heap.size<=w1.heap.size)(a2:V2.ownBlock=V1.ownBlock\/ ∃h,V2.ownBlock=some h/\w.heap.size<=h)(t2:Turns (g::zbg V2) w1 w2):TurnsB w.heap.size T w1 w2:=
 ⟨t2.os,t2.tape,t2.output,t2.size,fun k hk hm=>t2.block k (by omega) (zmb (fun h=>hm (hT k h)) hk a2)⟩
theorem LeafIn.at_{w:World}{A:Option Addr}{L:List (List Nat)}{T:List Nat}(h:LeafIn w A L T){i:Nat}(hi:i<L.length):
 ∃ad,A=some ad/\ ∀W,New w W-> ∀j v,(zah .u8 (L.getD i []))[j]? =some v->W.cell? ((ad.add (i*32)).add j)=some v:=by
 obtain⟨ad,e,hb,hl,hc⟩:=Reads.rec_ (f:=zfh) (sz:=32) zd9 [] h.row hi (by omega);have hd:zim (L.getD i []):=by refine h.digs _ ?_;rw[qnp,qlx hl];exact qml hl
 refine⟨ad,e,fun W hW j v hv=>?_⟩;rw[zba];rw[<-zsw hd.1] at hv;exact(qro hW (by rw[zao];exact hb)).trans (hc j v hv)
end Go.Hm
namespace Go.Proofs.Y
open Go.RowKit Go.Hm
theorem sD:Tryz.prog.underlying 23=some (.slice (Tryz.prog.elem 23)):=by kernel_rfl
theorem zD(w:World):(sizeOf (Tryz.prog.elem 23)).run Tryz.prog w= .ok 32 w:=by kernel_rfl
theorem zzz(A:Option Addr)(n c m:Nat)(hc:m<=c)(w:World):(Instr.sliceAt 23 (.slice A n c) none (some (.int .i64 (m:Int))) none).run Tryz.prog w= .ok (.slice A m c) w:=by rw[run_sliceAt_slice w _ _ _ _ _ sD,run_slice_h w _ A n c sD .i64 (m:Int) (by omega) (by omega),zD];cases A<;> simp[Result.andThen,sliced,zfp]
theorem qbp(A:Option Addr)(n c k:Nat)(hk:k<=n)(w:World):(Instr.sliceAt 23 (.slice A n c) (some (.int .i64 (k:Int))) none none).run Tryz.prog w= .ok (.slice (if c=k then A else A.map (·.add (k*32))) (n-k) (c-k)) w:=by rw[run_sliceAt_slice w _ _ _ _ _ sD,run_slice_l w _ A n c sD .i64 (k:Int) (by omega) (by omega),zD];simp[Result.andThen,sliced]
theorem zg4{ops:Array Oper}{rest:List Oper}{o:Oper}{a:Act}{w:World}{Q:Exit->Act->World->Prop}(hgd:o.guard=none)(ty:TypeId)(x:Operand)(ho:o.op= .load ty x){ad:Addr}{cs:List Value}{d:TypeDesc}(hx:a.eval x= .pointer (some ad))(hc:∀j v,cs[j]? =some v->w.cell? (ad.add j)=some v)(hu:Tryz.prog.underlying ty=some d)(hd:d.isRow=true)(hi:(Tryz.prog.info? ty).map (·.size)=some cs.length)
 (h:wpList Tryz.prog ops Q rest (a.put o.dst (.agg cs.toArray)) w):wpList Tryz.prog ops Q (o::rest) a w:=by
 refine wpList_plain hgd fun K hK=>?_
 unfold Oper.wp execOp;simp only[ho,hx,Instr.loadAt,Instr.sureAddr,qrb,qrc,qrd,zj0 w ad ty cs d hc hu hd hi];exact hK _ _ h
theorem zz0{d:List Nat}(h:d.length=32):(Tryz.prog.info? 35).map (·.size)=some (zah .u8 d).toArray.size:=by have:=zxd (l:=List.replicate 32 0) (by simp);rw[this];simp[zap,zah,h]
theorem zoy(d:List Nat):(zah .u8 d).toArray.all (·.oneCell')=true:=by rw[Array.all_eq_true_iff_forall_mem];intro v hv;exact zct .u8 d v (by simpa using hv)
theorem zz1:∀(m:Nat) {L:List (List Nat)} {w:World} {base g:Nat} {V:Value} {F:List (List Nat)} {A:Option Addr} {c:Nat},L.length<m->LogOf tL w base g V F->base<=w.heap.size->F.length+L.length<=9000000->LeafIn w A L (g::zbg V)->L.length<=c->c<=9223372036854775807->(∀w',Turns (g::zbg V) w w'->ConstIn w')->
 Calls Tryz.prog 36 #[.pointer (some ⟨g,0,none⟩),.slice A L.length c] w (zc3 tL (dV (zel L).1) base g V (F++(zel L).2) w):=by
 intro m;induction m with
 |zero=>intro L w base g V F A c h;omega
 |succ m ih=>
  intro L w base g V F A c hm hL hbs hn hlv hc hcm hC;have c0:=zac w (.cells (zap .u8 zad).toArray 35);have G0:=qrv w 35 (zap .u8 zad).toArray;have hgl:g<w.heap.size:=hL.lt;obtain⟨W0,hW0⟩:∃W,W=w.alloc (.cells (zap .u8 zad).toArray 35):=⟨_,rfl⟩;rw[<-hW0] at c0 G0;have L0:=hL.new c0;have V0:=hlv.turn (qr9 (T:=g::zbg V) c0) (fun x _ h=>h)
  match L,hm,hn,hlv,hc,V0 with
  | [],_,hn,_,_,_=>
    have lh:=zkx (s:=zbn) (D:=[]) (A:=none) (n:=0) (c:=0) L0 (qlw hbs c0.size) (by simp at hn;omega) ⟨qrs,(fun _ hd=>nomatch hd),ql6 _⟩ (by omega) (by decide) (by decide) (by simp[bytesOf,zem]) (by simp[bytesOf]) (fun w' k=>hC w' ((qr9 c0).trans k));rw[show bytesOf []=[] from rfl,zja] at lh;obtain⟨cs,hcs⟩:∃cs,cs=(zah .u8 (zb4 zbn [])).toArray:=⟨_,rfl⟩;have hdv:dV (zb4 zbn [])= .agg cs:=by rw[hcs];rfl
    have I32:=zz0 (zbu zbn []).1;have ONE:=zoy (zb4 zbn []);have ZS:(zap .u8 zad).toArray.size=cs.size:=by rw[hcs];simp[zap,zah,zad,(zbu zbn []).1]
    rw[zgg,hdv] at lh;rw[<-hcs] at I32 ONE;rw[zhe];show Calls _ _ _ _ (zc3 tL (dV (zb4 zbn [])) base g V (F++[zc2 zbn []]) w);rw[hdv];have LH:=qrf lh;have I32:=qrf I32;have ONE:=qrf ONE;have ZS:=qrf ZS;have HL:=qrf L0;have G0:=qrf G0;have C0:=qrf c0;have HW:=qrf hW0;clear hcs hdv lh L0 c0 hC hlv hL ih hW0 V0;go_enter Tryz.func36,Tryz.ntmps36
    go_wp2_with fail
    have F1:=LH.out;rw[HW.out] at F1;refine F1.mono ?_;rintro e w4 ⟨rfl,V',l4,a4,t4⟩;have t4:Turns (g::zbg V) W0 w4:=by rw[HW.out];exact t4
    have g4:=G0.out.touch t4 (HL.out.notT G0.out (by decide) (by decide));have a4:V'.ownBlock=V.ownBlock\/ ∃h,V'.ownBlock=some h/\w.heap.size<=h:=a4.imp id fun⟨h,h1,h2⟩=>⟨h,h1,qlw (by simp) h2⟩
    have PS:=qrf (zbz hgl l4 a4 ((qr9 C0.out).trans t4) g4 cs);have H:=qrf (qok (zaf g4) (zau g4 cs));clear l4 a4 t4 g4 F1 LH HW;go_wp2_with (refine wpList_store_row rfl 35 (.tmp 4) (.tmp 12) rfl w.heap.size cs rfl rfl _ _ H.out.1 I32.out ZS.out ONE.out ?_)
    exact bodyPost_ret (results_cell_row rfl _ _ w.heap.size _ cs (0,0) _ rfl H.out.2 zbp rfl I32.out) rfl ⟨rfl,PS.out⟩
  | [x],_,_,hlv,_,V0=>
    have hx:zim x:=hlv.digs x (by simp);obtain⟨ad,rfl,hcell⟩:=V0.at_ (i:=0) (by simp);have hcell:=hcell W0 (qq8 _ _);rw[qox,zfp] at hcell;obtain⟨cs,hcs⟩:∃cs,cs=(zah .u8 x).toArray:=⟨_,rfl⟩;have hdv:dV x= .agg cs:=by rw[hcs];rfl
    have I32:=zz0 hx.1;have I32L:(Tryz.prog.info? 35).map (·.size)=some cs.toList.length:=by rw[hcs];simpa using zz0 hx.1
    have ONE:=zoy x;have ZS:(zap .u8 zad).toArray.size=cs.size:=by rw[hcs];simp[zap,zah,zad,hx.1]
    have hcell:∀j v,cs.toList[j]? =some v->W0.cell? (ad.add j)=some v:=by rw[hcs];simpa using hcell
    rw[<-hcs] at I32 ONE;rw[zhf];show Calls _ _ _ _ (zc3 tL (dV x) base g V (F++[]) w);rw[hdv,qmg];have PS:=qrf (zbz hgl L0 (.inl rfl) (qr9 c0) G0 cs);have H:=qrf (qok (zaf G0) (zau G0 cs));rw[hW0] at hcell PS H;have HC:=qrf hcell;have I32:=qrf I32;have I32L:=qrf I32L;have ONE:=qrf ONE;have ZS:=qrf ZS;clear hcs hdv L0 c0 G0 hC hlv hL ih hW0 V0 hcell;show Calls _ _ #[_,.slice (some ad) 1 c] _ _;go_enter Tryz.func36,Tryz.ntmps36
    go_wp2_with (first
     |(refine zg4 rfl 35 (.tmp 16) rfl rfl HC.out zbp rfl I32L.out ?_)
     |(refine wpList_store_row rfl 35 (.tmp 4) (.tmp 17) rfl w.heap.size cs rfl rfl _ _ H.out.1 I32.out ZS.out ONE.out ?_))
    exact bodyPost_ret (results_cell_row rfl _ _ w.heap.size _ cs (0,0) _ rfl H.out.2 zbp rfl I32.out) rfl ⟨rfl,PS.out⟩
  |x::y::r,hm,hn,hlv,hc,V0=>
   have h2:2<=(x::y::r).length:=by simp
   obtain⟨L,hLL⟩:∃L,L=x::y::r:=⟨_,rfl⟩;rw[<-hLL] at h2 hm hn hlv hc V0⊢;clear hLL;obtain⟨s1,s2,s3⟩:=zg9 h2;have SP:=z49 (L.length:Int) W0 (by omega) (by omega);rw[qmt] at SP;rw[zjb h2];have dg:=hlv.digs;have d1:=zdn _ (dg.take (zbd L.length));have d2:=zdn _ (dg.drop (zbd L.length));have tk:(L.take (zbd L.length)).length=zbd L.length:=by rw[ql2];omega
   have dr:(L.drop (zbd L.length)).length=L.length-zbd L.length:=by rw[ql0]
   have f1:=(zfg _ (dg.take (zbd L.length)) (by omega)).1;have f2:=(zfg _ (dg.drop (zbd L.length)) (by omega)).1;have ih1:=ih (L:=L.take (zbd L.length)) (c:=c) (by omega) L0 (qlw hbs c0.size) (by omega) (V0.take (by omega)) (by omega) hcm (fun w' t=>hC w' ((qr9 c0).trans t));have ih2:=fun(w:World) (V:Value) (F:List (List Nat)) (A:Option Addr) (h1:LogOf tL w base g V F) (h2:base<=w.heap.size) (h3:F.length+(L.length-zbd L.length)<=9000000) (h4:LeafIn w A (L.drop (zbd L.length)) (g::zbg V)) (h5:∀w',Turns (g::zbg V) w w'->ConstIn w')=>ih (L:=L.drop (zbd L.length)) (c:=c-zbd L.length) (by omega) h1 h2 (by omega) h4 (by omega) (by omega) h5
   rw[tk] at ih1 f1;rw[dr] at ih2 f2;have DROP:=fun(w:World) (A:Option Addr) (T:List Nat) (h:LeafIn w A L T)=>h.drop (k:=zbd L.length) (c:=c) (by omega) hc
   have SLh:=fun W=>zzz A L.length c (zbd L.length) (by omega) W
   have SLl:=fun W=>qbp A L.length c (zbd L.length) (by omega) W
   generalize zel (L.take (zbd L.length))=ra at*;generalize zel (L.drop (zbd L.length))=rb at*;generalize zbd L.length=k at*;obtain⟨a,fa⟩:=ra;obtain⟨b,fb⟩:=rb;simp only at d1 d2 f1 f2 ih1 ih2⊢;obtain⟨ca,hca⟩:∃cs,cs=(zah .u8 a).toArray:=⟨_,rfl⟩;have hva:dV a= .agg ca:=by rw[hca];rfl
   obtain⟨cb,hcb⟩:∃cs,cs=(zah .u8 b).toArray:=⟨_,rfl⟩;have hvb:dV b= .agg cb:=by rw[hcb];rfl
   obtain⟨cs,hcs⟩:∃cs,cs=(zah .u8 (zb4 zb3 [a,b])).toArray:=⟨_,rfl⟩;have hdv:dV (zb4 zb3 [a,b])= .agg cs:=by rw[hcs];rfl
   have I32a:(Tryz.prog.info? 35).map (·.size)=some ca.size:=by rw[hca];exact zz0 d1.1
   have ZSa:(zap .u8 zad).toArray.size=ca.size:=by rw[hca];simp[zap,zah,zad,d1.1]
   have ONEa:ca.all (·.oneCell')=true:=by rw[hca];exact zoy _
   have hdd:=zbu zb3 [a,b];have I32:(Tryz.prog.info? 35).map (·.size)=some cs.size:=by rw[hcs];exact zz0 hdd.1
   have ZS:(zap .u8 zad).toArray.size=cs.size:=by rw[hcs];simp[zap,zah,zad,hdd.1]
   have ONE:cs.all (·.oneCell')=true:=by rw[hcs];exact zoy _
   have ND:=fun(w:World) (V:Value) (F:List (List Nat)) (h1:LogOf tL w base g V F) (h2:base<=w.heap.size) (h3:F.length<=10000000) (h4:∀w',Turns (g::zbg V) w w'->ConstIn w')=>qbo h1 h2 h3 d1 d2 h4
   rw[hva] at ih1;rw[hvb] at ih2;rw[hva,hvb,hdv] at ND;rw[hdv];have IH1:=qrf ih1;have IH2:=qrf ih2;have ND2:=qrf ND;have DROPH:=qrf DROP;have SP:=qrf SP;have HL0:=qrf L0;have HLV:=qrf hlv;have HC:=qrf hC;have G0:=qrf G0;have C0:=qrf c0;have HW:=qrf hW0;have I32a:=qrf I32a;have ZSa:=qrf ZSa;have ONEa:=qrf ONEa;have I32:=qrf I32;have ZS:=qrf ZS;have ONE:=qrf ONE;have SLL:=qrf SLl;clear hca hcb hcs hva hvb hdv hdd ih ih1 ih2 ND L0 c0 hC hlv hL hW0 V0 DROP dg d1 d2 tk dr SLl;go_enter Tryz.func36,Tryz.ntmps36
   have q0:((L.length:Int)==0)=false:=by rw[beq_eq_false_iff_ne];omega
   have q1:((L.length:Int)==1)=false:=by rw[beq_eq_false_iff_ne];omega
   go_wp2_with fail
   have F1:=SP.out;rw[HW.out] at F1;refine F1.mono ?_;rintro e w' ⟨rfl,rfl⟩;clear F1 SP q0 q1;go_wp2_with fail
   have F2:=IH1.out;rw[HW.out] at F2;refine F2.mono ?_;rintro e w5 ⟨rfl,V1,l5,a5,t5⟩;have t5:Turns (g::zbg V) W0 w5:=by rw[HW.out];exact t5
   have a5:V1.ownBlock=V.ownBlock\/ ∃h,V1.ownBlock=some h/\w.heap.size<=h:=a5.imp id fun⟨h,h1,h2⟩=>⟨h,h1,qlw (by simp) h2⟩
   have g5:=G0.out.touch t5 (HL0.out.notT G0.out (by decide) (by decide));have L5:=qrf l5;have A5:=qrf a5;have T5:=qrf ((qr9 (T:=g::zbg V) C0.out).trans t5);have G5:=qrf g5;clear F2 IH1 l5 a5 t5 g5 G0 HL0 SLh HW C0;go_wp2_with (refine wpList_store_row rfl 35 (.tmp 6) (.tmp 25) rfl w5.heap.size ca rfl rfl _ _ (heap_alloc_new _ _) I32a.out ZSa.out ONEa.out ?_;rw[zbb])
   obtain⟨w7,hw7⟩:∃W,W=w5.alloc (.cells ca 35):=⟨_,rfl⟩;have n57:New w5 w7:=by rw[hw7];exact zac _ _
   have g6:Blk w7 w5.heap.size 35 ca:=by rw[hw7];exact qrv _ _ _
   rw[<-hw7];have B6N:=qrf (show w5.heap.size≠w.heap.size by have:=G5.out.lt;omega);generalize w5.heap.size=b6 at*;clear hw7;have t7:=T5.out.trans (qr9 n57);have l7:=L5.out.new n57;have nr:w.heap.size∉g::zbg V1:=L5.out.notT G5.out (by decide) (by decide);have g7:=G5.out.below n57 G5.out.lt;obtain⟨w0,hw0⟩:∃W,W=w7.drew:=⟨_,rfl⟩;have n70:New w7 w0:=by rw[hw0];exact qr1 w7
   have t0:=t7.trans (qr9 n70);have l0:=l7.new n70;have lv0:=HLV.out.turn t0 (fun x hx hT=>zmb hT hx A5.out);have R2:=IH2.out w0 V1 (F++fa) _ l0 (qlw hbs t0.size) (by rw[qmv,f1];omega) (DROPH.out w0 A _ lv0) (fun w' t=>HC.out w' (zbm t0 A5.out t));have LR:∀W,TurnsB w0.heap.size (w.heap.size::g::zbg V1) w0 W->W.heap[b6]? =some (.cells ca 35 (0,0)):=fun W hW=>by
    have g60:=g6.below n70 g6.lt;refine(hW.block b6 g60.lt (fun hx=>?_)).trans g60;rcases qnu.1 hx with e|hx
    ·exact B6N.out e
    ·exact l0.notT g60 (by decide) (by decide) hx
   have R2:=qrf R2;have LR:=qrf LR;have HW0:=qrf hw0;have G70:=qrf (g7.below n70 g7.lt);have L00:=qrf l0;have T0:=qrf t0;have NR:=qrf nr;clear t7 l7 nr g7 n70 t0 l0 lv0 n57 g6 T5 L5 G5 HLV IH2 DROPH hw0;go_wp2
   refine zaw (TurnsB w0.heap.size (w.heap.size::g::zbg V1)) [(true,0),(true,1),(true,2),(true,3),(true,4),(true,5),(false,6),(false,7),(false,8)]
    (qsj _ _) qsk (by kernel_rfl) (by kernel_rfl) (by kernel_rfl) (by kernel_rfl) ?_
   rw[<-HW0.out];iterate 1 (
    refine zaj rfl rfl (v:=?_) (fun W hW=>?_) ?_;rotate_left
    ·skip
     go_simp<;> with_reducible rfl
    simp only[Act.put,qoi,qn8,qoj])
   refine zaj rfl rfl (v:= .agg ca) (fun W hW=>zcg rfl (LR.out W hW) zbp rfl I32a.out) ?_;simp only[Act.put,qoi,qn8,qoj];iterate 3 (
    refine zaj rfl rfl (v:=?_) (fun W hW=>?_) ?_;rotate_left
    ·skip
     go_simp<;> with_reducible rfl
    simp only[Act.put,qoi,qn8,qoj])
   refine zaj rfl rfl (v:= .slice (if c=k then A else A.map (·.add (k*32))) (L.length-k) (c-k)) (fun W hW=>zl7 (SLL.out W)) ?_;simp only[Act.put,qoi,qn8,qoj];refine za6 rfl rfl (fun K hK=>?_);go_simp
   refine R2.out.mono ?_;rintro e w8 ⟨rfl,V2,l8,a8,t8⟩;refine hK _ _ (.of (t8.more (by intro x hx;simp at hx⊢;simp[hx])) (ql6 _)) ?_;clear hK;have t08:=zbm T0.out A5.out t8;have a08:=zdz T0.out.size A5.out a8;have g8:=G70.out.touch t8 NR.out;have nd:=ND2.out w8 V2 (F++fa++fb) l8 (qlw hbs t08.size) (by rw[qmv,qmv,f1,f2];omega) (fun w' t=>HC.out w' (zbm t08 a08 t));have nr2:w.heap.size∉g::zbg V2:=l8.notT g8 (by decide) (by decide);refine za6 rfl rfl (fun K hK=>?_);go_simp
   refine nd.mono ?_;rintro e w9 ⟨rfl,V3,l9,a9,t9⟩;refine hK _ _ (z2e (fun x hx=>qps _ hx) t8.size a8 t9) ?_;clear hK;have t09:=zbm t08 a08 t9;have a09:=zdz t08.size a08 a9;have g9:=g8.touch t9 nr2;refine za6 rfl rfl (fun K hK=>?_);refine wp_store_row 35 (.tmp 4) (.tmp 33) rfl w.heap.size cs rfl rfl _ _ (zaf g9) I32.out ZS.out ONE.out ?_;refine hK _ _ (.of (qsa (za3 (g:=w.heap.size) w9 cs) (by simp)) (qlw t8.size t9.size)) ?_;clear hK;refine zda ?_;have PS:=zbz hgl l9 a09 t09 g9 cs;rw[qmi,qmi] at PS;have PS:=qrf PS;have H:=qrf (zau g9 cs);clear t08 a08 g8 nd nr2 t09 a09 g9 l8 a8 t8 l9 a9 t9;go_wp2
   exact bodyPost_ret (results_cell_row rfl _ _ w.heap.size _ cs (0,0) _ rfl H.out zbp rfl I32.out) rfl ⟨rfl,by have:=PS.out;simpa only[qmi] using this⟩
theorem zoz:∀(m:Nat) {L:List (List Nat)} {w:World} {base g:Nat} {V:Value} {F:List (List Nat)} {A:Option Addr} {c:Nat},L.length<m->LogOf tR w base g V F->base<=w.heap.size->F.length+L.length<=9000000->LeafIn w A L (g::zbg V)->L.length<=c->c<=9223372036854775807->
 Calls Tryz.prog 37 #[.pointer (some ⟨g,0,none⟩),.slice A L.length c] w (zc3 tR (dV (zel L).1) base g V (F++(zel L).2) w):=by
 intro m;induction m with
 |zero=>intro L w base g V F A c h;omega
 |succ m ih=>
  intro L w base g V F A c hm hL hbs hn hlv hc hcm;have c0:=zac w (.cells (zap .u8 zad).toArray 35);have G0:=qrv w 35 (zap .u8 zad).toArray;have hgl:g<w.heap.size:=hL.lt;obtain⟨W0,hW0⟩:∃W,W=w.alloc (.cells (zap .u8 zad).toArray 35):=⟨_,rfl⟩;rw[<-hW0] at c0 G0;have L0:=hL.new c0;have V0:=hlv.turn (qr9 (T:=g::zbg V) c0) (fun x _ h=>h)
  match L,hm,hn,hlv,hc,V0 with
  | [],_,hn,_,_,_=>
    have lh:=zjc (s:=zbn) (D:=[]) (A:=none) (n:=0) (c:=0) L0 (qlw hbs c0.size) (by simp at hn;omega) (fun _ _=>⟨qrs,(fun _ hd=>nomatch hd),ql6 _⟩) (by omega) (by decide) (by decide) (by simp[bytesOf,zem]) (by simp[bytesOf]);rw[show bytesOf []=[] from rfl,zja] at lh;obtain⟨cs,hcs⟩:∃cs,cs=(zah .u8 (zb4 zbn [])).toArray:=⟨_,rfl⟩;have hdv:dV (zb4 zbn [])= .agg cs:=by rw[hcs];rfl
    have I32:=zz0 (zbu zbn []).1;have ONE:=zoy (zb4 zbn []);have ZS:(zap .u8 zad).toArray.size=cs.size:=by rw[hcs];simp[zap,zah,zad,(zbu zbn []).1]
    rw[zgg,hdv] at lh;rw[<-hcs] at I32 ONE;rw[zhe];show Calls _ _ _ _ (zc3 tR (dV (zb4 zbn [])) base g V (F++[zc2 zbn []]) w);rw[hdv];have LH:=qrf lh;have I32:=qrf I32;have ONE:=qrf ONE;have ZS:=qrf ZS;have HL:=qrf L0;have G0:=qrf G0;have C0:=qrf c0;have HW:=qrf hW0;clear hcs hdv lh L0 c0 hlv hL ih hW0 V0;go_enter Tryz.func37,Tryz.ntmps37
    go_wp2_with fail
    have F1:=LH.out;rw[HW.out] at F1;refine F1.mono ?_;rintro e w4 ⟨rfl,V',l4,a4,t4⟩;have t4:Turns (g::zbg V) W0 w4:=by rw[HW.out];exact t4
    have g4:=G0.out.touch t4 (HL.out.notT G0.out (by decide) (by decide));have a4:V'.ownBlock=V.ownBlock\/ ∃h,V'.ownBlock=some h/\w.heap.size<=h:=a4.imp id fun⟨h,h1,h2⟩=>⟨h,h1,qlw (by simp) h2⟩
    have PS:=qrf (zbz hgl l4 a4 ((qr9 C0.out).trans t4) g4 cs);have H:=qrf (qok (zaf g4) (zau g4 cs));clear l4 a4 t4 g4 F1 LH HW;go_wp2_with (refine wpList_store_row rfl 35 (.tmp 4) (.tmp 12) rfl w.heap.size cs rfl rfl _ _ H.out.1 I32.out ZS.out ONE.out ?_)
    exact bodyPost_ret (results_cell_row rfl _ _ w.heap.size _ cs (0,0) _ rfl H.out.2 zbp rfl I32.out) rfl ⟨rfl,PS.out⟩
  | [x],_,_,hlv,_,V0=>
    have hx:zim x:=hlv.digs x (by simp);obtain⟨ad,rfl,hcell⟩:=V0.at_ (i:=0) (by simp);have hcell:=hcell W0 (qq8 _ _);rw[qox,zfp] at hcell;obtain⟨cs,hcs⟩:∃cs,cs=(zah .u8 x).toArray:=⟨_,rfl⟩;have hdv:dV x= .agg cs:=by rw[hcs];rfl
    have I32:=zz0 hx.1;have I32L:(Tryz.prog.info? 35).map (·.size)=some cs.toList.length:=by rw[hcs];simpa using zz0 hx.1
    have ONE:=zoy x;have ZS:(zap .u8 zad).toArray.size=cs.size:=by rw[hcs];simp[zap,zah,zad,hx.1]
    have hcell:∀j v,cs.toList[j]? =some v->W0.cell? (ad.add j)=some v:=by rw[hcs];simpa using hcell
    rw[<-hcs] at I32 ONE;rw[zhf];show Calls _ _ _ _ (zc3 tR (dV x) base g V (F++[]) w);rw[hdv,qmg];have PS:=qrf (zbz hgl L0 (.inl rfl) (qr9 c0) G0 cs);have H:=qrf (qok (zaf G0) (zau G0 cs));rw[hW0] at hcell PS H;have HC:=qrf hcell;have I32:=qrf I32;have I32L:=qrf I32L;have ONE:=qrf ONE;have ZS:=qrf ZS;clear hcs hdv L0 c0 G0 hlv hL ih hW0 V0 hcell;show Calls _ _ #[_,.slice (some ad) 1 c] _ _;go_enter Tryz.func37,Tryz.ntmps37
    go_wp2_with (first
     |(refine zg4 rfl 35 (.tmp 17) rfl rfl HC.out zbp rfl I32L.out ?_)
     |(refine wpList_store_row rfl 35 (.tmp 4) (.tmp 18) rfl w.heap.size cs rfl rfl _ _ H.out.1 I32.out ZS.out ONE.out ?_))
    exact bodyPost_ret (results_cell_row rfl _ _ w.heap.size _ cs (0,0) _ rfl H.out.2 zbp rfl I32.out) rfl ⟨rfl,PS.out⟩
  |x::y::r,hm,hn,hlv,hc,V0=>
   have h2:2<=(x::y::r).length:=by simp
   obtain⟨L,hLL⟩:∃L,L=x::y::r:=⟨_,rfl⟩;rw[<-hLL] at h2 hm hn hlv hc V0⊢;clear hLL;obtain⟨s1,s2,s3⟩:=zg9 h2;have SP:=z15 (L.length:Int) W0 (by omega) (by omega);rw[qmt] at SP;rw[zjb h2];have dg:=hlv.digs;have d1:=zdn _ (dg.take (zbd L.length));have d2:=zdn _ (dg.drop (zbd L.length));have tk:(L.take (zbd L.length)).length=zbd L.length:=by rw[ql2];omega
   have dr:(L.drop (zbd L.length)).length=L.length-zbd L.length:=by rw[ql0]
   have f1:=(zfg _ (dg.take (zbd L.length)) (by omega)).1;have f2:=(zfg _ (dg.drop (zbd L.length)) (by omega)).1;have ih1:=ih (L:=L.take (zbd L.length)) (c:=c) (by omega) L0 (qlw hbs c0.size) (by omega) (V0.take (by omega)) (by omega) hcm;have ih2:=fun(w:World) (V:Value) (F:List (List Nat)) (A:Option Addr) (h1:LogOf tR w base g V F) (h2:base<=w.heap.size) (h3:F.length+(L.length-zbd L.length)<=9000000) (h4:LeafIn w A (L.drop (zbd L.length)) (g::zbg V))=>ih (L:=L.drop (zbd L.length)) (c:=c-zbd L.length) (by omega) h1 h2 (by omega) h4 (by omega) (by omega)
   rw[tk] at ih1 f1;rw[dr] at ih2 f2;have DROP:=fun(w:World) (A:Option Addr) (T:List Nat) (h:LeafIn w A L T)=>h.drop (k:=zbd L.length) (c:=c) (by omega) hc
   have SLh:=fun W=>zzz A L.length c (zbd L.length) (by omega) W
   generalize zel (L.take (zbd L.length))=ra at*;generalize zel (L.drop (zbd L.length))=rb at*;generalize zbd L.length=k at*;obtain⟨a,fa⟩:=ra;obtain⟨b,fb⟩:=rb;simp only at d1 d2 f1 f2 ih1 ih2⊢;obtain⟨ca,hca⟩:∃cs,cs=(zah .u8 a).toArray:=⟨_,rfl⟩;have hva:dV a= .agg ca:=by rw[hca];rfl
   obtain⟨cb,hcb⟩:∃cs,cs=(zah .u8 b).toArray:=⟨_,rfl⟩;have hvb:dV b= .agg cb:=by rw[hcb];rfl
   obtain⟨cs,hcs⟩:∃cs,cs=(zah .u8 (zb4 zb3 [a,b])).toArray:=⟨_,rfl⟩;have hdv:dV (zb4 zb3 [a,b])= .agg cs:=by rw[hcs];rfl
   have I32a:(Tryz.prog.info? 35).map (·.size)=some ca.size:=by rw[hca];exact zz0 d1.1
   have ZSa:(zap .u8 zad).toArray.size=ca.size:=by rw[hca];simp[zap,zah,zad,d1.1]
   have ONEa:ca.all (·.oneCell')=true:=by rw[hca];exact zoy _
   have I32b:(Tryz.prog.info? 35).map (·.size)=some cb.size:=by rw[hcb];exact zz0 d2.1
   have ZSb:(zap .u8 zad).toArray.size=cb.size:=by rw[hcb];simp[zap,zah,zad,d2.1]
   have ONEb:cb.all (·.oneCell')=true:=by rw[hcb];exact zoy _
   have I32b:=qrf I32b;have ZSb:=qrf ZSb;have ONEb:=qrf ONEb;have hdd:=zbu zb3 [a,b];have I32:(Tryz.prog.info? 35).map (·.size)=some cs.size:=by rw[hcs];exact zz0 hdd.1
   have ZS:(zap .u8 zad).toArray.size=cs.size:=by rw[hcs];simp[zap,zah,zad,hdd.1]
   have ONE:cs.all (·.oneCell')=true:=by rw[hcs];exact zoy _
   have ND:=fun(w:World) (V:Value) (F:List (List Nat)) (h1:LogOf tR w base g V F) (h2:base<=w.heap.size) (h3:F.length<=10000000)=>z6g h1 h2 h3 d1 d2
   rw[hva] at ih1;rw[hvb] at ih2;rw[hva,hvb,hdv] at ND;rw[hdv];have IH1:=qrf ih1;have IH2:=qrf ih2;have ND2:=qrf ND;have DROPH:=qrf DROP;have SP:=qrf SP;have HL0:=qrf L0;have HLV:=qrf hlv;have G0:=qrf G0;have C0:=qrf c0;have HW:=qrf hW0;have I32a:=qrf I32a;have ZSa:=qrf ZSa;have ONEa:=qrf ONEa;have I32:=qrf I32;have ZS:=qrf ZS;have ONE:=qrf ONE;clear hca hcb hcs hva hvb hdv hdd ih ih1 ih2 ND L0 c0 hlv hL hW0 V0 DROP dg d1 d2 tk dr;go_enter Tryz.func37,Tryz.ntmps37
   have q0:((L.length:Int)==0)=false:=by rw[beq_eq_false_iff_ne];omega
   have q1:((L.length:Int)==1)=false:=by rw[beq_eq_false_iff_ne];omega
   go_wp2_with fail
   have F1:=SP.out;rw[HW.out] at F1;refine F1.mono ?_;rintro e w' ⟨rfl,rfl⟩;clear F1 SP q0 q1;go_wp2_with fail
   have F2:=IH1.out;rw[HW.out] at F2;refine F2.mono ?_;rintro e w5 ⟨rfl,V1,l5,a5,t5⟩;have t5:Turns (g::zbg V) W0 w5:=by rw[HW.out];exact t5
   have a5:V1.ownBlock=V.ownBlock\/ ∃h,V1.ownBlock=some h/\w.heap.size<=h:=a5.imp id fun⟨h,h1,h2⟩=>⟨h,h1,qlw (by simp) h2⟩
   have g5:=G0.out.touch t5 (HL0.out.notT G0.out (by decide) (by decide));have L5:=qrf l5;have A5:=qrf a5;have T5:=qrf ((qr9 (T:=g::zbg V) C0.out).trans t5);have G5:=qrf g5;clear F2 IH1 l5 a5 t5 g5 G0 HL0 SLh HW C0;go_wp2_with (refine wpList_store_row rfl 35 (.tmp 6) (.tmp 26) rfl w5.heap.size ca rfl rfl _ _ (heap_alloc_new _ _) I32a.out ZSa.out ONEa.out ?_;rw[zbb])
   obtain⟨w7,hw7⟩:∃W,W=w5.alloc (.cells ca 35):=⟨_,rfl⟩;have n57:New w5 w7:=by rw[hw7];exact zac _ _
   have g6:Blk w7 w5.heap.size 35 ca:=by rw[hw7];exact qrv _ _ _
   rw[<-hw7];have B6N:=qrf (show w5.heap.size≠w.heap.size by have:=G5.out.lt;omega);generalize w5.heap.size=b6 at*;clear hw7;have t7:=T5.out.trans (qr9 n57);have l7:=L5.out.new n57;have nr:w.heap.size∉g::zbg V1:=L5.out.notT G5.out (by decide) (by decide);have g7:=G5.out.below n57 G5.out.lt;have lv0:=HLV.out.turn t7 (fun x hx hT=>zmb hT hx A5.out);have R2:=IH2.out w7 V1 (F++fa) _ l7 (qlw hbs t7.size) (by rw[qmv,f1];omega) (DROPH.out w7 A _ lv0);have n6:b6∉g::zbg V1:=l7.notT g6 (by decide) (by decide);rw[if_neg (show¬c=k by omega)] at R2;have R2:=qrf R2;have G7:=qrf g7;have G6:=qrf g6;have L7:=qrf l7;have T7:=qrf t7;have NR:=qrf nr;have N6:=qrf n6;clear t7 l7 nr g7 lv0 n57 g6 n6 T5 L5 G5 HLV IH2 DROPH;go_wp2_with fail
   (with_reducible refine R2.out.mono ?_)
   rintro e w8 ⟨rfl,V2,l8,a8,t8⟩;have t08:=zbm T7.out A5.out t8;have a08:=zdz T7.out.size A5.out a8;have g8:=G7.out.touch t8 NR.out;have g68:=G6.out.touch t8 N6.out;have L8:=qrf l8;have A8:=qrf a08;have T8:=qrf t08;have G8:=qrf g8;have G68:=qrf g68;clear t08 a08 g8 g68 l8 a8 t8 R2 L7 T7 NR N6 G7 G6;have n89:=zac w8 (.cells cb 35);have gb9:=qrv w8 35 cb;have t09:=T8.out.trans (qr9 n89);have l9:=L8.out.new n89;have g9:=G8.out.below n89 G8.out.lt;have nr9:w.heap.size∉g::zbg V2:=l9.notT g9 (by decide) (by decide);have nd:=ND2.out _ V2 (F++fa++fb) l9 (qlw hbs t09.size) (by rw[qmv,qmv,f1,f2];omega);have X6:=qrf (zaf (G68.out.below n89 G68.out.lt));have X7:=qrf (zaf gb9);have ND3:=qrf nd;have G9:=qrf g9;have T9:=qrf t09;have NR9:=qrf nr9;clear t09 l9 g9 nr9 nd gb9 n89 L8 T8 G8 G68;go_wp2_with (first
    |(refine wpList_store_row rfl 35 (.tmp 7) (.tmp 31) rfl w8.heap.size cb rfl rfl _ _ (heap_alloc_new _ _) I32b.out ZSb.out ONEb.out ?_;rw[zbb])
    |(refine wpList_load_row rfl 35 (.tmp 6) rfl b6 rfl _ ca _ _ X6.out zbp rfl I32a.out ?_)
    |(refine wpList_load_row rfl 35 (.tmp 7) rfl w8.heap.size rfl _ cb _ _ X7.out zbp rfl I32b.out ?_)
    |fail)
   (with_reducible refine ND3.out.mono ?_)
   rintro e w10 ⟨rfl,V3,l10,a10,t10⟩;have t0x:=zbm T9.out A8.out t10;have a0x:=zdz T9.out.size A8.out a10;have gx:=G9.out.touch t10 NR9.out;have PS:=qrf (zbz hgl l10 a0x t0x gx cs);have H:=qrf (qok (zaf gx) (zau gx cs));clear l10 a10 t10 t0x a0x gx;go_wp2_with (refine wpList_store_row rfl 35 (.tmp 4) (.tmp 35) rfl w.heap.size cs rfl rfl _ _ H.out.1 I32.out ZS.out ONE.out ?_)
   exact bodyPost_ret (results_cell_row rfl _ _ w.heap.size _ cs (0,0) _ rfl H.out.2 zbp rfl I32.out) rfl ⟨rfl,by have:=PS.out;simpa only[qmi] using this⟩
end Go.Proofs.Y
namespace Go.Hm
open Go Go.RowKit
abbrev grZ:GrD:=(0,none,0,[])
abbrev chZ:ChD:=(none,0,[])
open Classical in
noncomputable def zfw(F:FootS):Bool:=decide (zb0 F)
theorem zmr{F:FootS}(h:zb0 F):zfw F=true:=by unfold zfw;simp[h]
theorem zpw{F:FootS}(h: ¬zb0 F):zfw F=false:=by unfold zfw;simp[h]
theorem zbw{α β:Type}(f:α->β)(l:List α){k:Nat}(d:α)(e:β)(hk:k<l.length):(l.map f).getD k e=f (l.getD k d):=by rw[qnp,qou,qlx hk,qnp,qlx hk];rfl
end Go.Hm
namespace Go.Proofs.Y
open Go.RowKit Go.Hm
theorem zms{w:World}{Ac:Option Addr}{cc:Nat}{L:List zbi}{r:Int}{Ag:Option Addr}{cg:Nat}{G:List GrD}(h:FootIn w Ac cc L Ag G)(hp:∀g∈G,∀x∈g.2.2.2,∀p∈x.2.2,zep p.2.2):
 Calls Tryz.prog 87 #[zln Ac cc L r Ag cg G] w (zak (.bool (zfw (zb5 L r G))) w):=by
 have CK:=qrf (fun(W:World) (hW:New w W)=>zn8 (c:=cc) (qsg h.cols hW) h.fine h.cap h.few);have HG:=qrf h.groups;have HL:=qrf h.cols;have hfew:=h.few;have hfew2:=h.few2;have HCH:=qrf h.chunks;have HPG:=qrf h.pages;have HP:=qrf hp;have HY:=qrf (fun e:zb0 (zb5 L r G)=>zmr e);have HN:=qrf (fun e: ¬zb0 (zb5 L r G)=>zpw e);have hz:FootTo L (G.map grP) 0 0 0:=FootTo.zero _ _;have HZ:=qrf hz;clear h hp hz;generalize zfw (zb5 L r G)=M at*;unfold zb5 at HY HN;have HMap:=qrf (fun(k:Nat) (hk:k<G.length)=>zbw grP G (k:=k) grZ zaq hk);have HLen:=qrf (show(G.map grP).length=G.length from qos ..);generalize hGP:G.map grP=GP at*;have hck:=zez L;clear hGP;show Calls Tryz.prog 87 #[.agg #[.slice Ac L.length cc,.int .i64 r,.slice Ag G.length cg]] w (zak (.bool M) w);have B0:=qrv w 79 #[.slice Ac L.length cc,.int .i64 r,.slice Ag G.length cg];have b0:New w (w.alloc (.cells #[.slice Ac L.length cc,.int .i64 r,.slice Ag G.length cg] 79)):=(qq8 _ _).alloc (ql6 _) _;obtain⟨x0,x1,x2⟩:=zar B0;go_enter Tryz.func87,Tryz.ntmps87
 go_wp2_with fail
 refine(CK.out _ b0).mono ?_;rintro e w1 ⟨rfl,b1⟩;have B1:=B0.below b1 B0.lt;have b01:=qr0 b0 b1;clear CK B0 b0 b1 x0 x1 x2;obtain⟨x0,x1,x2⟩:=zar B1;by_cases hk0:zc7 L=0
 ·have hcok:=hck.1 hk0
  have HCO:=qrf hcok;rw[hk0];clear hck hk0 hcok;go_wp2_with fail
  clear x0 x1 x2;go_loopw [3,4,18] (fun a s i wr=>∃(k:Nat) (rows size:Int),k<=G.length/\i= .int .i64 (k:Int)/\a= .int .i64 rows/\s= .int .i64 size/\Hid (FootTo L GP k rows size)/\(0<=rows/\rows<=65536)/\(0<=size/\size<=1073741824)
   /\Blk wr w.heap.size 79 #[.slice Ac L.length cc,.int .i64 r,.slice Ag G.length cg]/\New w wr) (fun _ _ i _=>G.length-(intOf i).toNat)
  case atStart=>exact⟨0,0,0,ql7 _,rfl,rfl,rfl,HZ,by omega,by omega,B1,b01⟩
  case round=>
   obtain⟨k,rows,size,hk,rfl,rfl,rfl,H,hrw,hsz,B,b⟩:=hrel;clear HZ B1 b01;by_cases hlt:k<G.length
   ·obtain⟨ad,rfl,hb,d0,d1⟩:=(qsg HG.out b).gr2 hlt
    have hgm:=zax grZ hlt;have hch:=HCH.out _ hgm;have hpg:=HPG.out _ hgm;have hpp:=HP.out _ hgm;have hmap:=HMap.out k hlt;have hltP:k<GP.length:=by rw[HLen.out];exact hlt
    generalize G.getD k grZ=g at*;obtain⟨gr,Ach,cch,D⟩:=g;dsimp only at d0 d1 hch hpg hpp;unfold grP at hmap;dsimp only at hmap;have hl2:(GP.getD k zaq).2.length=D.length:=by rw[hmap];exact qos ..
    have hg1:(GP.getD k zaq).1=gr:=by rw[hmap]
    have HM2:=qrf (fun(c:Nat) (hc:c<D.length)=>show(GP.getD k zaq).2.getD c []=(D.getD c chZ).2.2 by rw[hmap];exact zbw (fun x:ChD=>x.2.2) D chZ [] hc);have NR:=qrf (fun hb=>HN.out (H.out.no_rows (r:=r) hltP hb));have EN:=qrf (fun h1 h2 h3=>H.out.enter h1 h2 h3);rw[hl2,hg1] at NR EN;have HL2:=qrf hl2;have HG1:=qrf hg1;have HCHk:=qrf hch.1;have hchl:=hch.2;have HPGk:=qrf hpg;have HPPk:=qrf hpp;have HLTP:=qrf hltP;clear hmap hl2 hg1 hch hpg hpp hgm hb H hltP;have ha:New wr (wr.alloc (.cells #[.int .i64 gr,.slice Ach D.length cch] 114)):=(qq8 _ _).alloc (ql6 _) _;have BG:=qrv wr 114 #[.int .i64 gr,.slice Ach D.length cch];have B2:=B.below ha B.lt;have b2:=qr0 b ha;obtain⟨y0,y1,y2⟩:=zar B2;obtain⟨z0,z1⟩:=zb6 BG;clear B b ha;by_cases h1:gr<1
    ·have hM:=qrf (NR.out (.inl h1))
     clear NR EN;go_wp2
     go_ret
     exact⟨by rw[hM.out];rfl,b2⟩
    by_cases h2:65536-rows<gr
    ·have hM:=qrf (NR.out (.inr (.inl h2)))
     clear NR EN;go_wp2
     go_ret
     exact⟨by rw[hM.out];rfl,b2⟩
    by_cases h3:D.length=L.length
    ·have t3:((D.length:Int) != (L.length:Int))=false:=by simp;omega
     have hE:=EN.out (by omega) (by omega) h3;have HE:=qrf hE;have hDL:D.length<=L.length:=by omega
     have H3:=qrf h3;clear NR EN hE h3;go_wp2_with fail
     clear y0 y1 y2 z0 z1 d0 d1 t3;generalize wr.heap.size=gB at*;go_loopw [4,48] (fun s i wr=>∃(c:Nat) (sz:Int),c<=D.length/\i= .int .i64 (c:Int)/\s= .int .i64 sz/\Hid (ChunkTo L GP k c (rows+gr) sz)/\(0<=sz/\sz<=1073741824)
      /\Blk wr w.heap.size 79 #[.slice Ac L.length cc,.int .i64 r,.slice (some ad) G.length cg]/\Blk wr gB 114 #[.int .i64 gr,.slice Ach D.length cch]/\New w wr) (fun _ i _=>D.length-(intOf i).toNat)
     case atStart=>exact⟨0,size,ql7 _,rfl,rfl,HE,hsz,B2,BG,b2⟩
     case round=>
      obtain⟨c,sz,hc,rfl,rfl,H,hsz2,B,BGq,bq⟩:=hrel;clear HE B2 BG b2;by_cases hlc:c<D.length
      ·have hcL:c<L.length:=by omega
       obtain⟨ac,rfl,hbc,e0⟩:=(qsg HCHk.out bq).ch1 hlc;obtain⟨al,rfl,hbl,-⟩:=(qsg HL.out bq).colT hcL;have hxm:=zax chZ hlc;have hpx:=HPGk.out _ hxm;have hsx:=HPPk.out _ hxm;have hm2:=HM2.out c hlc;have NC:=qrf (fun hb=>HN.out (H.out.no_chunk (r:=r) HLTP.out (by rw[HL2.out];exact hlc) hb));have NX:=qrf (fun h1 h2=>H.out.next (by rw[HL2.out];exact hlc) h1 h2);rw[hm2,HG1.out] at NC NX;have FC:=qrf (fun(W:World) (hW:New w W)=>show(W.cell? (al.add (c*3))=some (.string (zai (L.getD c zf5).1))/\W.cell? ⟨(al.add (c*3)).block,(al.add (c*3)).off+1,none⟩=some (.int .i64 (L.getD c zf5).2.1)/\W.cell? ⟨(al.add (c*3)).block,(al.add (c*3)).off+2,none⟩=some (.bool (L.getD c zf5).2.2)) from by obtain⟨al',e,_,f⟩:=(qsg HL.out hW).colT hcL;injection e with e;subst e;exact f)
       generalize D.getD c chZ=x at*;obtain⟨Ax,cx,pl⟩:=x;dsimp only at e0 hpx hsx NC NX;have CSZ:=fun(W:World) (hW:New w W)=>zt1 (c:=L.getD c zf5) (cap:=cx) (rows:=gr) (qsg hpx.1 hW) hsx hpx.2 (by omega)
       have hiff:=zr1 (t:=(L.getD c zf5).2.1) (nu:=(L.getD c zf5).2.2) pl gr 0 (by omega);have hbd:=zng (t:=(L.getD c zf5).2.1) (nu:=(L.getD c zf5).2.2) pl gr 0 (by omega) (by omega);generalize L.getD c zf5=col at*;obtain⟨nm,t,nu⟩:=col;dsimp only at hiff hbd NC NX CSZ;unfold zt0 at CSZ;generalize zfb t nu pl gr 0=S at*;obtain⟨sn,so⟩:=S;dsimp only at hiff hbd CSZ;have CSZ:Hid (∀W,New w W->Calls Tryz.prog 110 #[.agg #[.string (zai nm),.int .i64 t,.bool nu],.slice Ax pl.length cx,.int .i64 gr] W (fun e w'=>e= .returned (.tuple #[.int .i64 sn,.bool so])/\New W w')):=qrf CSZ;have HIF:=qrf hiff;clear hiff hpx hsx hm2 hxm hbc hbl H;obtain⟨y0,y1,y2⟩:=zar B;obtain⟨z0,z1⟩:=zb6 BGq;dsimp only at FC;go_wp2_with fail
       refine zaw New [(true,0),(true,1),(true,2),(true,3),(true,4),(true,5),(true,6),(true,7),(false,8),(true,9),(true,10),(true,11),(true,12),(true,13)]
        qrz qr0 (by kernel_rfl) (by kernel_rfl) (by kernel_rfl) (by kernel_rfl) ?_
       have F:=qrf (fun(W:World) (hW:New wr W)=>qok (B.below hW B.lt) (BGq.below hW BGq.lt));have hU:=qr1 wr;clear y0 y1 y2 z0 z1 e0;repeat(first
        |(refine zaj rfl rfl (v:=?_) (fun W hQ=>?_) ?_;rotate_left;(obtain⟨f0,f1,f2⟩:=FC.out W (qr0 bq (qr0 hU hQ));obtain⟨F1,F2⟩:=F.out W (qr0 hU hQ);obtain⟨y0,y1,y2⟩:=zar F1;obtain⟨z0,z1⟩:=zb6 F2;clear F1 F2;go_simp<;> with_reducible rfl);simp only[Act.put,qoi,qn8,qoj]))
       refine za6 rfl rfl (fun K0 hK0=>?_);go_simp
       (with_reducible refine(CSZ.out _ (qr0 bq hU)).mono ?_)
       rintro e u ⟨rfl,bu⟩;refine hK0 _ _ bu ?_;replace hU:=qr0 hU bu;clear hK0 bu;repeat(first
        |(refine zaj rfl rfl (v:=?_) (fun W hQ=>?_) ?_;rotate_left;(go_simp<;> with_reducible rfl);simp only[Act.put,qoi,qn8,qoj]))
       refine zda ?_;obtain⟨B3,BG3⟩:=F.out _ hU;have b3:=qr0 bq hU;clear F FC CSZ hU B BGq bq;cases so with
       |false=>
        have hM:=qrf (NC.out (.inl (fun hh=>by have:=HIF.out.1.2 hh;simp at this)));clear NC NX HIF;go_wp2
        go_ret
        exact⟨by rw[hM.out];rfl,b3⟩
       |true=>
        have hco:=HIF.out.1.1 (by trivial);have hsn:=HIF.out.2 hco;rw[Int.zero_add] at hsn;by_cases hbig:1073741824<sz+sn
        ·have hM:=qrf (NC.out (.inr (by rw[<-hsn];exact hbig)))
         clear NC NX HIF hco hsn;go_wp2
         go_ret
         exact⟨by rw[hM.out];rfl,b3⟩
        ·have hN:=qrf (NX.out hco (by rw[<-hsn];omega))
         rw[<-hsn] at hN;clear NC NX HIF hco hsn;go_wp2
         go_roundw
         case rel=>exact⟨c+1,sz+sn,by omega,by go_num,rfl,hN,by omega,B3,BG3,b3⟩
         case measure=>simp[intOf];omega
      ·obtain rfl:c=D.length:=by omega
       have hLv:=qrf (H.out.leave (by rw[HL2.out]) HLTP.out);have hrr:=H.out.most;rw[HG1.out] at hrr;clear H;go_wp2
       go_roundw
       case rel=>exact⟨k+1,rows+gr,sz,by omega,by go_num,rfl,rfl,hLv,by omega,hsz2,B,bq⟩
       case measure=>simp[intOf];omega
    ·have t3:((D.length:Int) != (L.length:Int))=true:=by simp;omega
     have hM:=qrf (NR.out (.inr (.inr h3)));clear NR EN h3;go_wp2
     go_ret
     exact⟨by rw[hM.out];rfl,b2⟩
   ·obtain rfl:k=G.length:=by omega
    have hY:=H.out;rw[<-HLen.out] at hY;have hY:=hY.yes (r:=r) HCO.out;obtain⟨x0,x1,x2⟩:=zar B;by_cases he:rows=r
    ·have hM:=qrf (HY.out (hY.2 he))
     have t1:(rows==r)=true:=by simpa using he
     clear hY HY HN H he;go_wp2
     go_ret
     exact⟨by rw[hM.out];rfl,b⟩
    ·have hM:=qrf (HN.out (fun hF=>he (hY.1 hF)))
     have t1:(rows==r)=false:=by simpa using he
     clear hY HY HN H he;go_wp2
     go_ret
     exact⟨by rw[hM.out];rfl,b⟩
 ·have hM:=qrf (HN.out (fun hF=>hk0 (hck.2 hF.1)))
  have t1:(zc7 L != 0)=true:=by simpa using hk0
  clear HY HN hck hk0;generalize zc7 L=ck at*;go_wp2
  go_ret
  exact⟨by rw[hM.out];rfl,b01⟩
end Go.Proofs.Y
namespace Go.Hm
open Go Go.RowKit
def inB(nl ng:Nat)(g c:Int):Bool:=decide (0<=g/\g<(ng:Int)/\0<=c/\c<(nl:Int))
def za0(G:List za9)(g c:Nat):List zbc:=(G.getD g zaq).2.getD c []
theorem zc5{F:FootS}(h:zb0 F){k:Nat}(hk:k<F.groups.length):GroupOk F.cols (F.groups.getD k zaq):=h.2.1 _ (zax zaq hk)
end Go.Hm
namespace Go.Proofs.Y
open Go.RowKit Go.Hm
theorem znh{w:World}{Ac Ag:Option Addr}{nl cc ng cg:Nat}{r g c:Int}:
 Calls Tryz.prog 101 #[.agg #[.slice Ac nl cc,.int .i64 r,.slice Ag ng cg],.int .i64 g,.int .i64 c] w (zak (.bool (inB nl ng g c)) w):=by
 have B0:=qrv w 79 #[.slice Ac nl cc,.int .i64 r,.slice Ag ng cg];have b0:New w (w.alloc (.cells #[.slice Ac nl cc,.int .i64 r,.slice Ag ng cg] 79)):=(qq8 _ _).alloc (ql6 _) _;obtain⟨x0,x1,x2⟩:=zar B0;obtain⟨R,hR⟩:∃R,R=inB nl ng g c:=⟨_,rfl⟩;rw[<-hR];unfold inB at hR;by_cases h1:0<=g<;> by_cases h2:g<(ng:Int)<;> by_cases h3:0<=c<;> by_cases h4:c<(nl:Int);all_goals
  first
   |(have e:R=true:=by rw[hR];simp;omega)
   |(have e:R=false:=by rw[hR];simp;omega)
  subst e;clear hR;go_enter Tryz.func101,Tryz.ntmps101
  go_wp2
  all_goals
   first
    |(exfalso;omega)
    |(go_ret;exact⟨rfl,b0⟩)
theorem z8u{nl ng:Nat}{g c:Int}(h:inB nl ng g c=true):∃gk ck:Nat,g=(gk:Int)/\c=(ck:Int)/\gk<ng/\ck<nl:=by unfold inB at h;simp only[decide_eq_true_eq] at h;exact⟨g.toNat,c.toNat,by omega,by omega,by omega,by omega⟩
theorem zjo{F:FootS}(h:zb0 F){k c:Nat}(hk:k<F.groups.length)(hc:c<F.cols.length):zes (F.cols.getD c zf5).2.1 (F.cols.getD c zf5).2.2 (za0 F.groups k c) (F.groups.getD k zaq).1/\(F.groups.getD k zaq).2.length=F.cols.length:=by have:=zc5 h hk;exact⟨this.2.2 c hc,this.2.1⟩
end Go.Proofs.Y
