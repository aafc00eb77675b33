/- Merged. -/
import Derived.Deep.AppendLies
import Derived.Laws.CopyOwn
import Derived.Lib.Hide
import Derived.ProofKit
import Derived.WalkLawsBesides
import Derived.WalkSpells
set_option maxHeartbeats 200000
namespace Go
theorem Hz {p : Prop} (h : p) : Go.RowKit.Hid p := Go.Lib.hid h
abbrev qmg:=@List.cons.injEq
abbrev qmh:=@Option.some.inj
abbrev qmi:=@Prod.mk.injEq
abbrev qmj:=@Option.some.injEq
abbrev qmk:=@Nat.add_assoc
abbrev qml:=@Nat.le_trans
abbrev qmm:=@List.getElem?_eq_getElem
abbrev qmn:=@List.mem_map
abbrev qmo:=@Nat.lt_of_lt_of_le
abbrev qmp:=@List.length_drop
abbrev qmq:=@List.length_take
abbrev qmr:=@Nat.min_eq_left
abbrev qms:=@Nat.mul_le_mul_right
abbrev qmt:=@Nat.le_refl
abbrev qmu:=@Nat.zero_le
abbrev qmv:=@Array.getElem?_eq_some_iff
abbrev qmw:=@List.length_set
abbrev qmx:=@Nat.lt_or_ge
abbrev qmy:=@Array.getElem?_eq_none
abbrev qmz:=@Array.getElem?_modify
abbrev qm0:=@Nat.mul_one
abbrev qm1:=@Array.length_toList
abbrev qm2:=@List.drop_eq_nil_of_le
abbrev qm3:=@List.append_nil
abbrev qm4:=@List.drop_eq_getElem_cons
abbrev qm5:=@List.append_assoc
abbrev qm6:=@Bool.eq_iff_iff
abbrev qm7:=@List.ext_getElem
abbrev qm8:=@List.getElem_mem
abbrev qm9:=@Nat.eq_zero_or_pos
abbrev qna:=@List.eq_nil_of_length_eq_zero
abbrev qnb:=@List.map_toArray
abbrev qnc:=@List.map_cons
abbrev qnd:=@List.map_nil
abbrev qne:=@Nat.mul_comm
abbrev qnf:=@Int.natCast_mul
abbrev qng:=@Int.toNat_natCast
abbrev qnh:=@List.mem_of_mem_take
abbrev qni:=@List.length_append
abbrev qnj:=@List.take_zero
abbrev qnk:=@List.nil_append
abbrev qnl:=@Nat.zero_add
abbrev qnm:=@List.size_toArray
abbrev qnn:=@List.take_of_length_le
abbrev qno:=@Nat.log2_self_le
abbrev qnp:=@Nat.lt_log2_self
abbrev qnq:=@Nat.pow_succ
abbrev qnr:=@Nat.pow_pos
abbrev qns:=@Nat.div_lt_of_lt_mul
abbrev qnt:=@List.cons_append
abbrev qnu:=@List.length_cons
abbrev qnv:=@Nat.mul_add
abbrev qnw:=@Nat.mul_left_comm
abbrev qnx:=@Nat.mod_one
abbrev qny:=@List.mem_append
abbrev qnz:=@List.mem_singleton
abbrev qn0:=@Nat.mod_lt
abbrev qn1:=@Nat.mod_eq_of_lt
abbrev qn2:=@Nat.div_le_self
abbrev qn3:=@Int.tmod_eq_emod_of_nonneg
abbrev qn4:=@Nat.pow_le_pow_right
abbrev qn5:=@Nat.or_comm
abbrev qn6:=@Nat.two_pow_add_eq_or_of_lt
abbrev qn7:=@Nat.add_comm
abbrev qn8:=@List.getElem_map
abbrev qn9:=@UInt8.toNat_ofNat'
abbrev qoa:=@List.getD_eq_getElem?_getD
abbrev qob:=@Option.getD_some
abbrev qoc:=@List.map_map
abbrev qod:=@List.map_congr_left
abbrev qoe:=@Bool.and_eq_true
abbrev qof:=@List.mem_cons
abbrev qog:=@Nat.two_pow_pos
abbrev qoh:=@Nat.lt_of_le_of_lt
abbrev qoi:=@Nat.pow_mul
abbrev qoj:=@List.getElem?_eq_none
abbrev qok:=@Nat.mul_lt_mul_of_pos_right
abbrev qol:=@Nat.pow_add
abbrev qom:=@Int.emod_eq_of_lt
abbrev qon:=@Int.eq_ofNat_of_zero_le
abbrev qoo:=@Nat.succ_mul
abbrev qop:=@Nat.add_mul
abbrev qoq:=@Nat.mul_assoc
abbrev qor:=@List.set_append_right
abbrev qos:=@Nat.sub_self
abbrev qot:=@List.replicate_succ
abbrev qou:=@List.set_cons_zero
abbrev qov:=@List.getElem?_append_left
abbrev qow:=@List.mem_replicate
abbrev qox:=@Array.getD_eq_getD_getElem?
abbrev qoy:=@Array.getElem?_setIfInBounds
abbrev qoz:=@Array.setIfInBounds_comm
abbrev qo0:=@Ne.symm
abbrev qo1:=@Array.getElem_mem
abbrev qo2:=@Array.size_setIfInBounds
abbrev qo3:=@Bool.or_eq_true
abbrev qo4:=@List.all_eq_true
abbrev qo5:=@Array.size_replicate
abbrev qo6:=@List.setIfInBounds_toArray
abbrev qo7:=@List.set_cons_succ
abbrev qo8:=@And.intro
abbrev qo9:=@List.length_replicate
abbrev qpa:=@List.mem_of_mem_drop
abbrev qpb:=@List.drop_append_of_le_length
abbrev qpc:=@List.drop_drop
abbrev qpd:=@Int.tdiv_eq_ediv_of_nonneg
abbrev qpe:=@List.mem_flatMap
abbrev qpf:=@List.getElem?_map
abbrev qpg:=@List.length_map
abbrev qph:=@List.length_range
abbrev qpi:=@List.mem_range
abbrev qpj:=@Nat.zero_mul
abbrev qpk:=@List.getElem?_append_right
abbrev qpl:=@List.take_append_drop
abbrev qpm:=@List.drop_left'
abbrev qpn:=@List.take_left'
abbrev qpo:=@Nat.eq_of_mul_eq_mul_right
abbrev qpp:=@List.getElem?_eq_some_iff
abbrev qpq:=@List.getElem_of_mem
abbrev qpr:=@Option.map_some
abbrev qps:=@Nat.mul_succ
abbrev qpt:=@Nat.mul_le_mul_left
abbrev qpu:=@Nat.add_mul_mod_self_left
abbrev qpv:=@Nat.div_div_eq_div_mul
abbrev qpw:=@Nat.add_mul_div_left
abbrev qpx:=@Nat.div_eq_of_lt
abbrev qpy:=@Nat.mod_mul_right_div_self
abbrev qpz:=@List.replicate_succ'
abbrev qp0:=@Nat.one_mul
abbrev qp1:=@List.flatMap_cons
abbrev qp2:=@List.sum_cons
abbrev qp3:=@List.length_nil
abbrev qp4:=@Nat.add_zero
abbrev qp5:=@List.sum_append
abbrev qp6:=@List.map_append
abbrev qp7:=@Bool.true_and
abbrev qp8:=@List.flatMap_append
abbrev qp9:=@List.flatten_append
abbrev qqa:=@Array.toList_map
abbrev qqb:=@Array.toList_range
abbrev qqc:=@List.range_succ
abbrev qqd:=@List.replicate_zero
abbrev qqe:=@List.drop_of_length_le
abbrev qqf:=@List.mem_cons_of_mem
abbrev qqg:=@List.not_mem_nil
abbrev qqh:=@Array.getElem?_eq_getElem
abbrev qqi:=@List.flatMap_nil
abbrev qqj:=@Nat.or_lt_two_pow
abbrev qqk:=@List.foldl_cons
abbrev qql:=@List.take_length
abbrev qqm:=@Int.mul_nonneg
abbrev qqn:=@Nat.mul_le_mul
abbrev qqo:=@Nat.pow_zero
abbrev qqp:=@List.length_singleton
abbrev qqq:=@List.getD_cons_succ
abbrev qqr:=@List.length_eq_zero_iff
abbrev qqs:=@List.idxOf_lt_length_iff
abbrev qqt:=@List.drop_zero
abbrev qqu:=@List.take_succ_cons
abbrev qqv:=@Bool.eq_false_iff
abbrev qqw:=@Option.isNone_some
abbrev qqx:=@Classical.byContradiction
abbrev qqy:=@List.takeWhile_cons
abbrev qqz:=@Nat.le_of_eq
abbrev qq0:=@List.flatten_cons
abbrev qq1:=@List.mem_flatten
abbrev qq2:=@List.take_add
abbrev qq3:=@List.drop_length
abbrev qq4:=@Nat.add_sub_cancel_left
abbrev qq5:=@Nat.mul_ne_zero
abbrev qq6:=@Nat.shiftLeft_eq
abbrev qq7:=@Int.natAbs_mul
abbrev qq8:=@Int.mul_neg_of_neg_of_pos
abbrev qq9:=@Nat.lt_succ_iff_lt_or_eq
abbrev qra:=@UInt8.le_antisymm
abbrev qrb:=@UInt8.not_lt
abbrev qrc:=@Bool.false_eq_true
abbrev qrd:=@List.mem_append_left
abbrev qre:=@List.mem_append_right
abbrev qrf:=@List.mem_filter
abbrev qrg:=@Decidable.not_not
abbrev qrh:=@List.length_zip
abbrev qri:=@List.foldl_append
abbrev qrj:=@List.flatten_nil
abbrev qrk:=@List.eq_of_mem_replicate
abbrev qrl:=@List.getElem?_replicate
abbrev qrm:=@Nat.le_max_left
abbrev qrn:=@Nat.le_max_right
abbrev qro:=@Array.getElem?_setIfInBounds_self_of_lt
abbrev qrp:=@List.drop_left
abbrev qrq:=@Nat.lt_succ_self
abbrev qrr:=@List.length_filter_lt_length_iff_exists
abbrev qrs:=@List.take_take
abbrev qrt:=@List.prefix_of_prefix_length_le
abbrev qru:=@List.prefix_append
abbrev qrv:=@List.prefix_append_right_inj
abbrev qrw:=@List.prefix_refl
abbrev qrx:=@Nat.le_of_lt
end Go
namespace Go.Hm
open Go.RowKit
theorem zai(a:Addr)(n:Nat):(a.add n).block=a.block:=by unfold Addr.add;split<;> rfl
theorem za3(a:Addr)(i j:Nat):(a.add i).add j=a.add (i+j):=by unfold Addr.add;by_cases hi:i=0<;> by_cases hj:j=0<;> simp[hi,hj,Nat.add_assoc]
theorem zel(a:Addr):a.add 0=a:=by unfold Addr.add;simp
theorem zbj{B g:Nat}{a w w':World}(h:Below B a w)(hg:w.grownBy w' (some g))(hB:B<=g)(hBw:B<=a.heap.size):Below B a w':=
 h.grown hg (qml hBw h.size) (fun k hk=>by injection hk with hk;omega)
theorem zg0{a b c:World}{B:Nat}(h:Below B a b)(k:Below b.heap.size b c)(hB:B<=a.heap.size):Below B a c:=h.trans (k.mono (qml hB h.size))
def zan(k:IntKind)(l:List Nat):List Value:=l.map fun n:Nat=>Value.int k (n:Int)
theorem zaa(k:IntKind)(l:List Nat):(zan k l).length=l.length:=by simp[zan]
theorem zdl(k:IntKind)(l m:List Nat):zan k (l++m)=zan k l++zan k m:=by simp[zan]
theorem qbl(k:IntKind)(n:Nat):zan k [n]=[.int k (n:Int)]:=rfl
theorem zd4(k:IntKind)(l:List Nat)(i:Nat):(zan k l).drop i=zan k (l.drop i):=by simp[zan]
theorem zem(k:IntKind)(l:List Nat)(i:Nat):(zan k l).take i=zan k (l.take i):=by simp[zan]
theorem zxp(k:IntKind)(l:List Nat)(i:Nat)(h:i<l.length):(zan k l)[i]? =some (.int k ((l.getD i 0:Nat):Int)):=by simp[zan,List.getElem?_eq_getElem h]
theorem zci(k:IntKind)(l:List Nat):∀u∈zan k l,u.oneCell'=true:=by intro u hu;simp only[zan,qmn] at hu;obtain⟨z,_,rfl⟩:=hu;rfl
theorem zb1(k:IntKind)(n x:Nat):zan k (List.replicate n x)=List.replicate n (.int k (x:Int)):=by simp[zan]
theorem qbm(k:IntKind)(l:List Nat)(i x:Nat):(zan k l).set i (.int k (x:Int))=zan k (l.set i x):=by simp[zan]
def za7(k:IntKind)(l:List Int):List Value:=l.map (Value.int k)
theorem zhn(k:IntKind)(l:List Int):(za7 k l).length=l.length:=by simp[za7]
theorem zn9(k:IntKind)(l:List Int)(i:Nat)(h:i<l.length):(za7 k l)[i]? =some (.int k (l.getD i 0)):=by simp[za7,List.getElem?_eq_getElem h]
def Reads(w:World)(B size:Nat)(A:Option Addr)(n:Nat)(xs:List Value):Prop:=
 xs.length=n*size/\(0<n-> ∃ad,A=some ad/\ad.block<B/\ ∀j u,xs[j]? =some u->w.cell? (ad.add j)=some u)
section
variable{w w':World}{B B' size n:Nat}{A:Option Addr}{xs:List Value}
theorem Reads.none_:Reads w B size A 0 []:=⟨by simp,fun h=>absurd h (by omega)⟩
theorem Reads.at_{k:Nat}(h:Reads w B 1 A n xs)(hk:k<n):∃ad u,A=some ad/\ad.block<B/\xs[k]? =some u/\w.cell? (ad.add k)=some u:=by
 obtain⟨ad,e,hb,hc⟩:=h.2 (by omega);have hl:k<xs.length:=by have:=h.1;omega
 exact⟨ad,xs[k],e,hb,qmm hl,hc k _ (qmm hl)⟩
theorem Reads.keep(h:Reads w B size A n xs)(hk:∀p:Addr,p.block<B->w'.cell? p=w.cell? p):Reads w' B size A n xs:=
 ⟨h.1,fun hn=>by obtain⟨ad,e,hb,hc⟩:=h.2 hn;exact⟨ad,e,hb,fun j u hu=>(hk _ (by rw[zai];exact hb)).trans (hc j u hu)⟩⟩
theorem Reads.more(h:Reads w B size A n xs)(hB:B<=B'):Reads w B' size A n xs:=
 ⟨h.1,fun hn=>by obtain⟨ad,e,hb,hc⟩:=h.2 hn;exact⟨ad,e,by omega,hc⟩⟩
theorem Reads.below(h:Reads w B size A n xs)(hb:Below B w w'):Reads w' B size A n xs:=h.keep fun _ hp=>hb.cell hp
theorem Reads.drew(h:Reads w B size A n xs):Reads w.drew B size A n xs:=h
theorem Reads.drewN(h:Reads w B size A n xs)(k:Nat):Reads (w.drewN k) B size A n xs:=h
theorem Reads.alloc(h:Reads w B size A n xs)(hB:B<=w.heap.size)(o:Obj):Reads (w.alloc o) B size A n xs:=h.keep fun p hp=>World.cell?_alloc_lt w o p (by omega)
theorem Reads.setCell(h:Reads w B size A n xs){p:Addr}(hB:B<=p.block)(u:Value):Reads (w.setCell p u) B size A n xs:=
 h.keep fun q hq=>World.cell?_setCell_other w p q u (fun e=>by subst e;omega)
theorem Reads.grown(h:Reads w B size A n xs){row:Option Nat}(hg:w.grownBy w' row)(hB:B<=w.heap.size)(hr:∀g,row=some g->B<=g):Reads w' B size A n xs:=
 h.keep fun p hp=>World.cell?_of_block (hg.block p.block (by omega) (fun e=>by have:=hr _ e.symm;omega))
theorem Reads.grown_far(h:Reads w w.heap.size size A n xs){row:Option Nat}(hg:w.grownBy w' row)(hne:∀ad g,A=some ad->row=some g->ad.block≠g):Reads w' w'.heap.size size A n xs:=
 ⟨h.1,fun hn=>by obtain⟨ad,e,hb,hc⟩:=h.2 hn;refine⟨ad,e,qmo hb hg.size,fun j u hu=>?_⟩;rw[World.cell?_of_block (hg.block (ad.add j).block (by rw[zai];exact hb) (fun e'=>hne _ _ e e'.symm (zai _ _).symm))];exact hc j u hu⟩
theorem Reads.cut(h:Reads w B size A n xs){k cap:Nat}(hk:k<=n)(hc:n<=cap):
 Reads w B size (if cap=k then A else A.map (·.add (k*size))) (n-k) (xs.drop (k*size)):=by
 refine⟨by rw[qmp,h.1,Nat.sub_mul],fun hn=>?_⟩;obtain⟨ad,rfl,hb,hcell⟩:=h.2 (by omega);rw[if_neg (by omega)];refine⟨ad.add (k*size),rfl,by rw[zai];exact hb,fun j u hu=>?_⟩;rw[za3];exact hcell _ u (by rw[<-hu,List.getElem?_drop])
theorem Reads.take(h:Reads w B size A n xs){k:Nat}(hk:k<=n):Reads w B size A k (xs.take (k*size)):=by
 refine⟨by rw[qmq,h.1,qmr (qms _ hk)],fun hn=>?_⟩;obtain⟨ad,rfl,hb,hcell⟩:=h.2 (by omega);refine⟨ad,rfl,hb,fun j u hu=>hcell j u ?_⟩;rw[List.getElem?_take] at hu;split at hu
 ·exact hu
 ·cases hu
theorem Reads.of_own{base:Nat}{e:TypeId}{c:Nat}(h:w.ownsRow base e size (.slice A n c) n xs):Reads w w.heap.size size A n xs:=by
 refine⟨h.1,fun hn=>?_⟩;obtain⟨g,cap,hv,_,hlt⟩:=h.form hn;have hA:A=some ⟨g,0,none⟩:=by injection hv
 subst hA;exact⟨_,rfl,hlt,h.cells (g:=g) rfl⟩
theorem Reads.len{k:IntKind}{l:List Nat}(h:Reads w B 1 A n (zan k l)):n=l.length:=by have:=h.1;rw[zaa] at this;omega
theorem Reads.lenI{k:IntKind}{l:List Int}(h:Reads w B 1 A n (za7 k l)):n=l.length:=by have:=h.1;rw[zhn] at this;omega
theorem Reads.int{k:IntKind}{l:List Int}{i:Nat}(h:Reads w B 1 A n (za7 k l))(hi:i<n):∃ad,A=some ad/\ad.block<B/\w.cell? (ad.add i)=some (.int k (l.getD i 0)):=by
 obtain⟨ad,u,e,hb,hu,hc⟩:=h.at_ hi;have hl:i<l.length:=by have:=h.lenI;omega
 rw[zn9 k l i hl] at hu;injection hu with hu;subst hu;exact⟨ad,e,hb,hc⟩
theorem Reads.num{k:IntKind}{l:List Nat}{i:Nat}(h:Reads w B 1 A n (zan k l))(hi:i<n):∃ad,A=some ad/\ad.block<B/\w.cell? (ad.add i)=some (.int k ((l.getD i 0:Nat):Int)):=by
 obtain⟨ad,u,e,hb,hu,hc⟩:=h.at_ hi;have hl:i<l.length:=by have:=h.1;rw[zaa] at this;omega
 rw[zxp k l i hl] at hu;injection hu with hu;subst hu;exact⟨ad,e,hb,hc⟩
end
def Own(w:World)(base:Nat)(e:TypeId)(v:Value)(xs:List Value):Prop:=w.ownsRow base e 1 v xs.length xs
section
variable{w w':World}{base:Nat}{e:TypeId}{v:Value}{xs:List Value}
theorem Own.nil_:Own w base e (.slice none 0 0) []:=World.ownsRow_nil w base e 1
theorem Own.empty(w:World)(e:TypeId):Own (w.alloc (.cells #[] e)) w.heap.size e (.slice (some ⟨w.heap.size,0,none⟩) 0 0) []:=
 World.ownsRow_made w #[] 0 (qmt _) (qmu _) rfl
theorem Own.slice(h:Own w base e v xs):∃A c,v= .slice A xs.length c/\xs.length<=c/\c<=maxLen:=by
 rcases h.2 with⟨hv,hn⟩|⟨g,cap,cur,hv,_,_,hc,hm,_⟩
 ·exact⟨none,0,by rw[hv,hn],by omega,by simp[maxLen]⟩
 ·exact⟨_,_,hv,hc,hm⟩
theorem Own.reads{A:Option Addr}{n c:Nat}(h:Own w base e (.slice A n c) xs):Reads w w.heap.size 1 A n xs:=by
 have hn:n=xs.length:=by obtain⟨A',c',hv,_⟩:=h.slice;injection hv
 subst hn;exact Reads.of_own h
theorem Own.len{A:Option Addr}{n c:Nat}(h:Own w base e (.slice A n c) xs):n=xs.length:=by obtain⟨A',c',hv,_⟩:=h.slice;injection hv
theorem Own.cap{A:Option Addr}{n c:Nat}(h:Own w base e (.slice A n c) xs):n<=c/\c<=maxLen:=by obtain⟨A',c',hv,h1,h2⟩:=h.slice;injection hv with _ e1 e2;subst e1 e2;exact⟨h1,h2⟩
theorem Own.kept{row:Option Nat}(h:Own w base e v xs)(hg:w.grownBy w' row)(hne:v.ownBlock=none\/v.ownBlock≠row):Own w' base e v xs:=World.ownsRow.kept h hg hne
theorem Own.lt(h:Own w base e v xs):∀k,v.ownBlock=some k->base<=k/\k<w.heap.size:=World.ownsRow.lt h
theorem Own.below{B:Nat}(h:Own w base e v xs)(hb:Below B w w')(hB:w.heap.size<=B):Own w' base e v xs:=by
 refine⟨h.1,?_⟩;rcases h.2 with hn|⟨g,cap,cur,rfl,hbg,hgg,rest⟩
 ·exact .inl hn
 ·refine .inr ⟨g,cap,cur,rfl,hbg,?_,rest⟩
  rw[hb.block g (qmo (qmv.1 hgg).1 hB)];exact hgg
theorem Own.base_le{b':Nat}(h:Own w base e v xs)(hb:b'<=base):Own w b' e v xs:=by
 refine⟨h.1,?_⟩;rcases h.2 with hn|⟨g,cap,cur,hv,hbg,rest⟩
 ·exact .inl hn
 ·exact .inr ⟨g,cap,cur,hv,qml hb hbg,rest⟩
theorem Own.alloc(h:Own w base e v xs)(o:Obj):Own (w.alloc o) base e v xs:=World.ownsRow.alloc h o
theorem Own.drewN(h:Own w base e v xs)(k:Nat):Own (w.drewN k) base e v xs:=h
theorem Own.frozen{A:Addr}{n c:Nat}(h:Own w base e (.slice (some A) n c) xs)(j:Nat):w.frozen? (A.add j)=false:=by
 rcases h.2 with⟨hv,_⟩|⟨g,cap,cur,hv,_,hgg,_⟩
 ·cases hv
 ·injection hv with e1 _ _
  injection e1 with e1;subst e1;have hf:((⟨g,0,none⟩:Addr).add j).block=g:=zai _ _;unfold World.frozen?;rw[hf,hgg];simp
end
theorem Own.at_{w:World}{base:Nat}{e:TypeId}{A:Option Addr}{n c i:Nat}{xs:List Value}(h:Own w base e (.slice A n c) xs)(hi:i<n):
 ∃g u,A=some ⟨g,0,none⟩/\base<=g/\g<w.heap.size/\xs[i]? =some u/\w.cell? ⟨g,i,none⟩=some u/\w.frozen? ⟨g,i,none⟩=false/\
  ∀u':Value,Own (w.setCell ⟨g,i,none⟩ u') base e (.slice A n c) (xs.set i u'):=by
 have hn:=h.len;obtain⟨g,cap,hv,hbg,hlt⟩:=World.ownsRow.form h (by omega);have hA:A=some ⟨g,0,none⟩:=by injection hv
 subst hA;have hx:i<xs.length:=by omega
 have h':w.ownsRow base e 1 (.slice (some ⟨g,0,none⟩) n c) n xs:=by rw[hn] at h⊢;exact h
 refine⟨g,xs[i],rfl,hbg,hlt,qmm hx,?_,h'.frozenAt i,fun u'=>?_⟩
 ·rw[h'.cellAt i (by omega),qmm hx]
 ·have:=(h'.stored i u').1
  unfold Own;rw[qmw,<-hn];exact this
def Blk(w:World)(g:Nat)(t:TypeId)(cs:Array Value):Prop:=w.heap[g]? =some (.cells cs t (0,0))
section
variable{w w':World}{g:Nat}{t:TypeId}{cs:Array Value}
theorem Blk.lt(h:Blk w g t cs):g<w.heap.size:=by
 rcases qmx g w.heap.size with hlt|hge
 ·exact hlt
 ·unfold Blk at h;rw[qmy hge] at h;cases h
theorem Blk.cell(h:Blk w g t cs)(i:Nat):w.cell? ⟨g,i,none⟩=cs[i]? :=cell_of_row w g i cs t (0,0) h
theorem Blk.frozen(h:Blk w g t cs)(i:Nat):w.frozen? ⟨g,i,none⟩=false:=by unfold Blk at h;simp[World.frozen?,h]
theorem Blk.new(w:World)(t:TypeId)(cs:Array Value):Blk (w.alloc (.cells cs t)) w.heap.size t cs:=heap_alloc_new w _
theorem Blk.drew(h:Blk w g t cs):Blk w.drew g t cs:=h
theorem Blk.drewN(h:Blk w g t cs)(n:Nat):Blk (w.drewN n) g t cs:=h
theorem Blk.alloc(h:Blk w g t cs)(o:Obj):Blk (w.alloc o) g t cs:=(Below.heap_alloc w o g h.lt).trans h
theorem Blk.set_(h:Blk w g t cs)(i:Nat)(u:Value):Blk (w.setCell ⟨g,i,none⟩ u) g t (cs.setIfInBounds i u):=by unfold Blk at h⊢;simp[World.setCell,Array.getElem?_modify,h]
theorem Blk.far(h:Blk w g t cs){p:Addr}(hp:g≠p.block)(u:Value):Blk (w.setCell p u) g t cs:=(Below.heap_setCell w p u g hp).trans h
theorem Blk.below{B:Nat}(h:Blk w g t cs)(hb:Below B w w')(hg:g<B):Blk w' g t cs:=(hb.block g hg).trans h
theorem Blk.grown{row:Option Nat}(h:Blk w g t cs)(hb:w.grownBy w' row)(hg:some g≠row):Blk w' g t cs:=(hb.block g h.lt hg).trans h
theorem Blk.ne_{g':Nat}{t':TypeId}{cs':Array Value}(h:Blk w g t cs)(h':Blk w g' t' cs')(hne:t≠t'):g≠g':=by rintro rfl;unfold Blk at h h';rw[h] at h';injection h' with h';injection h' with _ ht;exact hne ht
theorem Own.blk_ne{base:Nat}{e:TypeId}{v:Value}{xs:List Value}(h:Own w base e v xs)(hg:Blk w g t cs)(hne:e≠t):v.ownBlock≠some g:=by
 rcases h.2 with⟨rfl,_⟩|⟨g',cap,cur,rfl,_,hh,_⟩
 ·simp[Value.ownBlock]
 ·intro he
  have:g'=g:=by simpa[Value.ownBlock] using he
  subst this;exact Blk.ne_ (t:=e) hh hg hne rfl
theorem Own.keepT{base:Nat}{e:TypeId}{v:Value}{xs:List Value}(h:Own w base e v xs)(hg:w.grownBy w' (some g))(hT:Blk w g t cs)(hne:e≠t):Own w' base e v xs:=h.kept hg (.inr (h.blk_ne hT hne))
end
def TR(w:World)(e:TypeId)(A:Option Addr)(n:Nat)(xs:List Value):Prop:=Reads w w.heap.size 1 A n xs/\(0<n-> ∀ad,A=some ad-> ∃cs,Blk w ad.block e cs)
section
variable{w w':World}{e:TypeId}{n:Nat}{A:Option Addr}{xs:List Value}
theorem TR.nil_:TR w e A 0 []:=⟨⟨by simp,fun h=>absurd h (by omega)⟩,fun h=>absurd h (by omega)⟩
theorem TR.keep{g:Nat}{t:TypeId}{cs:Array Value}(h:TR w e A n xs)(hg:w.grownBy w' (some g))(hT:Blk w g t cs)(hne:e≠t):TR w' e A n xs:=by
 refine⟨⟨h.1.1,fun hn=>?_⟩,fun hn ad ha=>?_⟩
 ·obtain⟨ad,e1,hb,hc⟩:=h.1.2 hn
  obtain⟨cs',hB⟩:=h.2 hn ad e1;have hng:ad.block≠g:=Blk.ne_ hB hT hne;refine⟨ad,e1,qmo hb hg.size,fun j u hu=>?_⟩;rw[World.cell?_of_block (hg.block (ad.add j).block (by rw[zai];exact hb) (by rw[zai];simpa using hng))];exact hc j u hu
 ·obtain⟨cs',hB⟩:=h.2 hn ad ha
  exact⟨cs',hB.grown hg (by simpa using Blk.ne_ hB hT hne)⟩
theorem TR.below(h:TR w e A n xs)(hb:Below w.heap.size w w'):TR w' e A n xs:=
 ⟨(h.1.below hb).more hb.size,fun hn ad ha=>by
   obtain⟨cs',hB⟩:=h.2 hn ad ha;exact⟨cs',hB.below hb hB.lt⟩⟩
theorem TR.grown{row:Option Nat}(h:TR w e A n xs)(hg:w.grownBy w' row)(hne:∀ad g,A=some ad->row=some g->ad.block≠g):TR w' e A n xs:=
 ⟨h.1.grown_far hg hne,fun hn ad ha=>by obtain⟨cs',hB⟩:=h.2 hn ad ha;exact⟨cs',hB.grown hg (fun e'=>hne _ _ ha e'.symm rfl)⟩⟩
theorem TR.drewN(h:TR w e A n xs)(k:Nat):TR (w.drewN k) e A n xs:=h
theorem TR.alloc(h:TR w e A n xs)(o:Obj):TR (w.alloc o) e A n xs:=h.below ((Below.refl _ _).alloc (qmt _) o)
theorem TR.cut(h:TR w e A n xs){k cap:Nat}(hk:k<=n)(hc:n<=cap):TR w e (if cap=k then A else A.map (·.add k)) (n-k) (xs.drop k):=by
 have h1:=h.1.cut hk hc;rw[qm0] at h1;refine⟨h1,fun hn ad ha=>?_⟩;rw[if_neg (by omega)] at ha;rcases A with _|a
 ·cases ha
 ·injection ha with ha
  subst ha;obtain⟨cs',hB⟩:=h.2 (by omega) a rfl;exact⟨cs',by simpa[zai] using hB⟩
theorem TR.take(h:TR w e A n xs){k:Nat}(hk:k<=n):TR w e A k (xs.take k):=by have h1:=h.1.take hk;rw[qm0] at h1;exact⟨h1,fun hn ad ha=>h.2 (by omega) ad ha⟩
theorem TR.of_own{base:Nat}{c:Nat}(h:Own w base e (.slice A n c) xs):TR w e A n xs:=by
 refine⟨h.reads,fun hn ad ha=>?_⟩;rcases h.2 with⟨hv,hx⟩|⟨g,cap,cur,hv,_,hh,_⟩
 ·injection hv with e1 e2 _
  omega
 ·injection hv with e1 _ _
  rw[ha] at e1;injection e1 with e1;subst e1;exact⟨cur,hh⟩
end
def zae(l:List Nat):ByteArray:=⟨(l.map UInt8.ofNat).toArray⟩
theorem zbt(l:List Nat):(zae l).size=l.length:=by show(zae l).data.size=_;simp[zae]
theorem qge(b:ByteArray):∀(k i:Nat) (r:List UInt8),b.size-i=k->ByteArray.toList.loop b i r=r.reverse++b.data.toList.drop i:=by
 intro k;induction k with
 |zero=>
  intro i r h;rw[ByteArray.toList.loop];have hs:b.data.toList.length<=i:=by rw[qm1];show b.size<=i;omega
  rw[if_neg (by omega),qm2 hs,qm3]
 |succ k ih=>
  intro i r h;rw[ByteArray.toList.loop,if_pos (by omega),ih _ _ (by omega)];have hs:i<b.data.toList.length:=by rw[qm1];show i<b.size;omega
  rw[qm4 hs,List.reverse_cons,qm5];congr 1
  simp only[List.singleton_append,qmg,and_true];have hi:i<b.data.size:=by rw[<-qm1];exact hs
  show b.data[i]! =_;rw[getElem!_pos b.data i hi];rfl
theorem z5o(b:ByteArray):b.toList=b.data.toList:=by rw[ByteArray.toList,qge b b.size 0 [] (by omega)];simp
theorem zj1(l:List Nat):(zae l).toList=l.map UInt8.ofNat:=by rw[z5o];rfl
theorem zkl{l m:List Nat}(hl:∀x∈l,x<256)(hm:∀x∈m,x<256):((zae l).toList==(zae m).toList)=decide (l=m):=by
 rw[zj1,zj1,qm6];simp only[beq_iff_eq,decide_eq_true_eq];constructor
 ·intro h
  refine qm7 (by simpa using congrArg List.length h) fun i h1 h2=>?_
  have:=congrArg (fun l=>(l[i]?).map UInt8.toNat) h;simp[List.getElem?_eq_getElem h1,List.getElem?_eq_getElem h2] at this;have a1:=hl _ (qm8 h1);have a2:=hm _ (qm8 h2);omega
 ·rintro rfl;rfl
theorem qgf{P:Program}{w:World}{src dst e:TypeId}(hs:P.underlying src=some (.slice e))(he:P.underlying e=some (.int .u8))(hd:P.underlying dst=some .string){B n c:Nat}{A:Option Addr}{l:List Nat}
 (h:Reads w B 1 A n (zan .u8 l)):(convert src dst (.slice A n c)).run P w= .ok (.string (zae l)) w:=by
 obtain rfl:=h.len;rcases A with _|ad
 ·have hl0:l.length=0:=by
   rcases qm9 l.length with h0|h0
   ·exact h0
   ·obtain⟨ad,h',_⟩:=h.2 h0
    cases h'
  obtain rfl:l=[]:=qna hl0;rw[run_convert_bytes_string w src dst e none _ c hs he hd];simp[Conv.bytesToString,zae];rfl
 ·have hl:(loadCells ad l.length).run P w= .ok ((l.map fun n:Nat=>(n:Int)).map (Value.int .u8)).toArray w:=by
   have hc:∀j v,(zan .u8 l)[j]? =some v->w.cell? (ad.add j)=some v:=by
    intro j v hv;rcases qm9 l.length with h0|h0
    ·obtain rfl:l=[]:=qna h0
     simp[zan] at hv
    ·obtain⟨ad',e',_,hc⟩:=h.2 h0
     injection e' with e';subst e';exact hc j v hv
   have:=run_loadCells_list (P:=P) w ad (zan .u8 l) hc;rw[zaa] at this;rw[this];simp[zan]
  rw[run_convert_bytes_string w src dst e _ _ c hs he hd,run_bytesToString w ad _ c _ hl,foldl_push_bytes];simp[zae,ByteArray.empty,ByteArray.emptyWithCapacity];rfl
theorem Reads.lit(w:World)(e:TypeId)(cs:Array Value)(n:Nat)(k:IntKind)(l:List Nat)(h:cs.toList=zan k l)(hn:n=l.length):Reads (w.alloc (.cells cs e)) (w.alloc (.cells cs e)).heap.size 1 (some ⟨w.heap.size,0,none⟩) n (zan k l):=by subst hn;refine⟨by rw[zaa];simp,fun _=>⟨_,rfl,by simp,?_⟩⟩;have:=World.news_of_block (heap_alloc_new w (.cells cs e));rwa[h] at this
structure ElT(P:Program)(t e:TypeId)(z:Value)(size bytes:Nat):Prop where
 ht:P.underlying t=some (.slice e)
 hi:(P.info? e).map (fun i=>(i.zero,i.size,i.bytes))=some (some z,size,bytes)
 hz:z.cells.size=size
 hs:0<size
section
variable{P:Program}{ops:Array Oper}{rest:List Oper}{o:Oper}{a:Act}{Q:Exit->Act->World->Prop}
theorem zj2{w:World}{t e:TypeId}{z:Value}{bytes:Nat}(E:ElT P t e z 1 bytes)(hgd:o.guard=none)(s x:Operand)
 (ho:o.op= .call {callee:= .builtin .append,args:= #[s,x],argTypes:= #[t,t]})
 {W:World}{B base:Nat}{v u:Value}{xs:List Value}(hown:Own w base e v xs)(hs:a.eval s=v)(hx:a.eval x= .slice (some ⟨w.heap.size,0,none⟩) 1 1)
 (hb:Below B W w)(hbB:B<=base)(hbase:base<=w.heap.size)(h1:u.oneCell'=true)
 (hn:(xs.length+1)*bytes<=140737488355328)(hm:xs.length+1<=maxLen)
 (h:∀A' c' w',xs.length+1<=c'->c'<=maxLen->Own w' base e (.slice A' (xs.length+1) c') (xs++[u])->w.grownBy w' v.ownBlock->Below B W w'->w.heap.size<w'.heap.size->
  (Value.ownBlock (.slice A' (xs.length+1) c')=v.ownBlock\/ ∃g,Value.ownBlock (.slice A' (xs.length+1) c')=some g/\w.heap.size<=g)->wpList P ops Q rest (a.put o.dst (.slice A' (xs.length+1) c')) w'):
 wpList P ops Q (o::rest) a (w.alloc (.cells #[u] e)):=by
 obtain⟨i,hi,hz0,hz1,hz2⟩:=info_parts E.hi;refine wpList_append_own_at _ hgd s x t ho base e i z 1 bytes E.ht hi hz0 hz1 hz2 E.hz (by omega) v xs.length xs hs (World.ownsRow.alloc hown _) ⟨w.heap.size,0,none⟩ 1 1 [u] hx rfl (cell_one_new _ _ _) (by simpa using h1) hm hn (by simp;omega) ?_;intro v' w' hown' hg _ hat;have hxl:(xs++[u]).length=xs.length+1:=by simp
 have hown2:Own w' base e v' (xs++[u]):=by unfold Own;rw[hxl];exact hown'
 obtain⟨A',c',rfl,hc1,hc2⟩:=hown2.slice;rw[hxl] at hc1 hown2 hat⊢;have hg2:w.grownBy w' v.ownBlock:=(World.grownBy_alloc w (.cells #[u] e) v.ownBlock).trans hg;have hsz:=hg.size;simp at hsz;refine h A' c' w' hc1 hc2 hown2 hg2 (hb.grown hg2 (qml hbB hbase) (fun k hk=>by have:=(hown.lt k hk).1;omega)) (by omega) ?_;rcases hat with e1|e1
 ·exact .inl e1
 ·exact .inr ⟨_,e1,by simp⟩
theorem zho{w:World}{t e:TypeId}{z:Value}{bytes:Nat}(E:ElT P t e z 1 bytes)(hgd:o.guard=none)(s x:Operand)
 (ho:o.op= .call {callee:= .builtin .append,args:= #[s,x],argTypes:= #[t,t]})
 {W:World}{B base:Nat}{v:Value}{xs news:List Value}{A:Option Addr}{m c:Nat}(hown:Own w base e v xs)(hr:Reads w w.heap.size 1 A m news)(hs:a.eval s=v)(hx:a.eval x= .slice A m c)
 (hb:Below B W w)(hbB:B<=base)(hbase:base<=w.heap.size)(h1:∀u∈news,u.oneCell'=true)
 (hn:(xs.length+m)*bytes<=140737488355328)(hm:xs.length+m<=maxLen)
 (h:∀A' c' w',xs.length+m<=c'->c'<=maxLen->Own w' base e (.slice A' (xs.length+m) c') (xs++news)->w.grownBy w' v.ownBlock->Below B W w'->
  (Value.ownBlock (.slice A' (xs.length+m) c')=v.ownBlock\/ ∃g,Value.ownBlock (.slice A' (xs.length+m) c')=some g/\w.heap.size<=g)->wpList P ops Q rest (a.put o.dst (.slice A' (xs.length+m) c')) w'):
 wpList P ops Q (o::rest) a w:=by
 obtain⟨i,hi,hz0,hz1,hz2⟩:=info_parts E.hi;have hl:news.length=m:=by have:=hr.1;omega
 have hxl:(xs++news).length=xs.length+m:=by simp[hl]
 rcases A with _|ad
 ·have hm0:m=0:=by
   rcases qm9 m with h0|h0
   ·exact h0
   ·obtain⟨ad,h',_⟩:=hr.2 h0
    cases h'
  subst hm0;have hn0:news=[]:=qna hl;subst hn0;have hrun:∀ty,(Builtin.append_ #[t,t] ty #[v,.slice none 0 c]).run P w= .ok v w:=by
   intro ty;rcases hown.2 with⟨rfl,hx0⟩|⟨g,cap,cur,rfl,_,_,hnc,_⟩
   ·simp[Builtin.append_,run_underlying E.ht,sizeOf,typeInfo,hi,Builtin.lenOf,Builtin.firstCells]
   ·simp[Builtin.append_,run_underlying E.ht,sizeOf,typeInfo,hi,Builtin.lenOf,Builtin.firstCells,hnc,storeCells]
  refine wpList_plain hgd fun K hK=>?_
  unfold Oper.wp execOp;simp only[ho,resolve,invoke,builtin,Sem.run_bind,Sem.run_pure,Result.andThen_ok,qnb,qnc,qnd,hs,hx,hrun];obtain⟨A',c',rfl,hc1,hc2⟩:=hown.slice;exact hK _ _ (h A' c' w hc1 hc2 (by simpa using hown) (World.grownBy.refl w _) hb (.inl rfl))
 ·have hcells:∀j u,news[j]? =some u->w.cell? (ad.add j)=some u:=by
   intro j u hu;rcases qm9 m with h0|h0
   ·subst h0
    have hn:news=[]:=qna hl;subst hn;simp at hu
   ·obtain⟨ad',h',_,hc⟩:=hr.2 h0
    injection h' with h';subst h';exact hc j u hu
  refine wpList_append_own_at _ hgd s x t ho base e i z 1 bytes E.ht hi hz0 hz1 hz2 E.hz (by omega) v xs.length xs hs hown ad m c news hx (by omega) hcells h1 hm hn hbase ?_;intro v' w' hown' hg _ hat;have hown2:Own w' base e v' (xs++news):=by unfold Own;rw[hxl];exact hown'
  obtain⟨A',c',rfl,hc1,hc2⟩:=hown2.slice;rw[hxl] at hc1 hown2 hat⊢;refine h A' c' w' hc1 hc2 hown2 hg (hb.grown hg (qml hbB hbase) (fun k hk=>by have:=(hown.lt k hk).1;omega)) ?_;rcases hat with e1|e1
  ·exact .inl e1
  ·exact .inr ⟨_,e1,qmt _⟩
theorem zca{w:World}{t e:TypeId}{z:Value}{bytes:Nat}(E:ElT P t e z 1 bytes)(hgd:o.guard=none)(lo co:Operand)(ho:o.op=Op.makeSlice t lo co)
 {W:World}{B:Nat}{kl kc:IntKind}{L C:Int}(l c:Nat)(hl:a.eval lo= .int kl L)(hc:a.eval co= .int kc C)(hL:L=(l:Int))(hC:C=(c:Int))(hlc:l<=c)(hb:Below B W w)(hbase:B<=w.heap.size)
 (hz1:z.oneCell'=true)(hn:c*bytes<=140737488355328)(hm:c<=maxLen)
 (h:∀w',Own w' w.heap.size e (.slice (some ⟨w.heap.size,0,none⟩) l c) (List.replicate l z)->w.grownBy w' none->Below B W w'->w'.heap.size=w.heap.size+1->wpList P ops Q rest (a.put o.dst (.slice (some ⟨w.heap.size,0,none⟩) l c)) w'):
 wpList P ops Q (o::rest) a w:=by
 obtain⟨i,hi,hz0,hs1,hb1⟩:=info_parts E.hi;subst hL hC;have hzc:z.cells= #[z]:=by
  revert hz1;unfold Value.oneCell' Value.cells
  cases z<;> simp
 have hmC:(c:Int)<=9223372036854775807:=by have h:=hm;simp only[maxLen] at h;omega
 have hbC:(i.bytes:Int)*(c:Int)<=281474976710656:=by
  have h:((i.bytes*c:Nat):Int)<=281474976710656:=by rw[hb1,qne];omega
  rwa[qnf] at h
 have hrun:=run_make (P:=P) w t e i z E.ht hi hz0 kl kc (l:Int) (c:Int) (by omega) (by omega) hbC hmC;rw[qng,qng,hs1,qm0,hzc] at hrun;refine wpList_plain hgd fun K hK=>?_
 unfold Oper.wp;simp[execOp,ho,hl,hc,hrun,Result.andThen];refine hK _ _ (h _ ?_ (World.grownBy_alloc _ _ _) (hb.alloc hbase _) (by simp));refine⟨by simp,.inr ⟨_,c,_,by simp,qmt _,heap_alloc_new w _,by simpa using hlc,hm,by simp[size_madeCells],?_⟩⟩;rw[toList_madeCells_one];simp[Nat.min_eq_left hlc]
theorem zoa{w:World}{t e:TypeId}{z:Value}{bytes:Nat}(E:ElT P t e z 1 bytes)(hgd:o.guard=none)(d s:Operand)
 (ho:o.op= .call {callee:= .builtin .copy,args:= #[d,s],argTypes:= #[t,t]})
 {W:World}{B base:Nat}{xs ys:List Value}{D A:Option Addr}{m c n cd:Nat}(hown:Own w base e (.slice D n cd) xs)(hr:Reads w w.heap.size 1 A m ys)(hd:a.eval d= .slice D n cd)(hs:a.eval s= .slice A m c)
 (r:Nat)(hmr:Nat.min m n=r)(hb:Below B W w)(hbB:B<=base)(h1:∀u∈ys,u.oneCell'=true)
 (h:∀w',Own w' base e (.slice D n cd) (ys.take n++xs.drop m)->w.grownBy w' (Value.ownBlock (.slice D n cd))->Below B W w'->w'.heap.size=w.heap.size->wpList P ops Q rest (a.put o.dst (.int .i64 (r:Int))) w'):
 wpList P ops Q (o::rest) a w:=by
 subst hmr;obtain⟨i,hi,hz0,hs1,hb1⟩:=info_parts E.hi;have hsz:(P.info? e).map (·.size)=some 1:=by simp[hi,hs1]
 have hln:=hown.len;have hym:ys.length=m:=by have:=hr.1;omega
 by_cases h0:Nat.min m n=0
 ·have hrun:∀ty,(Builtin.copy_ #[t,t] ty #[.slice D n cd,.slice A m c]).run P w= .ok (goInt 0) w:=fun ty=>run_copy_none w t t ty e D A n cd m c E.ht hsz h0
  refine wpList_plain hgd fun K hK=>?_
  unfold Oper.wp execOp;simp only[ho,resolve,invoke,builtin,Sem.run_bind,Sem.run_pure,Result.andThen_ok,qnb,qnc,qnd,hd,hs,hrun];have hx:ys.take n++xs.drop m=xs:=by
   rcases Nat.min_eq_zero_iff.1 h0 with hm|hn
   ·subst hm
    have:ys=[]:=qna hym;subst this;simp
   ·subst hn
    have:xs=[]:=qna hln.symm;subst this;simp
  have:=h w (by rw[hx];exact hown) (World.grownBy.refl w _) hb rfl;rw[h0] at this;exact hK _ _ this
 ·have hmin:0<m/\0<n:=by
   constructor
   ·rcases qm9 m with e'|e'
    ·subst e';exact absurd (Nat.zero_min n) h0
    ·exact e'
   ·rcases qm9 n with e'|e'
    ·subst e';exact absurd (Nat.min_zero m) h0
    ·exact e'
  obtain⟨ad,rfl,_,hcell⟩:=hr.2 hmin.1;rcases hown.2 with⟨hv,hx0⟩|⟨g,cap,cur,hv,hbg,hgg,hnc,hcm,hcs,htake⟩
  ·omega
  ·injection hv with e1 e2 e3
   subst e1 e3;have hcl:(ys.take n).length=Nat.min m n:=by rw[qmq,hym,Nat.min_comm]
   have hmn:Nat.min m n<=n:=Nat.min_le_right m n;have hcl2:(ys.take n).length<=n:=by rw[hcl];exact hmn
   have hsrc:∀j v,(ys.take n)[j]? =some v->w.cell? (ad.add j)=some v:=fun j v hv=>hcell j v (by
    rw[List.getElem?_take] at hv;split at hv
    ·exact hv
    ·cases hv)
   have hrun:∀ty,(Builtin.copy_ #[t,t] ty #[.slice (some ⟨g,0,none⟩) n cd,.slice (some ad) m c]).run P w=
    .ok (goInt (ys.take n).length) (w.setRow g (cur.toList.take 0++ys.take n++cur.toList.drop (0+(ys.take n).length)).toArray):=fun ty=>
    run_copy_row P w t t ty e g 0 n cd ad m c cur e (ys.take n) E.ht hsz hgg hcl hsrc (by rw[hcl];omega) (fun v hv=>h1 v (qnh hv))
   refine wpList_plain hgd fun K hK=>?_
   unfold Oper.wp execOp;simp only[ho,resolve,invoke,builtin,Sem.run_bind,Sem.run_pure,Result.andThen_ok,qnb,qnc,qnd,hd,hs,hrun,hcl];have hlen:(ys.take n++xs.drop m).length=xs.length:=by rw[qni,hcl,qmp,<-hln];simp only[Nat.min_def];split<;> omega
   refine hK _ _ (h _ ?_ ⟨rfl,rfl,rfl,by simp[World.setRow],fun k _ hk=>setRow_other w g k _ (fun e=>hk (by simp[Value.ownBlock,e]))⟩ (below_setRow hb (qml hbB hbg) _) (by simp[World.setRow]));refine⟨by simp,.inr ⟨g,cd,_,by rw[hlen,hln],hbg,setRow_heap w g cur _ e _ hgg,by rw[hlen];exact hnc,hcm,?_,?_⟩⟩
   ·simp only[qnj,qnk,qnl,qnm,qni,hcl,qmp,qm1]
    omega
   ·rw[hlen,qm0]
    simp only[qnj,qnk,qnl];rw[qm0] at htake;rw[List.take_append,hcl,qnn (by omega)];congr 1
    rw[List.take_drop,show Nat.min m n+(xs.length-Nat.min m n)=xs.length by omega,htake];by_cases hmn':m<=n
    ·rw[show Nat.min m n=m from qmr hmn']
    ·rw[show Nat.min m n=n from Nat.min_eq_right (by omega),qm2 (by omega),qm2 (by omega)]
theorem zcj{w:World}{t e:TypeId}{z:Value}{bytes:Nat}(E:ElT P t e z 1 bytes)(hgd:o.guard=none)(s x:Operand)
 (ho:o.op= .call {callee:= .builtin .append,args:= #[s,x],argTypes:= #[t,t]})
 {W:World}{B base n c:Nat}{A:Option Addr}{u:Value}{k:IntKind}{l:List Nat}(hown:Own w base e (.slice A n c) (zan k l))(hs:a.eval s= .slice A n c)(hx:a.eval x= .slice (some ⟨w.heap.size,0,none⟩) 1 1)
 (y:Nat)(hu:u= .int k (y:Int))(hb:Below B W w)(hbB:B<=base)(hbase:base<=w.heap.size)
 (hn:(n+1)*bytes<=140737488355328)(hm:n+1<=maxLen)
 (h:∀A' c' w',n+1<=c'->c'<=maxLen->Own w' base e (.slice A' (n+1) c') (zan k (l++[y]))->w.grownBy w' (Value.ownBlock (.slice A n c))->Below B W w'->w.heap.size<w'.heap.size->
  (Value.ownBlock (.slice A' (n+1) c')=Value.ownBlock (.slice A n c)\/ ∃g,Value.ownBlock (.slice A' (n+1) c')=some g/\w.heap.size<=g)->wpList P ops Q rest (a.put o.dst (.slice A' (n+1) c')) w'):
 wpList P ops Q (o::rest) a (w.alloc (.cells #[u] e)):=by
 obtain rfl:n=l.length:=by have:=hown.len;rwa[zaa] at this
 subst hu;refine zj2 E hgd s x ho hown hs hx hb hbB hbase rfl (by rw[zaa];exact hn) (by rw[zaa];exact hm) ?_;rw[zaa,zdl,qbl] at*;exact h
theorem zam{w:World}{t e:TypeId}{z:Value}{bytes:Nat}(E:ElT P t e z 1 bytes)(hgd:o.guard=none)(s x:Operand)
 (ho:o.op= .call {callee:= .builtin .append,args:= #[s,x],argTypes:= #[t,t]})
 {W:World}{B base n c m c2:Nat}{A A2:Option Addr}{k:IntKind}{l l2:List Nat}(hown:Own w base e (.slice A n c) (zan k l))(hr:Reads w w.heap.size 1 A2 m (zan k l2))(hs:a.eval s= .slice A n c)(hx:a.eval x= .slice A2 m c2)
 (hb:Below B W w)(hbB:B<=base)(hbase:base<=w.heap.size)(hn:(n+m)*bytes<=140737488355328)(hm:n+m<=maxLen)
 (h:∀A' c' w',n+m<=c'->c'<=maxLen->Own w' base e (.slice A' (n+m) c') (zan k (l++l2))->w.grownBy w' (Value.ownBlock (.slice A n c))->Below B W w'->
  (Value.ownBlock (.slice A' (n+m) c')=Value.ownBlock (.slice A n c)\/ ∃g,Value.ownBlock (.slice A' (n+m) c')=some g/\w.heap.size<=g)->wpList P ops Q rest (a.put o.dst (.slice A' (n+m) c')) w'):
 wpList P ops Q (o::rest) a w:=by
 obtain rfl:n=l.length:=by have:=hown.len;rwa[zaa] at this
 refine zho E hgd s x ho hown hr hs hx hb hbB hbase (zci _ _) (by rw[zaa];exact hn) (by rw[zaa];exact hm) ?_;rw[zaa,zdl] at*;exact h
end
end Go.Hm
