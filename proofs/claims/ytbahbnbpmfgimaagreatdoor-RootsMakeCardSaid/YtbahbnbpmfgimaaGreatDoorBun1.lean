import Derived.Deep.AppendLies
import Derived.Deep.RegionHeld3
import Derived.Laws.CopyOwn
import Derived.Lib.Hide
import Derived.ProofKit
import Derived.WalkLawsBesides
import Derived.WalkSpells
set_option maxHeartbeats 200000
namespace Go
theorem Hz {p : Prop} (h : p) : Go.RowKit.Hid p := Go.Lib.hid h
abbrev qli:=@List.cons.injEq
abbrev qlj:=@Option.some.inj
abbrev qlk:=@Prod.mk.injEq
abbrev qll:=@Option.some.injEq
abbrev qlm:=@_root_.Go.World.ownsRow.kept
abbrev qln:=@_root_.Go.World.ownsRow.lt
abbrev qlo:=@_root_.Go.World.ownsRow.alloc
abbrev qlp:=@_root_.Go.World.grownBy.refl
abbrev qlq:=@_root_.Go.World.grownBy.trans
abbrev qlr:=@_root_.Go.DataW.agg.injEq
abbrev qls:=@_root_.Go.DataW.lit.injEq
abbrev qlt:=@_root_.Go.Lit.int.injEq
abbrev qlu:=@_root_.Go.World.ownsRow.stored
abbrev qlv:=@Nat.add_assoc
abbrev qlw:=@Nat.le_trans
abbrev qlx:=@List.getElem?_eq_getElem
abbrev qly:=@List.mem_map
abbrev qlz:=@Nat.lt_of_lt_of_le
abbrev ql0:=@List.length_drop
abbrev ql1:=@List.getElem?_drop
abbrev ql2:=@List.length_take
abbrev ql3:=@Nat.min_eq_left
abbrev ql4:=@Nat.mul_le_mul_right
abbrev ql5:=@List.getElem?_take
abbrev ql6:=@Nat.le_refl
abbrev ql7:=@Nat.zero_le
abbrev ql8:=@Array.getElem?_eq_some_iff
abbrev ql9:=@List.length_set
abbrev qma:=@Nat.lt_or_ge
abbrev qmb:=@Array.getElem?_eq_none
abbrev qmc:=@Array.getElem?_modify
abbrev qmd:=@Nat.mul_one
abbrev qme:=@Array.length_toList
abbrev qmf:=@List.drop_eq_nil_of_le
abbrev qmg:=@List.append_nil
abbrev qmh:=@List.drop_eq_getElem_cons
abbrev qmi:=@List.append_assoc
abbrev qmj:=@Bool.eq_iff_iff
abbrev qmk:=@List.ext_getElem
abbrev qml:=@List.getElem_mem
abbrev qmm:=@Nat.eq_zero_or_pos
abbrev qmn:=@List.eq_nil_of_length_eq_zero
abbrev qmo:=@List.map_toArray
abbrev qmp:=@List.map_cons
abbrev qmq:=@List.map_nil
abbrev qmr:=@Nat.mul_comm
abbrev qms:=@Int.natCast_mul
abbrev qmt:=@Int.toNat_natCast
abbrev qmu:=@List.mem_of_mem_take
abbrev qmv:=@List.length_append
abbrev qmw:=@List.take_zero
abbrev qmx:=@List.nil_append
abbrev qmy:=@Nat.zero_add
abbrev qmz:=@List.size_toArray
abbrev qm0:=@List.take_of_length_le
abbrev qm1:=@Nat.log2_self_le
abbrev qm2:=@Nat.lt_log2_self
abbrev qm3:=@Nat.pow_succ
abbrev qm4:=@Nat.pow_pos
abbrev qm5:=@Nat.pow_lt_pow_iff_right
abbrev qm6:=@Nat.lt_of_le_of_lt
abbrev qm7:=@Nat.div_lt_of_lt_mul
abbrev qm8:=@List.cons_append
abbrev qm9:=@List.length_cons
abbrev qna:=@Nat.mul_add
abbrev qnb:=@Nat.mul_left_comm
abbrev qnc:=@Nat.mod_one
abbrev qnd:=@List.mem_append
abbrev qne:=@List.mem_singleton
abbrev qnf:=@Nat.mod_lt
abbrev qng:=@Nat.mod_eq_of_lt
abbrev qnh:=@Nat.div_le_self
abbrev qni:=@Int.tmod_eq_emod_of_nonneg
abbrev qnj:=@Nat.pow_le_pow_right
abbrev qnk:=@Nat.or_comm
abbrev qnl:=@Nat.two_pow_add_eq_or_of_lt
abbrev qnm:=@Nat.add_comm
abbrev qnn:=@List.getElem_map
abbrev qno:=@UInt8.toNat_ofNat'
abbrev qnp:=@List.getD_eq_getElem?_getD
abbrev qnq:=@Option.getD_some
abbrev qnr:=@List.map_map
abbrev qns:=@List.map_congr_left
abbrev qnt:=@Bool.and_eq_true
abbrev qnu:=@List.mem_cons
abbrev qnv:=@Nat.two_pow_pos
abbrev qnw:=@Nat.pow_mul
abbrev qnx:=@List.getElem?_eq_none
abbrev qny:=@Nat.mul_lt_mul_of_pos_right
abbrev qnz:=@Nat.pow_add
abbrev qn0:=@Int.emod_eq_of_lt
abbrev qn1:=@Int.eq_ofNat_of_zero_le
abbrev qn2:=@Nat.succ_mul
abbrev qn3:=@Nat.add_mul
abbrev qn4:=@Nat.mul_assoc
abbrev qn5:=@List.set_append_right
abbrev qn6:=@Nat.sub_self
abbrev qn7:=@List.replicate_succ
abbrev qn8:=@List.set_cons_zero
abbrev qn9:=@List.getElem?_append_left
abbrev qoa:=@List.mem_replicate
abbrev qob:=@Array.getD_eq_getD_getElem?
abbrev qoc:=@Array.getElem?_setIfInBounds
abbrev qod:=@Array.setIfInBounds_comm
abbrev qoe:=@Ne.symm
abbrev qof:=@Bool.or_eq_true
abbrev qog:=@List.all_eq_true
abbrev qoh:=@Array.size_push
abbrev qoi:=@List.setIfInBounds_toArray
abbrev qoj:=@List.set_cons_succ
abbrev qok:=@And.intro
abbrev qol:=@List.getElem?_set_self
abbrev qom:=@List.length_replicate
abbrev qon:=@List.replicate_succ'
abbrev qoo:=@List.mem_of_mem_drop
abbrev qop:=@List.drop_append_of_le_length
abbrev qoq:=@List.drop_drop
abbrev qor:=@Int.tdiv_eq_ediv_of_nonneg
abbrev qos:=@List.length_map
abbrev qot:=@List.mem_range
abbrev qou:=@List.getElem?_map
abbrev qov:=@List.mem_flatMap
abbrev qow:=@List.length_range
abbrev qox:=@Nat.zero_mul
abbrev qoy:=@List.getElem?_append_right
abbrev qoz:=@List.take_append_drop
abbrev qo0:=@List.drop_left'
abbrev qo1:=@List.take_left'
abbrev qo2:=@Nat.eq_of_mul_eq_mul_right
abbrev qo3:=@List.getElem?_eq_some_iff
abbrev qo4:=@List.getElem_of_mem
abbrev qo5:=@Option.map_some
abbrev qo6:=@Nat.mul_succ
abbrev qo7:=@Nat.mul_le_mul_left
abbrev qo8:=@Nat.add_mul_mod_self_left
abbrev qo9:=@Nat.div_div_eq_div_mul
abbrev qpa:=@Nat.add_mul_div_left
abbrev qpb:=@Nat.div_eq_of_lt
abbrev qpc:=@Nat.mod_mul_right_div_self
abbrev qpd:=@Nat.one_mul
abbrev qpe:=@List.flatMap_cons
abbrev qpf:=@List.sum_cons
abbrev qpg:=@List.length_nil
abbrev qph:=@Nat.add_zero
abbrev qpi:=@List.sum_append
abbrev qpj:=@List.map_append
abbrev qpk:=@Bool.true_and
abbrev qpl:=@List.flatMap_append
abbrev qpm:=@List.flatten_append
abbrev qpn:=@Array.toList_map
abbrev qpo:=@Array.toList_range
abbrev qpp:=@List.range_succ
abbrev qpq:=@List.replicate_zero
abbrev qpr:=@List.drop_of_length_le
abbrev qps:=@List.mem_cons_of_mem
abbrev qpt:=@List.not_mem_nil
abbrev qpu:=@Array.getElem?_eq_getElem
abbrev qpv:=@List.flatMap_nil
abbrev qpw:=@List.flatten_cons
abbrev qpx:=@List.flatten_nil
abbrev qpy:=@List.length_eq_zero_iff
abbrev qpz:=@Nat.lt_succ_self
abbrev qp0:=@Nat.le_succ
abbrev qp1:=@List.take_length
abbrev qp2:=@Nat.or_lt_two_pow
abbrev qp3:=@List.foldl_cons
abbrev qp4:=@Int.mul_nonneg
abbrev qp5:=@Nat.mul_le_mul
abbrev qp6:=@Nat.pow_zero
abbrev qp7:=@List.length_singleton
abbrev qp8:=@List.getD_cons_succ
abbrev qp9:=@List.idxOf_lt_length_iff
abbrev qqa:=@List.drop_zero
abbrev qqb:=@List.take_succ_cons
abbrev qqc:=@Bool.eq_false_iff
abbrev qqd:=@Option.isNone_some
abbrev qqe:=@Classical.byContradiction
abbrev qqf:=@List.takeWhile_cons
abbrev qqg:=@Nat.le_of_eq
abbrev qqh:=@List.mem_flatten
abbrev qqi:=@List.take_add
abbrev qqj:=@List.drop_length
abbrev qqk:=@Nat.add_sub_cancel_left
abbrev qql:=@Nat.mul_ne_zero
abbrev qqm:=@Nat.shiftLeft_eq
abbrev qqn:=@Int.natAbs_mul
abbrev qqo:=@Int.mul_neg_of_neg_of_pos
abbrev qqp:=@Nat.lt_succ_iff_lt_or_eq
abbrev qqq:=@UInt8.le_antisymm
abbrev qqr:=@UInt8.not_lt
abbrev qqs:=@Bool.false_eq_true
abbrev qqt:=@List.mem_append_left
abbrev qqu:=@List.mem_append_right
abbrev qqv:=@List.mem_filter
abbrev qqw:=@Decidable.not_not
abbrev qqx:=@Array.getElem?_setIfInBounds_self_of_lt
abbrev qqy:=@List.length_zip
abbrev qqz:=@List.foldl_append
abbrev qq0:=@List.eq_of_mem_replicate
abbrev qq1:=@List.getElem?_replicate
abbrev qq2:=@Nat.le_max_left
abbrev qq3:=@Nat.le_max_right
abbrev qq4:=@List.drop_left
abbrev qq5:=@List.length_filter_lt_length_iff_exists
abbrev qq6:=@_root_.Go.World.ownsRow_nil
abbrev qq7:=@_root_.Go.RowKit.Below.heap_setCell
abbrev qq8:=@_root_.Go.RowKit.Below.refl
abbrev qq9:=@_root_.Go.World.news_of_block
abbrev qra:=@_root_.Go.World.grownBy_alloc
abbrev qrb:=@_root_.Go.Sem.run_bind
abbrev qrc:=@_root_.Go.Sem.run_pure
abbrev qrd:=@_root_.Go.Result.andThen_ok
abbrev qre:=@_root_.Go.IntWalk.i64_in
abbrev qrf:=@_root_.Go.Lib.hid
abbrev qrg:=@_root_.Go.IntKind.wrap_u8
abbrev qrh:=@_root_.Go.RowKit.Below.trans
abbrev qri:=@_root_.Go.RowKit.Below.mono
abbrev qrj:=@_root_.Go.IntKind.wrap_u64
abbrev qrk:=@_root_.Go.IntKind.wrap_u32'
abbrev qrl:=@_root_.Go.IntKind.wrap_i64
abbrev qrm:=@_root_.Go.Lib.run_eql_slice_nil
abbrev qrn:=@_root_.Go.World.ownsMap_made
abbrev qro:=@_root_.Go.RowKit.Below.cell
abbrev qrp:=@_root_.Function.comp_def
abbrev qrq:=@_root_.Go.World.size_alloc
abbrev qrr:=@_root_.Go.Exit.noGoto_ret
end Go
namespace Go
abbrev qsy:Array Value:=#[.int .u8 0,.int .u8 0,.int .u8 0,.int .u8 0,.int .u8 0,.int .u8 0,.int .u8 0,.int .u8 0,.int .u8 0,.int .u8 0,.int .u8 0,.int .u8 0,.int .u8 0,.int .u8 0,.int .u8 0,.int .u8 0,.int .u8 0,.int .u8 0,.int .u8 0,.int .u8 0,.int .u8 0,.int .u8 0,.int .u8 0,.int .u8 0,.int .u8 0,.int .u8 0,.int .u8 0,.int .u8 0,.int .u8 0,.int .u8 0,.int .u8 0,.int .u8 0]
end Go
namespace Go.Hm
open Go.RowKit
theorem zao(a:Addr)(n:Nat):(a.add n).block=a.block:=by unfold Addr.add;split<;> rfl
theorem zba(a:Addr)(i j:Nat):(a.add i).add j=a.add (i+j):=by unfold Addr.add;by_cases hi:i=0<;> by_cases hj:j=0<;> simp[hi,hj,Nat.add_assoc]
theorem zfp(a:Addr):a.add 0=a:=by unfold Addr.add;simp
theorem zbo{B g:Nat}{a w w':World}(h:Below B a w)(hg:w.grownBy w' (some g))(hB:B<=g)(hBw:B<=a.heap.size):Below B a w':=
 h.grown hg (qlw hBw h.size) (fun k hk=>by injection hk with hk;omega)
theorem zg8{a b c:World}{B:Nat}(h:Below B a b)(k:Below b.heap.size b c)(hB:B<=a.heap.size):Below B a c:=h.trans (k.mono (qlw hB h.size))
def zah(k:IntKind)(l:List Nat):List Value:=l.map fun n:Nat=>Value.int k (n:Int)
theorem zaa(k:IntKind)(l:List Nat):(zah k l).length=l.length:=by simp[zah]
theorem zdw(k:IntKind)(l m:List Nat):zah k (l++m)=zah k l++zah k m:=by simp[zah]
theorem qaw(k:IntKind)(n:Nat):zah k [n]=[.int k (n:Int)]:=rfl
theorem zei(k:IntKind)(l:List Nat)(i:Nat):(zah k l).drop i=zah k (l.drop i):=by simp[zah]
theorem ze2(k:IntKind)(l:List Nat)(i:Nat):(zah k l).take i=zah k (l.take i):=by simp[zah]
theorem zxf(k:IntKind)(l:List Nat)(i:Nat)(h:i<l.length):(zah k l)[i]? =some (.int k ((l.getD i 0:Nat):Int)):=by simp[zah,List.getElem?_eq_getElem h]
theorem zct(k:IntKind)(l:List Nat):∀u∈zah k l,u.oneCell'=true:=by intro u hu;simp only[zah,qly] at hu;obtain⟨z,_,rfl⟩:=hu;rfl
theorem zb8(k:IntKind)(n x:Nat):zah k (List.replicate n x)=List.replicate n (.int k (x:Int)):=by simp[zah]
theorem qax(k:IntKind)(l:List Nat)(i x:Nat):(zah k l).set i (.int k (x:Int))=zah k (l.set i x):=by simp[zah]
def zap(k:IntKind)(l:List Int):List Value:=l.map (Value.int k)
theorem zhw(k:IntKind)(l:List Int):(zap k l).length=l.length:=by simp[zap]
theorem zoj(k:IntKind)(l:List Int)(i:Nat)(h:i<l.length):(zap k l)[i]? =some (.int k (l.getD i 0)):=by simp[zap,List.getElem?_eq_getElem h]
def Reads(w:World)(B size:Nat)(A:Option Addr)(n:Nat)(xs:List Value):Prop:=
 xs.length=n*size/\(0<n-> ∃ad,A=some ad/\ad.block<B/\ ∀j u,xs[j]? =some u->w.cell? (ad.add j)=some u)
section
variable{w w':World}{B B' size n:Nat}{A:Option Addr}{xs:List Value}
theorem Reads.none_:Reads w B size A 0 []:=⟨by simp,fun h=>absurd h (by omega)⟩
abbrev qrs:=@Reads.none_
theorem Reads.at_{k:Nat}(h:Reads w B 1 A n xs)(hk:k<n):∃ad u,A=some ad/\ad.block<B/\xs[k]? =some u/\w.cell? (ad.add k)=some u:=by
 obtain⟨ad,e,hb,hc⟩:=h.2 (by omega);have hl:k<xs.length:=by have:=h.1;omega
 exact⟨ad,xs[k],e,hb,qlx hl,hc k _ (qlx hl)⟩
theorem Reads.keep(h:Reads w B size A n xs)(hk:∀p:Addr,p.block<B->w'.cell? p=w.cell? p):Reads w' B size A n xs:=
 ⟨h.1,fun hn=>by obtain⟨ad,e,hb,hc⟩:=h.2 hn;exact⟨ad,e,hb,fun j u hu=>(hk _ (by rw[zao];exact hb)).trans (hc j u hu)⟩⟩
theorem Reads.more(h:Reads w B size A n xs)(hB:B<=B'):Reads w B' size A n xs:=
 ⟨h.1,fun hn=>by obtain⟨ad,e,hb,hc⟩:=h.2 hn;exact⟨ad,e,by omega,hc⟩⟩
theorem Reads.below(h:Reads w B size A n xs)(hb:Below B w w'):Reads w' B size A n xs:=h.keep fun _ hp=>hb.cell hp
theorem Reads.drew(h:Reads w B size A n xs):Reads w.drew B size A n xs:=h
theorem Reads.drewN(h:Reads w B size A n xs)(k:Nat):Reads (w.drewN k) B size A n xs:=h
theorem Reads.alloc(h:Reads w B size A n xs)(hB:B<=w.heap.size)(o:Obj):Reads (w.alloc o) B size A n xs:=h.keep fun p hp=>World.cell?_alloc_lt w o p (by omega)
theorem Reads.setCell(h:Reads w B size A n xs){p:Addr}(hB:B<=p.block)(u:Value):Reads (w.setCell p u) B size A n xs:=
 h.keep fun q hq=>World.cell?_setCell_other w p q u (fun e=>by subst e;omega)
theorem Reads.grown(h:Reads w B size A n xs){row:Option Nat}(hg:w.grownBy w' row)(hB:B<=w.heap.size)(hr:∀g,row=some g->B<=g):Reads w' B size A n xs:=
 h.keep fun p hp=>World.cell?_of_block (hg.block p.block (by omega) (fun e=>by have:=hr _ e.symm;omega))
theorem Reads.grown_far(h:Reads w w.heap.size size A n xs){row:Option Nat}(hg:w.grownBy w' row)(hne:∀ad g,A=some ad->row=some g->ad.block≠g):Reads w' w'.heap.size size A n xs:=
 ⟨h.1,fun hn=>by obtain⟨ad,e,hb,hc⟩:=h.2 hn;refine⟨ad,e,qlz hb hg.size,fun j u hu=>?_⟩;rw[World.cell?_of_block (hg.block (ad.add j).block (by rw[zao];exact hb) (fun e'=>hne _ _ e e'.symm (zao _ _).symm))];exact hc j u hu⟩
theorem Reads.cut(h:Reads w B size A n xs){k cap:Nat}(hk:k<=n)(hc:n<=cap):
 Reads w B size (if cap=k then A else A.map (·.add (k*size))) (n-k) (xs.drop (k*size)):=by
 refine⟨by rw[ql0,h.1,Nat.sub_mul],fun hn=>?_⟩;obtain⟨ad,rfl,hb,hcell⟩:=h.2 (by omega);rw[if_neg (by omega)];refine⟨ad.add (k*size),rfl,by rw[zao];exact hb,fun j u hu=>?_⟩;rw[zba];exact hcell _ u (by rw[<-hu,ql1])
theorem Reads.take(h:Reads w B size A n xs){k:Nat}(hk:k<=n):Reads w B size A k (xs.take (k*size)):=by
 refine⟨by rw[ql2,h.1,ql3 (ql4 _ hk)],fun hn=>?_⟩;obtain⟨ad,rfl,hb,hcell⟩:=h.2 (by omega);refine⟨ad,rfl,hb,fun j u hu=>hcell j u ?_⟩;rw[ql5] at hu;split at hu
 ·exact hu
 ·cases hu
theorem Reads.of_own{base:Nat}{e:TypeId}{c:Nat}(h:w.ownsRow base e size (.slice A n c) n xs):Reads w w.heap.size size A n xs:=by
 refine⟨h.1,fun hn=>?_⟩;obtain⟨g,cap,hv,_,hlt⟩:=h.form hn;have hA:A=some ⟨g,0,none⟩:=by injection hv
 subst hA;exact⟨_,rfl,hlt,h.cells (g:=g) rfl⟩
abbrev qrt:=@Reads.of_own
theorem Reads.len{k:IntKind}{l:List Nat}(h:Reads w B 1 A n (zah k l)):n=l.length:=by have:=h.1;rw[zaa] at this;omega
theorem Reads.lenI{k:IntKind}{l:List Int}(h:Reads w B 1 A n (zap k l)):n=l.length:=by have:=h.1;rw[zhw] at this;omega
theorem Reads.int{k:IntKind}{l:List Int}{i:Nat}(h:Reads w B 1 A n (zap k l))(hi:i<n):∃ad,A=some ad/\ad.block<B/\w.cell? (ad.add i)=some (.int k (l.getD i 0)):=by
 obtain⟨ad,u,e,hb,hu,hc⟩:=h.at_ hi;have hl:i<l.length:=by have:=h.lenI;omega
 rw[zoj k l i hl] at hu;injection hu with hu;subst hu;exact⟨ad,e,hb,hc⟩
theorem Reads.num{k:IntKind}{l:List Nat}{i:Nat}(h:Reads w B 1 A n (zah k l))(hi:i<n):∃ad,A=some ad/\ad.block<B/\w.cell? (ad.add i)=some (.int k ((l.getD i 0:Nat):Int)):=by
 obtain⟨ad,u,e,hb,hu,hc⟩:=h.at_ hi;have hl:i<l.length:=by have:=h.1;rw[zaa] at this;omega
 rw[zxf k l i hl] at hu;injection hu with hu;subst hu;exact⟨ad,e,hb,hc⟩
end
def Own(w:World)(base:Nat)(e:TypeId)(v:Value)(xs:List Value):Prop:=w.ownsRow base e 1 v xs.length xs
section
variable{w w':World}{base:Nat}{e:TypeId}{v:Value}{xs:List Value}
theorem Own.nil_:Own w base e (.slice none 0 0) []:=qq6 w base e 1
abbrev qru:=@Own.nil_
theorem Own.empty(w:World)(e:TypeId):Own (w.alloc (.cells #[] e)) w.heap.size e (.slice (some ⟨w.heap.size,0,none⟩) 0 0) []:=
 World.ownsRow_made w #[] 0 (ql6 _) (ql7 _) rfl
theorem Own.slice(h:Own w base e v xs):∃A c,v= .slice A xs.length c/\xs.length<=c/\c<=maxLen:=by
 rcases h.2 with⟨hv,hn⟩|⟨g,cap,cur,hv,_,_,hc,hm,_⟩
 ·exact⟨none,0,by rw[hv,hn],by omega,by simp[maxLen]⟩
 ·exact⟨_,_,hv,hc,hm⟩
theorem Own.reads{A:Option Addr}{n c:Nat}(h:Own w base e (.slice A n c) xs):Reads w w.heap.size 1 A n xs:=by
 have hn:n=xs.length:=by obtain⟨A',c',hv,_⟩:=h.slice;injection hv
 subst hn;exact qrt h
theorem Own.len{A:Option Addr}{n c:Nat}(h:Own w base e (.slice A n c) xs):n=xs.length:=by obtain⟨A',c',hv,_⟩:=h.slice;injection hv
theorem Own.cap{A:Option Addr}{n c:Nat}(h:Own w base e (.slice A n c) xs):n<=c/\c<=maxLen:=by obtain⟨A',c',hv,h1,h2⟩:=h.slice;injection hv with _ e1 e2;subst e1 e2;exact⟨h1,h2⟩
theorem Own.kept{row:Option Nat}(h:Own w base e v xs)(hg:w.grownBy w' row)(hne:v.ownBlock=none\/v.ownBlock≠row):Own w' base e v xs:=qlm h hg hne
theorem Own.lt(h:Own w base e v xs):∀k,v.ownBlock=some k->base<=k/\k<w.heap.size:=qln h
theorem Own.below{B:Nat}(h:Own w base e v xs)(hb:Below B w w')(hB:w.heap.size<=B):Own w' base e v xs:=by
 refine⟨h.1,?_⟩;rcases h.2 with hn|⟨g,cap,cur,rfl,hbg,hgg,rest⟩
 ·exact .inl hn
 ·refine .inr ⟨g,cap,cur,rfl,hbg,?_,rest⟩
  rw[hb.block g (qlz (ql8.1 hgg).1 hB)];exact hgg
theorem Own.base_le{b':Nat}(h:Own w base e v xs)(hb:b'<=base):Own w b' e v xs:=by
 refine⟨h.1,?_⟩;rcases h.2 with hn|⟨g,cap,cur,hv,hbg,rest⟩
 ·exact .inl hn
 ·exact .inr ⟨g,cap,cur,hv,qlw hb hbg,rest⟩
theorem Own.alloc(h:Own w base e v xs)(o:Obj):Own (w.alloc o) base e v xs:=qlo h o
theorem Own.drewN(h:Own w base e v xs)(k:Nat):Own (w.drewN k) base e v xs:=h
theorem Own.frozen{A:Addr}{n c:Nat}(h:Own w base e (.slice (some A) n c) xs)(j:Nat):w.frozen? (A.add j)=false:=by
 rcases h.2 with⟨hv,_⟩|⟨g,cap,cur,hv,_,hgg,_⟩
 ·cases hv
 ·injection hv with e1 _ _
  injection e1 with e1;subst e1;have hf:((⟨g,0,none⟩:Addr).add j).block=g:=zao _ _;unfold World.frozen?;rw[hf,hgg];simp
end
theorem Own.at_{w:World}{base:Nat}{e:TypeId}{A:Option Addr}{n c i:Nat}{xs:List Value}(h:Own w base e (.slice A n c) xs)(hi:i<n):
 ∃g u,A=some ⟨g,0,none⟩/\base<=g/\g<w.heap.size/\xs[i]? =some u/\w.cell? ⟨g,i,none⟩=some u/\w.frozen? ⟨g,i,none⟩=false/\
  ∀u':Value,Own (w.setCell ⟨g,i,none⟩ u') base e (.slice A n c) (xs.set i u'):=by
 have hn:=h.len;obtain⟨g,cap,hv,hbg,hlt⟩:=World.ownsRow.form h (by omega);have hA:A=some ⟨g,0,none⟩:=by injection hv
 subst hA;have hx:i<xs.length:=by omega
 have h':w.ownsRow base e 1 (.slice (some ⟨g,0,none⟩) n c) n xs:=by rw[hn] at h⊢;exact h
 refine⟨g,xs[i],rfl,hbg,hlt,qlx hx,?_,h'.frozenAt i,fun u'=>?_⟩
 ·rw[h'.cellAt i (by omega),qlx hx]
 ·have:=(h'.stored i u').1
  unfold Own;rw[ql9,<-hn];exact this
def Blk(w:World)(g:Nat)(t:TypeId)(cs:Array Value):Prop:=w.heap[g]? =some (.cells cs t (0,0))
section
variable{w w':World}{g:Nat}{t:TypeId}{cs:Array Value}
theorem Blk.lt(h:Blk w g t cs):g<w.heap.size:=by
 rcases qma g w.heap.size with hlt|hge
 ·exact hlt
 ·unfold Blk at h;rw[qmb hge] at h;cases h
theorem Blk.cell(h:Blk w g t cs)(i:Nat):w.cell? ⟨g,i,none⟩=cs[i]? :=cell_of_row w g i cs t (0,0) h
theorem Blk.frozen(h:Blk w g t cs)(i:Nat):w.frozen? ⟨g,i,none⟩=false:=by unfold Blk at h;simp[World.frozen?,h]
theorem Blk.new(w:World)(t:TypeId)(cs:Array Value):Blk (w.alloc (.cells cs t)) w.heap.size t cs:=heap_alloc_new w _
abbrev qrv:=@Blk.new
theorem Blk.drew(h:Blk w g t cs):Blk w.drew g t cs:=h
theorem Blk.drewN(h:Blk w g t cs)(n:Nat):Blk (w.drewN n) g t cs:=h
theorem Blk.alloc(h:Blk w g t cs)(o:Obj):Blk (w.alloc o) g t cs:=(Below.heap_alloc w o g h.lt).trans h
theorem Blk.set_(h:Blk w g t cs)(i:Nat)(u:Value):Blk (w.setCell ⟨g,i,none⟩ u) g t (cs.setIfInBounds i u):=by unfold Blk at h⊢;simp[World.setCell,Array.getElem?_modify,h]
theorem Blk.far(h:Blk w g t cs){p:Addr}(hp:g≠p.block)(u:Value):Blk (w.setCell p u) g t cs:=(qq7 w p u g hp).trans h
theorem Blk.below{B:Nat}(h:Blk w g t cs)(hb:Below B w w')(hg:g<B):Blk w' g t cs:=(hb.block g hg).trans h
abbrev qrw:=@Blk.below
theorem Blk.grown{row:Option Nat}(h:Blk w g t cs)(hb:w.grownBy w' row)(hg:some g≠row):Blk w' g t cs:=(hb.block g h.lt hg).trans h
theorem Blk.ne_{g':Nat}{t':TypeId}{cs':Array Value}(h:Blk w g t cs)(h':Blk w g' t' cs')(hne:t≠t'):g≠g':=by rintro rfl;unfold Blk at h h';rw[h] at h';injection h' with h';injection h' with _ ht;exact hne ht
abbrev qrx:=@Blk.ne_
theorem Own.blk_ne{base:Nat}{e:TypeId}{v:Value}{xs:List Value}(h:Own w base e v xs)(hg:Blk w g t cs)(hne:e≠t):v.ownBlock≠some g:=by
 rcases h.2 with⟨rfl,_⟩|⟨g',cap,cur,rfl,_,hh,_⟩
 ·simp[Value.ownBlock]
 ·intro he
  have:g'=g:=by simpa[Value.ownBlock] using he
  subst this;exact qrx (t:=e) hh hg hne rfl
theorem Own.keepT{base:Nat}{e:TypeId}{v:Value}{xs:List Value}(h:Own w base e v xs)(hg:w.grownBy w' (some g))(hT:Blk w g t cs)(hne:e≠t):Own w' base e v xs:=h.kept hg (.inr (h.blk_ne hT hne))
end
def TR(w:World)(e:TypeId)(A:Option Addr)(n:Nat)(xs:List Value):Prop:=Reads w w.heap.size 1 A n xs/\(0<n-> ∀ad,A=some ad-> ∃cs,Blk w ad.block e cs)
section
variable{w w':World}{e:TypeId}{n:Nat}{A:Option Addr}{xs:List Value}
theorem TR.nil_:TR w e A 0 []:=⟨⟨by simp,fun h=>absurd h (by omega)⟩,fun h=>absurd h (by omega)⟩
theorem TR.keep{g:Nat}{t:TypeId}{cs:Array Value}(h:TR w e A n xs)(hg:w.grownBy w' (some g))(hT:Blk w g t cs)(hne:e≠t):TR w' e A n xs:=by
 refine⟨⟨h.1.1,fun hn=>?_⟩,fun hn ad ha=>?_⟩
 ·obtain⟨ad,e1,hb,hc⟩:=h.1.2 hn
  obtain⟨cs',hB⟩:=h.2 hn ad e1;have hng:ad.block≠g:=qrx hB hT hne;refine⟨ad,e1,qlz hb hg.size,fun j u hu=>?_⟩;rw[World.cell?_of_block (hg.block (ad.add j).block (by rw[zao];exact hb) (by rw[zao];simpa using hng))];exact hc j u hu
 ·obtain⟨cs',hB⟩:=h.2 hn ad ha
  exact⟨cs',hB.grown hg (by simpa using qrx hB hT hne)⟩
theorem TR.below(h:TR w e A n xs)(hb:Below w.heap.size w w'):TR w' e A n xs:=
 ⟨(h.1.below hb).more hb.size,fun hn ad ha=>by
   obtain⟨cs',hB⟩:=h.2 hn ad ha;exact⟨cs',hB.below hb hB.lt⟩⟩
theorem TR.grown{row:Option Nat}(h:TR w e A n xs)(hg:w.grownBy w' row)(hne:∀ad g,A=some ad->row=some g->ad.block≠g):TR w' e A n xs:=
 ⟨h.1.grown_far hg hne,fun hn ad ha=>by obtain⟨cs',hB⟩:=h.2 hn ad ha;exact⟨cs',hB.grown hg (fun e'=>hne _ _ ha e'.symm rfl)⟩⟩
theorem TR.drewN(h:TR w e A n xs)(k:Nat):TR (w.drewN k) e A n xs:=h
theorem TR.alloc(h:TR w e A n xs)(o:Obj):TR (w.alloc o) e A n xs:=h.below ((qq8 _ _).alloc (ql6 _) o)
theorem TR.cut(h:TR w e A n xs){k cap:Nat}(hk:k<=n)(hc:n<=cap):TR w e (if cap=k then A else A.map (·.add k)) (n-k) (xs.drop k):=by
 have h1:=h.1.cut hk hc;rw[qmd] at h1;refine⟨h1,fun hn ad ha=>?_⟩;rw[if_neg (by omega)] at ha;rcases A with _|a
 ·cases ha
 ·injection ha with ha
  subst ha;obtain⟨cs',hB⟩:=h.2 (by omega) a rfl;exact⟨cs',by simpa[zao] using hB⟩
theorem TR.take(h:TR w e A n xs){k:Nat}(hk:k<=n):TR w e A k (xs.take k):=by have h1:=h.1.take hk;rw[qmd] at h1;exact⟨h1,fun hn ad ha=>h.2 (by omega) ad ha⟩
theorem TR.of_own{base:Nat}{c:Nat}(h:Own w base e (.slice A n c) xs):TR w e A n xs:=by
 refine⟨h.reads,fun hn ad ha=>?_⟩;rcases h.2 with⟨hv,hx⟩|⟨g,cap,cur,hv,_,hh,_⟩
 ·injection hv with e1 e2 _
  omega
 ·injection hv with e1 _ _
  rw[ha] at e1;injection e1 with e1;subst e1;exact⟨cur,hh⟩
abbrev qry:=@TR.of_own
end
def zai(l:List Nat):ByteArray:=⟨(l.map UInt8.ofNat).toArray⟩
theorem zbt(l:List Nat):(zai l).size=l.length:=by show(zai l).data.size=_;simp[zai]
theorem qfq(b:ByteArray):∀(k i:Nat) (r:List UInt8),b.size-i=k->ByteArray.toList.loop b i r=r.reverse++b.data.toList.drop i:=by
 intro k;induction k with
 |zero=>
  intro i r h;rw[ByteArray.toList.loop];have hs:b.data.toList.length<=i:=by rw[qme];show b.size<=i;omega
  rw[if_neg (by omega),qmf hs,qmg]
 |succ k ih=>
  intro i r h;rw[ByteArray.toList.loop,if_pos (by omega),ih _ _ (by omega)];have hs:i<b.data.toList.length:=by rw[qme];show i<b.size;omega
  rw[qmh hs,List.reverse_cons,qmi];congr 1
  simp only[List.singleton_append,qli,and_true];have hi:i<b.data.size:=by rw[<-qme];exact hs
  show b.data[i]! =_;rw[getElem!_pos b.data i hi];rfl
theorem z41(b:ByteArray):b.toList=b.data.toList:=by rw[ByteArray.toList,qfq b b.size 0 [] (by omega)];simp
theorem zj5(l:List Nat):(zai l).toList=l.map UInt8.ofNat:=by rw[z41];rfl
theorem zi6{l m:List Nat}(hl:∀x∈l,x<256)(hm:∀x∈m,x<256):((zai l).toList==(zai m).toList)=decide (l=m):=by
 rw[zj5,zj5,qmj];simp only[beq_iff_eq,decide_eq_true_eq];constructor
 ·intro h
  refine qmk (by simpa using congrArg List.length h) fun i h1 h2=>?_
  have:=congrArg (fun l=>(l[i]?).map UInt8.toNat) h;simp[List.getElem?_eq_getElem h1,List.getElem?_eq_getElem h2] at this;have a1:=hl _ (qml h1);have a2:=hm _ (qml h2);omega
 ·rintro rfl;rfl
theorem z42{P:Program}{w:World}{src dst e:TypeId}(hs:P.underlying src=some (.slice e))(he:P.underlying e=some (.int .u8))(hd:P.underlying dst=some .string){B n c:Nat}{A:Option Addr}{l:List Nat}
 (h:Reads w B 1 A n (zah .u8 l)):(convert src dst (.slice A n c)).run P w= .ok (.string (zai l)) w:=by
 obtain rfl:=h.len;rcases A with _|ad
 ·have hl0:l.length=0:=by
   rcases qmm l.length with h0|h0
   ·exact h0
   ·obtain⟨ad,h',_⟩:=h.2 h0
    cases h'
  obtain rfl:l=[]:=qmn hl0;rw[run_convert_bytes_string w src dst e none _ c hs he hd];simp[Conv.bytesToString,zai];rfl
 ·have hl:(loadCells ad l.length).run P w= .ok ((l.map fun n:Nat=>(n:Int)).map (Value.int .u8)).toArray w:=by
   have hc:∀j v,(zah .u8 l)[j]? =some v->w.cell? (ad.add j)=some v:=by
    intro j v hv;rcases qmm l.length with h0|h0
    ·obtain rfl:l=[]:=qmn h0
     simp[zah] at hv
    ·obtain⟨ad',e',_,hc⟩:=h.2 h0
     injection e' with e';subst e';exact hc j v hv
   have:=run_loadCells_list (P:=P) w ad (zah .u8 l) hc;rw[zaa] at this;rw[this];simp[zah]
  rw[run_convert_bytes_string w src dst e _ _ c hs he hd,run_bytesToString w ad _ c _ hl,foldl_push_bytes];simp[zai,ByteArray.empty,ByteArray.emptyWithCapacity];rfl
theorem Reads.lit(w:World)(e:TypeId)(cs:Array Value)(n:Nat)(k:IntKind)(l:List Nat)(h:cs.toList=zah k l)(hn:n=l.length):Reads (w.alloc (.cells cs e)) (w.alloc (.cells cs e)).heap.size 1 (some ⟨w.heap.size,0,none⟩) n (zah k l):=by subst hn;refine⟨by rw[zaa];simp,fun _=>⟨_,rfl,by simp,?_⟩⟩;have:=qq9 (heap_alloc_new w (.cells cs e));rwa[h] at this
structure ElT(P:Program)(t e:TypeId)(z:Value)(size bytes:Nat):Prop where
 ht:P.underlying t=some (.slice e)
 hi:(P.info? e).map (fun i=>(i.zero,i.size,i.bytes))=some (some z,size,bytes)
 hz:z.cells.size=size
 hs:0<size
section
variable{P:Program}{ops:Array Oper}{rest:List Oper}{o:Oper}{a:Act}{Q:Exit->Act->World->Prop}
theorem zgc{w:World}{t e:TypeId}{z:Value}{bytes:Nat}(E:ElT P t e z 1 bytes)(hgd:o.guard=none)(s x:Operand)
 (ho:o.op= .call {callee:= .builtin .append,args:= #[s,x],argTypes:= #[t,t]})
 {W:World}{B base:Nat}{v u:Value}{xs:List Value}(hown:Own w base e v xs)(hs:a.eval s=v)(hx:a.eval x= .slice (some ⟨w.heap.size,0,none⟩) 1 1)
 (hb:Below B W w)(hbB:B<=base)(hbase:base<=w.heap.size)(h1:u.oneCell'=true)
 (hn:(xs.length+1)*bytes<=140737488355328)(hm:xs.length+1<=maxLen)
 (h:∀A' c' w',xs.length+1<=c'->c'<=maxLen->Own w' base e (.slice A' (xs.length+1) c') (xs++[u])->w.grownBy w' v.ownBlock->Below B W w'->w.heap.size<w'.heap.size->
  (Value.ownBlock (.slice A' (xs.length+1) c')=v.ownBlock\/ ∃g,Value.ownBlock (.slice A' (xs.length+1) c')=some g/\w.heap.size<=g)->wpList P ops Q rest (a.put o.dst (.slice A' (xs.length+1) c')) w'):
 wpList P ops Q (o::rest) a (w.alloc (.cells #[u] e)):=by
 obtain⟨i,hi,hz0,hz1,hz2⟩:=info_parts E.hi;refine wpList_append_own_at _ hgd s x t ho base e i z 1 bytes E.ht hi hz0 hz1 hz2 E.hz (by omega) v xs.length xs hs (qlo hown _) ⟨w.heap.size,0,none⟩ 1 1 [u] hx rfl (cell_one_new _ _ _) (by simpa using h1) hm hn (by simp;omega) ?_;intro v' w' hown' hg _ hat;have hxl:(xs++[u]).length=xs.length+1:=by simp
 have hown2:Own w' base e v' (xs++[u]):=by unfold Own;rw[hxl];exact hown'
 obtain⟨A',c',rfl,hc1,hc2⟩:=hown2.slice;rw[hxl] at hc1 hown2 hat⊢;have hg2:w.grownBy w' v.ownBlock:=(qra w (.cells #[u] e) v.ownBlock).trans hg;have hsz:=hg.size;simp at hsz;refine h A' c' w' hc1 hc2 hown2 hg2 (hb.grown hg2 (qlw hbB hbase) (fun k hk=>by have:=(hown.lt k hk).1;omega)) (by omega) ?_;rcases hat with e1|e1
 ·exact .inl e1
 ·exact .inr ⟨_,e1,by simp⟩
theorem zf2{w:World}{t e:TypeId}{z:Value}{bytes:Nat}(E:ElT P t e z 1 bytes)(hgd:o.guard=none)(s x:Operand)
 (ho:o.op= .call {callee:= .builtin .append,args:= #[s,x],argTypes:= #[t,t]})
 {W:World}{B base:Nat}{v:Value}{xs news:List Value}{A:Option Addr}{m c:Nat}(hown:Own w base e v xs)(hr:Reads w w.heap.size 1 A m news)(hs:a.eval s=v)(hx:a.eval x= .slice A m c)
 (hb:Below B W w)(hbB:B<=base)(hbase:base<=w.heap.size)(h1:∀u∈news,u.oneCell'=true)
 (hn:(xs.length+m)*bytes<=140737488355328)(hm:xs.length+m<=maxLen)
 (h:∀A' c' w',xs.length+m<=c'->c'<=maxLen->Own w' base e (.slice A' (xs.length+m) c') (xs++news)->w.grownBy w' v.ownBlock->Below B W w'->
  (Value.ownBlock (.slice A' (xs.length+m) c')=v.ownBlock\/ ∃g,Value.ownBlock (.slice A' (xs.length+m) c')=some g/\w.heap.size<=g)->wpList P ops Q rest (a.put o.dst (.slice A' (xs.length+m) c')) w'):
 wpList P ops Q (o::rest) a w:=by
 obtain⟨i,hi,hz0,hz1,hz2⟩:=info_parts E.hi;have hl:news.length=m:=by have:=hr.1;omega
 have hxl:(xs++news).length=xs.length+m:=by simp[hl]
 rcases A with _|ad
 ·have hm0:m=0:=by
   rcases qmm m with h0|h0
   ·exact h0
   ·obtain⟨ad,h',_⟩:=hr.2 h0
    cases h'
  subst hm0;have hn0:news=[]:=qmn hl;subst hn0;have hrun:∀ty,(Builtin.append_ #[t,t] ty #[v,.slice none 0 c]).run P w= .ok v w:=by
   intro ty;rcases hown.2 with⟨rfl,hx0⟩|⟨g,cap,cur,rfl,_,_,hnc,_⟩
   ·simp[Builtin.append_,run_underlying E.ht,sizeOf,typeInfo,hi,Builtin.lenOf,Builtin.firstCells]
   ·simp[Builtin.append_,run_underlying E.ht,sizeOf,typeInfo,hi,Builtin.lenOf,Builtin.firstCells,hnc,storeCells]
  refine wpList_plain hgd fun K hK=>?_
  unfold Oper.wp execOp;simp only[ho,resolve,invoke,builtin,qrb,qrc,qrd,qmo,qmp,qmq,hs,hx,hrun];obtain⟨A',c',rfl,hc1,hc2⟩:=hown.slice;exact hK _ _ (h A' c' w hc1 hc2 (by simpa using hown) (qlp w _) hb (.inl rfl))
 ·have hcells:∀j u,news[j]? =some u->w.cell? (ad.add j)=some u:=by
   intro j u hu;rcases qmm m with h0|h0
   ·subst h0
    have hn:news=[]:=qmn hl;subst hn;simp at hu
   ·obtain⟨ad',h',_,hc⟩:=hr.2 h0
    injection h' with h';subst h';exact hc j u hu
  refine wpList_append_own_at _ hgd s x t ho base e i z 1 bytes E.ht hi hz0 hz1 hz2 E.hz (by omega) v xs.length xs hs hown ad m c news hx (by omega) hcells h1 hm hn hbase ?_;intro v' w' hown' hg _ hat;have hown2:Own w' base e v' (xs++news):=by unfold Own;rw[hxl];exact hown'
  obtain⟨A',c',rfl,hc1,hc2⟩:=hown2.slice;rw[hxl] at hc1 hown2 hat⊢;refine h A' c' w' hc1 hc2 hown2 hg (hb.grown hg (qlw hbB hbase) (fun k hk=>by have:=(hown.lt k hk).1;omega)) ?_;rcases hat with e1|e1
  ·exact .inl e1
  ·exact .inr ⟨_,e1,ql6 _⟩
theorem zci{w:World}{t e:TypeId}{z:Value}{bytes:Nat}(E:ElT P t e z 1 bytes)(hgd:o.guard=none)(lo co:Operand)(ho:o.op=Op.makeSlice t lo co)
 {W:World}{B:Nat}{kl kc:IntKind}{L C:Int}(l c:Nat)(hl:a.eval lo= .int kl L)(hc:a.eval co= .int kc C)(hL:L=(l:Int))(hC:C=(c:Int))(hlc:l<=c)(hb:Below B W w)(hbase:B<=w.heap.size)
 (hz1:z.oneCell'=true)(hn:c*bytes<=140737488355328)(hm:c<=maxLen)
 (h:∀w',Own w' w.heap.size e (.slice (some ⟨w.heap.size,0,none⟩) l c) (List.replicate l z)->w.grownBy w' none->Below B W w'->w'.heap.size=w.heap.size+1->wpList P ops Q rest (a.put o.dst (.slice (some ⟨w.heap.size,0,none⟩) l c)) w'):
 wpList P ops Q (o::rest) a w:=by
 obtain⟨i,hi,hz0,hs1,hb1⟩:=info_parts E.hi;subst hL hC;have hzc:z.cells= #[z]:=by
  revert hz1;unfold Value.oneCell' Value.cells
  cases z<;> simp
 have hmC:(c:Int)<=9223372036854775807:=by have h:=hm;simp only[maxLen] at h;omega
 have hbC:(i.bytes:Int)*(c:Int)<=281474976710656:=by
  have h:((i.bytes*c:Nat):Int)<=281474976710656:=by rw[hb1,qmr];omega
  rwa[qms] at h
 have hrun:=run_make (P:=P) w t e i z E.ht hi hz0 kl kc (l:Int) (c:Int) (by omega) (by omega) hbC hmC;rw[qmt,qmt,hs1,qmd,hzc] at hrun;refine wpList_plain hgd fun K hK=>?_
 unfold Oper.wp;simp[execOp,ho,hl,hc,hrun,Result.andThen];refine hK _ _ (h _ ?_ (qra _ _ _) (hb.alloc hbase _) (by simp));refine⟨by simp,.inr ⟨_,c,_,by simp,ql6 _,heap_alloc_new w _,by simpa using hlc,hm,by simp[size_madeCells],?_⟩⟩;rw[toList_madeCells_one];simp[Nat.min_eq_left hlc]
theorem zok{w:World}{t e:TypeId}{z:Value}{bytes:Nat}(E:ElT P t e z 1 bytes)(hgd:o.guard=none)(d s:Operand)
 (ho:o.op= .call {callee:= .builtin .copy,args:= #[d,s],argTypes:= #[t,t]})
 {W:World}{B base:Nat}{xs ys:List Value}{D A:Option Addr}{m c n cd:Nat}(hown:Own w base e (.slice D n cd) xs)(hr:Reads w w.heap.size 1 A m ys)(hd:a.eval d= .slice D n cd)(hs:a.eval s= .slice A m c)
 (r:Nat)(hmr:Nat.min m n=r)(hb:Below B W w)(hbB:B<=base)(h1:∀u∈ys,u.oneCell'=true)
 (h:∀w',Own w' base e (.slice D n cd) (ys.take n++xs.drop m)->w.grownBy w' (Value.ownBlock (.slice D n cd))->Below B W w'->w'.heap.size=w.heap.size->wpList P ops Q rest (a.put o.dst (.int .i64 (r:Int))) w'):
 wpList P ops Q (o::rest) a w:=by
 subst hmr;obtain⟨i,hi,hz0,hs1,hb1⟩:=info_parts E.hi;have hsz:(P.info? e).map (·.size)=some 1:=by simp[hi,hs1]
 have hln:=hown.len;have hym:ys.length=m:=by have:=hr.1;omega
 by_cases h0:Nat.min m n=0
 ·have hrun:∀ty,(Builtin.copy_ #[t,t] ty #[.slice D n cd,.slice A m c]).run P w= .ok (goInt 0) w:=fun ty=>run_copy_none w t t ty e D A n cd m c E.ht hsz h0
  refine wpList_plain hgd fun K hK=>?_
  unfold Oper.wp execOp;simp only[ho,resolve,invoke,builtin,qrb,qrc,qrd,qmo,qmp,qmq,hd,hs,hrun];have hx:ys.take n++xs.drop m=xs:=by
   rcases Nat.min_eq_zero_iff.1 h0 with hm|hn
   ·subst hm
    have:ys=[]:=qmn hym;subst this;simp
   ·subst hn
    have:xs=[]:=qmn hln.symm;subst this;simp
  have:=h w (by rw[hx];exact hown) (qlp w _) hb rfl;rw[h0] at this;exact hK _ _ this
 ·have hmin:0<m/\0<n:=by
   constructor
   ·rcases qmm m with e'|e'
    ·subst e';exact absurd (Nat.zero_min n) h0
    ·exact e'
   ·rcases qmm n with e'|e'
    ·subst e';exact absurd (Nat.min_zero m) h0
    ·exact e'
  obtain⟨ad,rfl,_,hcell⟩:=hr.2 hmin.1;rcases hown.2 with⟨hv,hx0⟩|⟨g,cap,cur,hv,hbg,hgg,hnc,hcm,hcs,htake⟩
  ·omega
  ·injection hv with e1 e2 e3
   subst e1 e3;have hcl:(ys.take n).length=Nat.min m n:=by rw[ql2,hym,Nat.min_comm]
   have hmn:Nat.min m n<=n:=Nat.min_le_right m n;have hcl2:(ys.take n).length<=n:=by rw[hcl];exact hmn
   have hsrc:∀j v,(ys.take n)[j]? =some v->w.cell? (ad.add j)=some v:=fun j v hv=>hcell j v (by
    rw[ql5] at hv;split at hv
    ·exact hv
    ·cases hv)
   have hrun:∀ty,(Builtin.copy_ #[t,t] ty #[.slice (some ⟨g,0,none⟩) n cd,.slice (some ad) m c]).run P w=
    .ok (goInt (ys.take n).length) (w.setRow g (cur.toList.take 0++ys.take n++cur.toList.drop (0+(ys.take n).length)).toArray):=fun ty=>
    run_copy_row P w t t ty e g 0 n cd ad m c cur e (ys.take n) E.ht hsz hgg hcl hsrc (by rw[hcl];omega) (fun v hv=>h1 v (qmu hv))
   refine wpList_plain hgd fun K hK=>?_
   unfold Oper.wp execOp;simp only[ho,resolve,invoke,builtin,qrb,qrc,qrd,qmo,qmp,qmq,hd,hs,hrun,hcl];have hlen:(ys.take n++xs.drop m).length=xs.length:=by rw[qmv,hcl,ql0,<-hln];simp only[Nat.min_def];split<;> omega
   refine hK _ _ (h _ ?_ ⟨rfl,rfl,rfl,by simp[World.setRow],fun k _ hk=>setRow_other w g k _ (fun e=>hk (by simp[Value.ownBlock,e]))⟩ (below_setRow hb (qlw hbB hbg) _) (by simp[World.setRow]));refine⟨by simp,.inr ⟨g,cd,_,by rw[hlen,hln],hbg,setRow_heap w g cur _ e _ hgg,by rw[hlen];exact hnc,hcm,?_,?_⟩⟩
   ·simp only[qmw,qmx,qmy,qmz,qmv,hcl,ql0,qme]
    omega
   ·rw[hlen,qmd]
    simp only[qmw,qmx,qmy];rw[qmd] at htake;rw[List.take_append,hcl,qm0 (by omega)];congr 1
    rw[List.take_drop,show Nat.min m n+(xs.length-Nat.min m n)=xs.length by omega,htake];by_cases hmn':m<=n
    ·rw[show Nat.min m n=m from ql3 hmn']
    ·rw[show Nat.min m n=n from Nat.min_eq_right (by omega),qmf (by omega),qmf (by omega)]
theorem zbr{w:World}{t e:TypeId}{z:Value}{bytes:Nat}(E:ElT P t e z 1 bytes)(hgd:o.guard=none)(s x:Operand)
 (ho:o.op= .call {callee:= .builtin .append,args:= #[s,x],argTypes:= #[t,t]})
 {W:World}{B base n c:Nat}{A:Option Addr}{u:Value}{k:IntKind}{l:List Nat}(hown:Own w base e (.slice A n c) (zah k l))(hs:a.eval s= .slice A n c)(hx:a.eval x= .slice (some ⟨w.heap.size,0,none⟩) 1 1)
 (y:Nat)(hu:u= .int k (y:Int))(hb:Below B W w)(hbB:B<=base)(hbase:base<=w.heap.size)
 (hn:(n+1)*bytes<=140737488355328)(hm:n+1<=maxLen)
 (h:∀A' c' w',n+1<=c'->c'<=maxLen->Own w' base e (.slice A' (n+1) c') (zah k (l++[y]))->w.grownBy w' (Value.ownBlock (.slice A n c))->Below B W w'->w.heap.size<w'.heap.size->
  (Value.ownBlock (.slice A' (n+1) c')=Value.ownBlock (.slice A n c)\/ ∃g,Value.ownBlock (.slice A' (n+1) c')=some g/\w.heap.size<=g)->wpList P ops Q rest (a.put o.dst (.slice A' (n+1) c')) w'):
 wpList P ops Q (o::rest) a (w.alloc (.cells #[u] e)):=by
 obtain rfl:n=l.length:=by have:=hown.len;rwa[zaa] at this
 subst hu;refine zgc E hgd s x ho hown hs hx hb hbB hbase rfl (by rw[zaa];exact hn) (by rw[zaa];exact hm) ?_;rw[zaa,zdw,qaw] at*;exact h
theorem zal{w:World}{t e:TypeId}{z:Value}{bytes:Nat}(E:ElT P t e z 1 bytes)(hgd:o.guard=none)(s x:Operand)
 (ho:o.op= .call {callee:= .builtin .append,args:= #[s,x],argTypes:= #[t,t]})
 {W:World}{B base n c m c2:Nat}{A A2:Option Addr}{k:IntKind}{l l2:List Nat}(hown:Own w base e (.slice A n c) (zah k l))(hr:Reads w w.heap.size 1 A2 m (zah k l2))(hs:a.eval s= .slice A n c)(hx:a.eval x= .slice A2 m c2)
 (hb:Below B W w)(hbB:B<=base)(hbase:base<=w.heap.size)(hn:(n+m)*bytes<=140737488355328)(hm:n+m<=maxLen)
 (h:∀A' c' w',n+m<=c'->c'<=maxLen->Own w' base e (.slice A' (n+m) c') (zah k (l++l2))->w.grownBy w' (Value.ownBlock (.slice A n c))->Below B W w'->
  (Value.ownBlock (.slice A' (n+m) c')=Value.ownBlock (.slice A n c)\/ ∃g,Value.ownBlock (.slice A' (n+m) c')=some g/\w.heap.size<=g)->wpList P ops Q rest (a.put o.dst (.slice A' (n+m) c')) w'):
 wpList P ops Q (o::rest) a w:=by
 obtain rfl:n=l.length:=by have:=hown.len;rwa[zaa] at this
 refine zf2 E hgd s x ho hown hr hs hx hb hbB hbase (zct _ _) (by rw[zaa];exact hn) (by rw[zaa];exact hm) ?_;rw[zaa,zdw] at*;exact h
end
def vp(n:Nat):List Nat:=if _h:n<128 then [n] else(n%128+128)::vp (n/128)
theorem zgd{n:Nat}(h:n<128):vp n=[n]:=by rw[vp,dif_pos h]
theorem zge{n:Nat}(h: ¬n<128):vp n=(n%128+128)::vp (n/128):=by rw[vp,dif_neg h]
theorem qif(k:Nat):∀n,n<128^(k+1)->(vp n).length<=k+1:=by
 induction k with
 |zero=>intro n h;rw[zgd (by omega)];simp
 |succ k ih=>
  intro n h;by_cases hn:n<128
  ·rw[zgd hn];simp
  ·rw[zge hn]
   have:=ih (n/128) (qm7 (by rw[qm3] at h;omega));simp;omega
theorem zas{n:Nat}(h:n<18446744073709551616):(vp n).length<=10:=qif 9 n (by omega)
theorem zue(n:Nat):0<(vp n).length:=by
 by_cases hn:n<128
 ·rw[zgd hn];simp
 ·rw[zge hn];simp
def low(n:Nat):Nat->List Nat
 |0=>[]
 |k+1=>low n k++[n/256^k%256]
theorem zbe(n k:Nat):(low n k).length=k:=by induction k<;> simp_all[low]
def num:List Nat->Nat
 | []=>0
 |b::l=>b+256*num l
theorem zzn(l:List Nat)(b:Nat):num (l++[b])=num l+b*256^l.length:=by
 induction l with
 |nil=>simp[num]
 |cons a l ih=>simp only[qm8,num,ih,qm9,qm3];rw[qna,qlv];congr 2;rw[qnb,qmr 256]
theorem zrd(l:List Nat)(h:∀x∈l,x<256):num l<256^l.length:=by
 induction l with
 |nil=>simp[num]
 |cons a l ih=>
  have h1:=ih fun x hx=>h x (by simp[hx])
  have h2:=h a (by simp);simp only[num,qm9,qm3];omega
theorem zae{α:Type}(l:List α)(k:Nat)(d:α)(h:k<l.length):l.take (k+1)=l.take k++[l.getD k d]:=by rw[List.take_add_one,qlx h];simp[h]
theorem z44(n k:Nat):num (low n k)=n%256^k:=by
 induction k with
 |zero=>simp[low,num,Nat.mod_one]
 |succ k ih=>
  rw[low,zzn,ih,zbe,qm3,Nat.mod_mul,qmr (256^k)]
theorem zgf(n k:Nat):∀x∈low n k,x<256:=by
 induction k with
 |zero=>intro x hx;simp[low] at hx
 |succ k ih=>
  intro x hx;simp only[low,qnd,qne] at hx;rcases hx with hx|hx
  ·exact ih x hx
  ·subst hx;exact qnf _ (by omega)
theorem zjz{α:Type}(l:List α)(k:Nat)(d:α)(h:k<l.length):l.drop k=l.getD k d::l.drop (k+1):=by rw[qmh h];simp[h]
theorem zkm{n k:Nat}(h:n<256^k):num (low n k)=n:=by rw[z44,qng h]
open Go.RowKit
section
variable{P:Program}{ops:Array Oper}{Q:Exit->Act->World->Prop}
theorem zhx{S S':World->Prop}(h:∀w,S w->S' w):∀(fuel:Nat) (listed:Array Bool) (a:Act) (w:World),wpAnyH P .any ops Q S fuel listed a w->wpAnyH P .any ops Q S' fuel listed a w
 |0,_,_,_,hh=>hh
 |fuel+1,_,_,_,hh=>⟨hh.1,fun i hi=>wpOp_mono (fun a' w' h'=>⟨h w' h'.1,zhx h fuel _ a' w' h'.2⟩) (hh.2 i hi)⟩
def qfu(ops:Array Oper):Array Bool->List (Bool × Nat)->Bool
 |listed,[]=>(Region.ready .any ops listed).isEmpty
 |listed,(true,i)::r=>(Region.ready .any ops listed).contains i&&(Region.free .any ops listed i&&qfu ops (listed.setIfInBounds i true) r)
 |listed,(false,i)::r=>decide (Region.ready .any ops listed=[i])&&qfu ops (listed.setIfInBounds i true) r
def zzo(P:Program)(ops:Array Oper)(R:World->World->Prop)(Q:Exit->Act->World->Prop):List (Bool × Nat)->Act->World->Prop
 | [],a,w=>Q .normal a w
 |(true,i)::r,a,w=>∃o v,ops[i]? =some o/\((Region.wanted o (yielded ops a.tmps)=true/\ ∀w',R w w'->(execOp a.eval o).run P w'= .ok (.value v) w')\/(Region.wanted o (yielded ops a.tmps)=false/\v=undef))/\zzo P ops R Q r (a.put o.dst v) w
 |(false,i)::r,a,w=>∃o,ops[i]? =some o/\if Region.wanted o (yielded ops a.tmps) then o.wp P a w (fun a' w'=>R w w'/\zzo P ops R Q r a' w') (NoPanic Q) else zzo P ops R Q r (a.put o.dst undef) w
variable{R:World->World->Prop}
theorem zug(hrefl:∀w,R w w)(htrans:∀{x y z},R x y->R y z->R x z)(hs:Region.noSelect ops=true):
 ∀(ord:List (Bool × Nat)) (fuel:Nat) (listed:Array Bool) (a:Act) (w:World),ord.length<=fuel->qfu ops listed ord=true->zzo P ops R Q ord a w->wpAnyH P .any ops (NoPanic Q) (R w) fuel listed a w:=by
 intro ord;induction ord with
 |nil=>
  intro fuel listed a w _ hok h;exact wpAnyH_done (by simpa[qfu] using hok) (NoPanic.normal h) fuel
 |cons x r ih=>
  obtain⟨b,i⟩:=x;intro fuel listed a w hl hok h;obtain⟨fuel,rfl⟩:∃k,fuel=k+1:=⟨fuel-1,by simp at hl;omega⟩;have hl':r.length<=fuel:=by simp at hl;omega
  cases b with
  |true=>
   obtain⟨o,v,ho,hv,hr⟩:=h;simp only[qfu,qnt] at hok;obtain⟨h1,h2,h3⟩:=hok;exact wpAnyH_take ho hs h2 h1 (fun _ _ _ hp=>hp) hv (hrefl w) (ih fuel _ _ w hl' h3 hr)
  |false=>
   obtain⟨o,ho,hc⟩:=h;simp only[qfu,qnt,decide_eq_true_eq] at hok;obtain⟨h1,h3⟩:=hok;refine wpAnyH_all h1 (by simp) ?_;intro j hj;obtain rfl:j=i:=by simpa using hj
   unfold wpOp;simp only[ho];split
   ·rename_i hw
    rw[if_pos hw] at hc;exact .inl (Oper.wp_mono (fun a' w' hh=>⟨hh.1,zhx (fun z hz=>htrans hh.1 hz) fuel _ a' w' (ih fuel _ a' w' hl' h3 hh.2)⟩) hc)
   ·rename_i hw
    rw[if_neg hw] at hc;exact⟨hrefl w,ih fuel _ _ w hl' h3 hc⟩
theorem zaw{id:Nat}{a:Act}{w:World}(R:World->World->Prop)(ord:List (Bool × Nat))(hrefl:∀w,R w w)(htrans:∀{x y z},R x y->R y z->R x z)(hm:P.follows .mixedOrders=true)
 (hs:Region.noSelect ops=true)(hl:decide (ord.length<=ops.size)=true)(hok:qfu ops (Array.replicate ops.size false) ord=true)(h:zzo P ops R Q ord a w.drew):(Code.region id ops true).wp P Q a w:=
 wp_region_noPanic (wp_region_held hm (zug hrefl htrans hs ord ops.size _ a _ (by simpa using hl) hok h))
abbrev New(w w':World):Prop:=Below w.heap.size w w'
theorem New.refl(w:World):New w w:=qq8 _ _
abbrev qrz:=@New.refl
theorem New.trans{x y z:World}(h:New x y)(k:New y z):New x z:=qrh h (qri k h.size)
abbrev qr0:=@New.trans
theorem New.drew(w:World):New w w.drew:=(qq8 _ _).drew
abbrev qr1:=@New.drew
abbrev Far(g:Nat)(w w':World):Prop:=w.grownBy w' (some g)
theorem Far.refl(g:Nat)(w:World):Far g w w:=qlp w _
abbrev qr2:=@Far.refl
theorem Far.trans{g:Nat}{x y z:World}(h:Far g x y)(k:Far g y z):Far g x z:=qlq h k
abbrev qr3:=@Far.trans
theorem Far.drew(g:Nat)(w:World):Far g w w.drew:=⟨rfl,rfl,rfl,ql6 _,fun _ _ _=>rfl⟩
theorem Far.of_new{g:Nat}{w w':World}(h:New w w'):Far g w w':=⟨h.os,h.tape,h.output,h.size,fun k hk _=>h.block k hk⟩
abbrev qr4:=@Far.of_new
theorem Far.below{g B:Nat}{a w w':World}(h:Below B a w)(hg:Far g w w')(hB:B<=g)(hBw:B<=a.heap.size):Below B a w':=zbo h hg hB hBw
abbrev qr5:=@Far.below
theorem New.far{w w0 w1:World}{g:Nat}(h:New w w0)(k:Far g w0 w1)(hg:w.heap.size<=g):New w w1:=qr5 h k hg (ql6 _)
abbrev qr6:=@New.far
variable{i:Nat}{r:List (Bool × Nat)}{a:Act}{w:World}{o:Oper}{v:Value}
theorem zda(h:Q .normal a w):zzo P ops R Q [] a w:=h
section
variable{dst:Option Tmp}{op:Op}{ty:TypeId}{pos:String}{af:Array Edge}{gd:Option (Nat × Bool)}
theorem zaj(ho:ops[i]? =some ⟨dst,op,ty,pos,af,gd⟩)(hw:Region.wanted ⟨dst,op,ty,pos,af,gd⟩ (yielded ops a.tmps)=true)(hv:∀w',R w w'->(execOp a.eval ⟨dst,op,ty,pos,af,gd⟩).run P w'= .ok (.value v) w')(h:zzo P ops R Q r (a.put dst v) w):zzo P ops R Q ((true,i)::r) a w:=
 ⟨_,v,ho,.inl ⟨hw,hv⟩,h⟩
theorem qfv{b:Bool}(ho:ops[i]? =some ⟨dst,op,ty,pos,af,gd⟩)(hw:Region.wanted ⟨dst,op,ty,pos,af,gd⟩ (yielded ops a.tmps)=false)(h:zzo P ops R Q r (a.put dst undef) w):zzo P ops R Q ((b,i)::r) a w:=by
 cases b
 ·exact⟨_,ho,by rw[if_neg (by simp[hw])];exact h⟩
 ·exact⟨_,undef,ho,.inr ⟨hw,rfl⟩,h⟩
theorem za6(ho:ops[i]? =some ⟨dst,op,ty,pos,af,gd⟩)(hw:Region.wanted ⟨dst,op,ty,pos,af,gd⟩ (yielded ops a.tmps)=true)(h:∀K:Act->World->Prop,(∀a' w',R w w'->zzo P ops R Q r a' w'->K a' w')->Oper.wp P ⟨dst,op,ty,pos,af,gd⟩ a w K (NoPanic Q)):zzo P ops R Q ((false,i)::r) a w:=
 ⟨_,ho,by rw[if_pos hw];exact h _ fun _ _ h1 h2=>⟨h1,h2⟩⟩
theorem qey{src dst' e:TypeId}{x:Operand}{A:Option Addr}{n c:Nat}{l:List Nat}(hs:P.underlying src=some (.slice e))(he:P.underlying e=some (.int .u8))(hd:P.underlying dst'=some .string)
 (ho:ops[i]? =some ⟨dst,.convert src dst' x,ty,pos,af,gd⟩)(hw:Region.wanted ⟨dst,.convert src dst' x,ty,pos,af,gd⟩ (yielded ops a.tmps)=true)(hx:a.eval x= .slice A n c){w0:World}(hr:Reads w0 w0.heap.size 1 A n (zah .u8 l))(hU:New w0 w)
 (h:zzo P ops New Q r (a.put dst (.string (zai l))) w):zzo P ops New Q ((true,i)::r) a w:=
 zaj ho hw (fun w' hb=>by have:=z42 (c:=c) hs he hd (hr.below (qr0 hU hb));simp[execOp,hx,this,Result.andThen]) h
end
end
open Go.RowKit Go.WideShapes Go.ChangeShapes
section
variable{H:Type}{enc:TypeId × Value->H}{P:Program}
theorem zkt(hl:laidOutB P=true){W W':World}{sp:Nat->Bool}(hb:Below W.heap.size W W'):
 ∀{ts:List TypeId} {vs:List Value} {ds:List (DataW H)} {ps:List MemPlace},(∀t∈ts,P.readableRec t=true/\t<P.types.size)->DataW.TrodAll enc P W 0 (fun _=>true) true ts vs ds ps->
  (∀p∈ps,p.block<W.heap.size)->(∀p∈ps,sp p.block=true)->DataW.TrodAll enc P W' 0 sp true ts vs ds ps
 | [],_,_,_,_,h,_,_=>by
   obtain⟨rfl,rfl,rfl⟩:=trodAll_nil h;rfl
 |t::ts,_,_,_,hr,h,hlt,hsp=>by
  obtain⟨v,vs,d,ds,p,q,rfl,rfl,rfl,h1,h2⟩:=trodAll_cons h;refine⟨p,q,?_,zkt hl hb (fun t ht=>hr t (by simp[ht])) h2 (fun x hx=>hlt x (by simp[hx])) (fun x hx=>hsp x (by simp[hx])),rfl⟩;exact WideElems.Trod_stays hl (hr t (by simp)).1 (hr t (by simp)).2 h1 (fun x hx=>hb.same (hlt x (by simp[hx]))) (fun x hx=>hsp x (by simp[hx]))
theorem qba{f:Func}{s:ChangeSpec}{tb:TypeId}{W W':World}{args:Array Value}{ds gs:List (DataW H)}{before:List MemPlace}
 (hl:laidOutB P=true)(hrt:f.resultTypes= #[tb])(htb:P.underlying tb=some .bool)(hr:∀t∈f.params.toList,P.readableRec t=true/\t<P.types.size)
 (hv:s.vars=[])(hs:s.fn H (ds++gs)={results:=[.lit (.bool true)],args:=ds})
 (hW:DataW.Whole enc P f.params.toList s.vars false W args.toList ds gs before)(hb:Below W.heap.size W W'):
 s.post enc P f false true false false W args (.bool true) W':=by
 have hlt:∀p∈before,p.block<W.heap.size:=fun p hp=>hW.lt p hp
 obtain⟨p,q,hA,hV,rfl,hfz,hnd⟩:=id hW;rw[hv] at hV;obtain⟨rfl,rfl⟩:=trodVars_none hV;simp only[qmg] at hlt;have hargs:=zkt (sp:=fun b=>decide (b<W.heap.size)) hl hb hr hA hlt (fun x hx=>by simpa using hlt x hx);refine⟨ds,[],p++[],[],p,[],hW,?_,?_,?_,World.keptBut_mono (fun x hx=>⟨hx,?_⟩) (hb.frame (· ∈p++[])),fun h=>by cases h⟩
 ·rw[hs,hrt]
  exact trodAll_mk1 (shut_bool htb true)
 ·rw[hs];exact hargs
 ·rw[hs,hv];rfl
 ·exact .inr (.inl (by simpa using hx))
end
theorem znw{H:Type}{P:Program}{ts:List TypeId}{ds:List (DataW H)}(h:(DataW.weightsEach P ts ds).all (· <=reachBytes)=true){j:Nat}{t:TypeId}{d:DataW H}(ht:ts[j]? =some t)(hd:ds[j]? =some d):
 ∀n∈d.weights P t,n<=reachBytes:=fun n hn=>by
 have:=qog.1 h n (DataW.weights_mem_each ht hd n hn);simpa using this
theorem z5u{H:Type}{enc:TypeId × Value->H}{P:Program}{W:World}{t e:TypeId}{k:IntKind}{base:Nat}{v:Value}{d:DataW H}{ps:List MemPlace}{sz:Nat}
 (ht:P.underlying t=some (.slice e))(he:P.underlying e=some (.int k))(hc:P.cellsOf e=1)(hs:k.signed=false)(hby:P.bytesOf e=sz)
 (hval:Value.okWide P W .any base t v)(h:DataW.Trod enc P W 0 (fun _=>true) true t v d ps)(hlt:∀p∈ps,p.block<W.heap.size)(hw:∀n∈d.weights P t,n<=reachBytes):
 ∃A c,∃l:List Nat,v= .slice A l.length c/\l.length<=c/\c<=maxLen/\c*sz<=reachBytes/\Reads W W.heap.size 1 A l.length (zah k l)/\ ∀x∈l,(x:Int)<=k.max:=by
 obtain⟨a0,len,cap,rfl⟩:=okWide_slice ht hval;obtain⟨fuel,hf⟩:=h;rcases open_ints ht he hc hf with⟨hcs,hx⟩|⟨a,len',cap',zs,hcs,_,hl,hm,hz,hx,hcell,hwz⟩
 ·have:a0=none/\len=0/\cap=0:=by simpa[Value.cells] using hcs
  obtain⟨rfl,rfl,rfl⟩:=this;exact⟨none,0,[],rfl,by simp,by simp[maxLen],by simp,⟨by simp[zah],fun h=>by simp at h⟩,by simp⟩
 ·have:a0=some a/\len=len'/\cap=cap':=by simpa[Value.cells] using hcs
  obtain⟨rfl,rfl,rfl⟩:=this;simp only[qlk] at hx;obtain⟨rfl,rfl⟩:=hx;rw[if_pos rfl] at hz;have hzl:(zs.take len).length=len:=by rw[ql2];omega
  have hll:((zs.take len).map Int.toNat).length=len:=by rw[qos,hzl]
  have hnn:∀n∈zs,0<=n/\n<=k.max:=fun n hn=>by have:=hwz n hn;simpa[Lit.wf,IntKind.min,hs] using this
  have hnums:zah k ((zs.take len).map Int.toNat)=(zs.take len).map (Value.int k):=by
   unfold zah;rw[qnr];refine qns fun n hn=>?_
   have:=(hnn n (qmu hn)).1;simp[Int.toNat_of_nonneg this]
  refine⟨some a,cap,(zs.take len).map Int.toNat,by rw[hll],by rw[hll];exact hl,hm,?_,⟨by rw[zaa,hll];simp,fun hn=>⟨a,rfl,?_,?_⟩⟩,?_⟩
  ·have h1:=hw (cap*sz) (by
    simp only[DataW.weights,ht,hby,qnu];left;congr 1
    simp[lits,hz];omega)
   exact h1
  ·rw[hll] at hn
   exact hlt (.cell a.block a.off) (by unfold MemPlace.row;simp only[qly,qot];exact⟨0,by omega,rfl⟩)
  ·intro j u hu
   rw[hnums] at hu;have hj:j<(zs.take len).length:=by
    rcases qma j (zs.take len).length with h1|h1
    ·exact h1
    ·rw[qnx (by simpa using h1)] at hu
     cases hu
   have hjz:j<zs.length:=by rw[hzl] at hj;omega
   rw[hcell j hjz];rw[qou,List.getElem?_take_of_lt (by rw[hzl] at hj;exact hj),qlx hjz] at hu;simpa[List.getD,List.getElem?_eq_getElem hjz] using hu
  ·intro x hx
   simp only[qly] at hx;obtain⟨n,hn,rfl⟩:=hx;have:=hnn n (qmu hn);rw[Int.toNat_of_nonneg this.1];exact this.2
def pk(w:Nat):List Nat->Nat
 | []=>0
 |x::l=>x+2^w*pk w l
theorem z5v(w:Nat)(l:List Nat)(x:Nat):pk w (l++[x])=pk w l+2^(w*l.length)*x:=by
 induction l with
 |nil=>simp[pk]
 |cons a l ih=>
  simp only[qm8,pk,ih,qm9];rw[qna,qo6,qnz];simp only[qmr,qnb,qlv]
theorem qii(w:Nat)(l:List Nat)(h:∀x∈l,x<2^w):pk w l<2^(w*l.length):=by
 induction l with
 |nil=>simp[pk]
 |cons a l ih=>
  have h1:=ih fun x hx=>h x (by simp[hx])
  have h2:=h a (by simp);simp only[pk,qm9];rw[qo6,qnz,qmr (2^(w*l.length))];have:2^w*(pk w l+1)<=2^w*2^(w*l.length):=qo7 _ h1;rw[qna] at this;omega
def zqq(w:Nat):Nat->Nat->List Nat
 |0,_=>[]
 |n+1,B=>zqq w n B++[B/2^(w*n)%2^w]
theorem zfl(w n B:Nat):(zqq w n B).length=n:=by induction n<;> simp_all[zqq]
theorem qf7(w n B:Nat):∀x∈zqq w n B,x<2^w:=by
 induction n with
 |zero=>intro x hx;simp[zqq] at hx
 |succ n ih=>
  intro x hx;simp only[zqq,qnd,qne] at hx;rcases hx with hx|hx
  ·exact ih x hx
  ·subst hx;exact qnf _ (qnv w)
theorem z5w(w n B i:Nat)(h:i<n):(zqq w n B).getD i 0=B/2^(w*i)%2^w:=by
 induction n with
 |zero=>omega
 |succ n ih=>
  rw[zqq,qnp];by_cases hi:i<n
  ·rw[qn9 (by rw[zfl];exact hi),<-qnp,ih hi]
  ·obtain rfl:i=n:=by omega
   rw[qoy (by rw[zfl];exact ql6 _),zfl];simp
theorem qf8(w n B:Nat):pk w (zqq w n B)=B%2^(w*n):=by
 induction n with
 |zero=>simp[zqq,pk,Nat.mod_one]
 |succ n ih=>rw[zqq,z5v,ih,zfl,qo6,qnz,Nat.mod_mul]
theorem qf9(w:Nat)(l:List Nat)(h:∀x∈l,x<2^w)(B:Nat)(hB:B%2^(w*l.length)=pk w l):zqq w l.length B=l:=by
 have key:∀(m:List Nat),(∀x∈m,x<2^w)-> ∀i,i<m.length->pk w m/2^(w*i)%2^w=m.getD i 0:=by
  intro m;induction m with
  |nil=>intro _ i hi;simp at hi
  |cons a m ih=>
   intro hm i hi;have ha:=hm a (by simp);cases i with
   |zero=>simp[pk,Nat.add_mul_mod_self_left,Nat.mod_eq_of_lt ha]
   |succ i=>
    rw[pk,qo6,qnm (w*i),qnz,<-qo9,qpa _ _ (qnv w),qpb ha,qmy,ih (fun x hx=>hm x (by simp[hx])) i (by simpa using hi)];simp
 refine qmk (zfl _ _ _) fun i h1 h2=>?_
 have e1:(zqq w l.length B).getD i 0=(zqq w l.length B)[i]:=by rw[qnp,qlx h1];rfl
 have e2:l.getD i 0=l[i]:=by rw[qnp,qlx h2];rfl
 rw[<-e1,<-e2,z5w w l.length B i h2,<-key l h i h2,<-hB];have hs:w*l.length=w*i+(w+w*(l.length-i-1)):=by
  have e:l.length=i+(1+(l.length-i-1)):=by omega
  conv=>lhs;rw[e]
  rw[qna,qna,qmd]
 rw[hs,qnz,qpc,qnz,Nat.mod_mul_right_mod]
theorem zku(X s i:Nat)(h:i<s):(low X s).getD i 0=X/256^i%256:=by
 induction s with
 |zero=>omega
 |succ s ih=>
  rw[low,qnp];by_cases hi:i<s
  ·rw[qn9 (by rw[zbe];exact hi),<-qnp,ih hi]
  ·obtain rfl:i=s:=by omega
   rw[qoy (by rw[zbe];exact ql6 _),zbe];simp
theorem zsu(b:List Nat)(h:∀x∈b,x<256):low (num b) b.length=b:=by
 have key:∀(m:List Nat),(∀x∈m,x<256)-> ∀i,i<m.length->num m/256^i%256=m.getD i 0:=by
  intro m;induction m with
  |nil=>intro _ i hi;simp at hi
  |cons a m ih=>
   intro hm i hi;have ha:=hm a (by simp);cases i with
   |zero=>simp[num];omega
   |succ i=>
    rw[num,qm3,qmr (256^i),<-qo9,show(a+256*num m)/256=num m by omega,ih (fun x hx=>hm x (by simp[hx])) i (by simpa using hi)];simp
 refine qmk (zbe _ _) fun i h1 h2=>?_
 have e1:(low (num b) b.length).getD i 0=(low (num b) b.length)[i]:=by rw[qnp,qlx h1];rfl
 have e2:b.getD i 0=b[i]:=by rw[qnp,qlx h2];rfl
 rw[<-e1,<-e2,zku _ _ _ h2,key b h i h2]
theorem zzu(b:List Nat)(h:∀x∈b,x<256)(i:Nat)(hi:i<b.length):b.getD i 0=num b/256^i%256:=by have:=zku (num b) b.length i hi;rwa[zsu b h] at this
theorem qbb(s:Nat):low 0 s=List.replicate s 0:=by
 induction s with
 |zero=>rfl
 |succ s ih=>rw[low,ih,qon];simp
theorem qga(k:Nat):(256:Nat)^k=2^(8*k):=by rw[show(256:Nat)=2^8 from rfl,<-qnw]
theorem qgb(X s a c:Nat)(ha:a<8*s)(hX:X<2^a)(hc:c<=1):
 (low X s).set (a/8) ((low X s).getD (a/8) 0+c*2^(a%8))=low (X+c*2^a) s/\(low X s).getD (a/8) 0<2^(a%8)/\(low X s).getD (a/8) 0+c*2^(a%8)<256:=by
 have hq:a/8<s:=by omega
 have ea:2^a=256^(a/8)*2^(a%8):=by rw[qga,<-qnz];congr 1;omega
 have hr:2^(a%8)<=2^7:=qnj (by omega) (by omega);have h0:X/256^(a/8)<2^(a%8):=by apply qm7;rw[<-ea];exact hX
 have hb:(low X s).getD (a/8) 0=X/256^(a/8):=by rw[zku _ _ _ hq];exact qng (by omega)
 have hcc:c*2^(a%8)<=2^(a%8):=by
  calc c*2^(a%8)<=1*2^(a%8):=ql4 _ hc
   _=_:=qpd _
 have hlt:X/256^(a/8)+c*2^(a%8)<256:=by omega
 refine⟨?_,by rw[hb];exact h0,by rw[hb];exact hlt⟩;refine qmk (by simp[zbe]) fun i h1 h2=>?_
 have h2':i<s:=by rwa[zbe] at h2
 have h1':i<(low X s).length:=by rwa[zbe]
 have e2:(low (X+c*2^a) s)[i]=(X+c*2^a)/256^i%256:=by rw[<-zku _ _ _ h2',qnp,qlx h2];rfl
 have e1:(low X s)[i]'h1'=X/256^i%256:=by rw[<-zku _ _ _ h2',qnp,qlx h1'];rfl
 rw[e2,List.getElem_set];by_cases hi:a/8=i
 ·subst hi
  rw[if_pos rfl,hb,ea,show c*(256^(a/8)*2^(a%8))=256^(a/8)*(c*2^(a%8)) from qnb _ _ _,qpa _ _ (qm4 (by omega)),qng hlt]
 ·rw[if_neg hi,e1]
  rcases Nat.lt_or_gt_of_ne hi with hlt'|hgt
  ·have hp:2^(a+1)<=256^i:=by rw[qga];exact qnj (by omega) (by omega)
   have hca:c*2^a<=2^a:=by
    calc c*2^a<=1*2^a:=ql4 _ hc
     _=_:=qpd _
   rw[qm3] at hp;rw[qpb (by omega),qpb (by omega)]
  ·have es:2^a=256^i*(256*2^(a-8*(i+1))):=by
    rw[qga,show(256:Nat)=2^8 from rfl,<-qnz,<-qnz];congr 1;omega
   rw[es,show c*(256^i*(256*2^(a-8*(i+1))))=256^i*(256*(c*2^(a-8*(i+1)))) by simp only[qnb],qpa _ _ (qm4 (by omega)),qo8]
theorem zm8(y j:Nat):y%2^(j+1)=y%2^j+2^j*(y/2^j%2):=by rw[qm3,Nat.mod_mul]
theorem qgc{X m:Nat}(y j:Nat)(hX:X<2^m):X+y%2^j*2^m<2^(m+j):=by have h1:y%2^j<2^j:=qnf _ (qnv _);have h2:(y%2^j+1)*2^m<=2^j*2^m:=ql4 _ h1;rw[qn3,qpd] at h2;rw[qnz,qmr (2^m)];omega
theorem z5x{X m:Nat}(s y j a q r t:Nat)(hX:X<2^m)(ha:a=m+j)(hs:a<8*s)(hq:q=a/8/\r=a%8)(ht:t=y/2^j%2):
 (low (X+y%2^j*2^m) s).getD q 0<2^r/\(low (X+y%2^j*2^m) s).set q ((low (X+y%2^j*2^m) s).getD q 0+t*2^r)=low (X+y%2^(j+1)*2^m) s:=by
 obtain⟨rfl,rfl⟩:=hq;have h:=qgb (X+y%2^j*2^m) s a t hs (by rw[ha];exact qgc y j hX) (by omega);refine⟨h.2.1,h.1.trans ?_⟩;congr 1
 rw[zm8,qn3,ht,ha,qnz,qlv];congr 2
 rw[qmr (2^m),<-qn4,qmr (y/2^j%2)]
end Go.Hm
