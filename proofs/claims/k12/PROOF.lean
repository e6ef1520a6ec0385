import PyProof.Rows.All
import Wide.All
import OpenK.AllK
import Wide.FinOn
import Lean
import PyProof.EqAt
import PyProof.EqKinds
import PyProof.TupleCall
import PyProof.ExcInit
import PyProof.ExcClass3
import PyProof.ExcBaseAll.ValueError
import PyProof.StationsW
import PyProof.FString
import PyProof.Rows.FStr
import PyProof.NsDelKeeps
import PyProof.RulesAs
import PyProof.ExcArgs
import PySem.Str
import PySem.Builtin.Str.Common
import PyProof.ReprReads
import PyProof.Rows.Range3
import PyProof.P3Eq
import PyProof.FitsInt
import PyProof.TableCode
import PySem.Challenge.RW_broadrow_k12_programs_written_and_read
noncomputable section
open _root_ renaming List → U, Nat → O, Option → L, Int → I
open Option renaming some → Y, none → J
open PySem renaming Value → B
open _root_ renaming decide_eq_true → Ri, if_pos → Rk, Bool → Rl, absurd → Rm, if_neg → Rn, beq_self_eq_true → Rq, String → Rr, decide_eq_false → Rt, decide_eq_true_eq → Ru, congrArg → Rw, of_decide_eq_true → RA, False → RB, Array → RD, or_false → RG, if_true → RH, Inhabited → RJ, decide_false → RM, beq_false_of_ne → RN, DecidableEq → RO, decide_true → RQ, True → R4
open PySem renaming Addr → Rj, Program → Ro, wpAny → Rp, Expr → Rv, Heap → Rx, Stmt → Ry, eval → Rz, DictEntry → RC, Scope → RF, wpAny_pyNext_tuple_item → RI, wpAny_pyNext_tuple_end → RK, seq_tuple_add → RR, wpAny_standAt → RS, comprehension → RT, assign → RU, GenState → RW, concat_meets → RX, wpAny_typeOf → RY, OsState → R0, getMethod → R1, strValues → R3, Builtin → R5, isTrue → R6, Result → R7, bindL → R8, bindC → R9
open PyProof.Rows renaming subscriptTail_builtinR → RL, IsTup → RV, IntsAre → RZ
open PySem.W renaming nsIn → RP
open Option renaming some → Ls, none → Lu
open Bool renaming false → Lv, true → Lw
open PySem renaming Shared → Lx, starEach → Lz, wpAny_bind → LD, mainGlobals → LP, wpAny_pure → LN, World → LA, model → LC, Around → LS, backTo → LY, wpAny_mono → Mh, compareOp → Mg, foldedSetIterable → MW, Params → Mb, attributeBase → MP, binaryOp → Mv, FuncData → Mu, wpAny_newObj_type → NG, behindInMarks → M5, wpAny_callSpecial?_slot → Oc, swapsWith → MI, wpAny_Call_Name_kw → N2, wpAny_passesOwn → ND, wpAny_truthy_bool → N5, bootBuiltins → Np, letOwnedTupleGo → N4, wpAny_pyIter_tuple → Og, keywordEach → Nm, Keyword → MJ, call_meets → Nl, wpAny_holding → N3, codeAny → MQ, wpAny_field → NM, sliceBounds → NK, wpAny_execs_nil → Oe, wpAny_ite_false → Od, treeTable → Nk, sysModules → NJ, closureFor → NI, backToKw → Nj, wpAny_call_entry → OI, IsPart → MX, importedModules → OH, BindsTo → Ni, callerA → Nh, ExceptHandler → OG, assignEach → Oo, wpAny_call → Om, typeIs_str → Ol, strKind_is → Oj, getItem → NO, relabel → NN, codeAny_mono → OJ, noFill_tuple_add → O9, PassesOwn → Oi, lastMarks → Oh, codeAny_builtin → O8, sizeLine_eq → OF
open PySem.W renaming boot_heap → MB, behindTheImports → Of
open PyProof.Rows renaming envOfC → MC, AllBare → M6
open PySem.W renaming Frag → Ly, findIn → Mp, kia_one → MG, emptyDict → Nf, mg_of → MM, fnOf → ME, nsIn → MK, instObj → Nv, keepIn → Nu, kitOne → NZ, hasDictIn → OA, plainGet → OT, plainGet_of → Pt, lookIn → OM, codeIn → OL, methodObj → Po, kitx_list → Pn, cellsFrom_some → QR, takerIn → PD, OpenLaw → Py, kitx_tuple → QX, callWith_K → QW, plainOver → Qe, specialIn → Qd, kitx_dict → Qc, isFn → Pf, handedIn → Qa, makesIn → QC, takesIn → QB, KeysLit → Qz, mroIn → Qt, WalkO → Qr, subIn → Qq
open List renaming length_map → LB, length_append → LH, length_cons → LG, mem_cons_self → LI, mem_cons_of_mem → LO, mem_singleton → LR, map_cons → LJ, mem_cons → LK, length_singleton → L0, getElem?_eq_getElem → Ma, replicate → LU, append_nil → LW, mem_append_right → L9, size_toArray → LZ, append_assoc → L6, getElem?_eq_some_iff → Mo, map_append → L8, getElem?_cons_succ → MH, getD_eq_getElem?_getD → MV, getElem?_map → Mr, nil_append → Ml, cons_ne_nil → Mq, range → L4, getElem?_append_right → Nc, mem_append → Ms, length → Me, cons_append → MA, length_replicate → M4, map_nil → Mi, mem_map → Mm, getElem?_cons_zero → Ny, take_succ_cons → M3, all_eq_true → MN, flatten_cons → MT, mem_append_left → Nb, map_map → Mt, drop_succ_cons → Ng, singleton_append → NC, mem_of_getElem? → NA, getElem?_append_left → Ob, drop_zero → MO, replicate_succ → Nz, length_range → Nd, sum_cons → ML, lookup_cons → Na, not_mem_nil → M9, filterMap_cons → NT, take_zero → M8, length_take → NS, length_drop → NR, lookup → MS, nodup_cons → N0, map_eq_nil_iff → OD, drop_drop → NY, zip_cons_cons → OB, length_nil → N9, concat_eq_append → O4, contains_iff_mem → O3, all_cons → NW, getElem?_set_ne → O2, mem_map_of_mem → O7, getElem?_replicate → P0, sum_append → OE, getElem?_set_self → PX, take_of_length_le → PU, drop_left → Ou, take_append_drop → Pw, getElem_mem → OR, foldl_cons → OP, getElem?_range → Pr, mem_range → ON, drop_eq_getElem_cons → QI, any_cons → OY, append_eq_nil_iff → QP, getElem_cons_drop → QO, of_mem_zip → Pz, getElem_of_mem → Q3, map_congr_left → Q1, mem_filterMap → QZ, contains_cons → Qh, all_nil → Pd, sum_nil → Pc, drop_length → P6, any_eq_true → P5, getElem_map → P4, mem_filter → QD, length_set → Qx, foldl → Pk, take_nil → Qo, drop_nil → Qn
open Bool renaming and_eq_true → LQ, false_ne_true → LX, and_eq_true_iff → MU, false_and → Mz, and_false → M0, true_and → MZ, not_false → Nx, not_true → Nw, bne_false → N8, true_or → Pa, not_eq_true → P7, eq_iff_iff → QA, or_eq_true → Qy, or_false → Qs
open Nat renaming le_trans → LL, le_refl → LM, lt_of_lt_of_le → Mc, ne_of_lt → L5, toDigits → My, zero_le → Mw, lt_of_le_of_lt → N6, zero_add → MY, isDigit_of_mem_toDigits → PQ, lt_irrefl → NX, pow_le_pow_right → OZ, mul_le_mul → Ov, le_of_ble_eq_true → Pu, lt_succ_self → OS, ne_of_gt → Oq, lt_succ_of_lt → PJ, add_sub_cancel_left → QT, succ_le_succ → PH, le_of_lt → OX, add_comm → OW, pow_succ → OV, sub_self → Pb, le_of_not_lt → P8, toList_repr → Qw, min_le_left → Qv, le_of_eq → Qk, mul_comm → Qj, lt_trans → QF
open Array renaming length_toList → Mn, getElem?_eq_none → O6, all_eq_true' → OC, getElem?_eq_getElem → PN, toList_inj → OQ, toList_append → Q2, append_assoc → Q0, find?_toList → QY, mk → OK, toList → Ql
open Option.some renaming inj → Mf, injEq → PK
open PySem.Str renaming join → Mj, ofString → Pq, mk → Pe
open Char renaming toNat → L7
open PyProof.Rows renaming slot_tuple_getitem → Oa, boot_tuple → N1, callWith_type1 → Oz, boot_str → Ow, boot_int → O5, boot_bool → PR, callWith_builtin1 → QK, signs_ofString → QJ, digit_range → QU, boot_isinstance → Q8, intText_free_32 → Q7, boot_list → Q9, eq_dataH → Rh, ne_dataH → Rg, boot_set → Rf
open Or renaming inr → LV, inl → L1
open PySem renaming mem_of_lookup → N7, Str → MF, strKind → NV, toDigits_len_ge → QM, boot_len → PM, NameKind → PL, Within → Pg, reprText → Qu, call → Pj
open Option renaming map_eq_some_iff → Oy, isSome_some → Pp, isSome_iff_exists → QV, bind_eq_some_iff → QS, bind_some → PF, toList_none → Qi, isSome_none → Qf, getD_none → P9, toList → Qm
open False renaming elim → MD
open PySem.W.KIN renaming signs_num → Ox, val_back → O0
open String renaming length_toList → O1, toList_append → QL
open PyProof.Rows.F renaming entry_set_update_loop → Q4
open PySem.F renaming args_tuple_add_2 → P1, entry_tuple_add → PZ, plainAttrs_list → PY, slot_tuple_add → PV, plainAttrs_str → QQ, slot_dict_get → QN
open Ne renaming symm → Mx
open True renaming intro → Nq
open List.cons renaming inj → Ot
open Prod renaming snd → M7, fst → Nr
open And renaming left → Nt
open Int renaming emod_nonneg → Px, reduceLT → OU, emod_lt_of_pos → Qg, toNat_natCast → Qb, negSucc → Pl, natAbs → Ph, toNat → Pm
open Sum renaming inl → NQ, inr → NP
open Classical renaming em → QH
open Nat.succ renaming inj → QG
open Prod.mk renaming inj → QE
open PySem.W.Looks renaming here → Rb
open PySem.Within renaming cons → Ra
open List.Pairwise renaming nil → Q6
open List.Sublist renaming map → Q5
set_option compiler.extract_closed false
set_option bootstrap.genMatcherCode false
set_option genSizeOf false
set_option genInjectivity false
set_option Elab.async false
set_option linter.all false
set_option maxRecDepth 100000
namespace L2
open PySem PySem.Spec PyProof.Rows
abbrev Key:=Sum I Str
noncomputable def BE:Key->B->Rl
|.inl k,v=>Value.isInt k v
|.inr x,v=>Value.isStrOf x v
noncomputable def JU (w:LA):Key->I
|.inl k=>hashInt k
|.inr x=>hashStr w x
theorem aT:∀{k:Key} {v:B},BE k v=Lw->(∃i t,k=NQ i/\v=Value.int i t)\/(∃x t,k=NP x/\v=Value.str x t)
|.inl i,v,h=>by obtain⟨t,e⟩:=Value.isInt_shape (k:=i) (v:=v) h;exact .inl ⟨i,t,rfl,e⟩
|.inr x,v,h=>by obtain⟨t,e⟩:=Value.isStrOf_shape (x:=x) (v:=v) h;exact .inr ⟨x,t,rfl,e⟩
theorem FA (a b:I):decide ((NQ a:Key)=NQ b)=(a==b):=by
 by_cases e:a=b
 .subst e;simp
 .have h:¬ (NQ a:Key)=NQ b:=fun q=>e<|Sum.inl.inj q;rw[Rt h];exact(beq_eq_false_iff_ne.mpr e).symm
theorem Et (a b:Str):decide ((NP a:Key)=NP b)=decide (a=b):=by
 by_cases e:a=b
 .subst e;simp
 .have h:¬ (NP a:Key)=NP b:=fun q=>e<|Sum.inr.inj q;rw[Rt h,Rt e]
theorem D6 (a:I)(b:Str):decide ((NQ a:Key)=NP b)=false:=Rt λq=>nomatch q
theorem CA (a:Str)(b:I):decide ((NP a:Key)=NQ b)=false:=Rt λq=>nomatch q
def kj (prog:Ro)(w:LA):PySem.KeyKind prog w Key where
 is:=BE
 hash:=JU w
 inj:=λv a b f d=>by
  rcases aT f with⟨i,t,rfl,rfl⟩|⟨x,t,rfl,rfl⟩
  .rcases aT d with ⟨j,u,rfl,e⟩ | ⟨y,u,rfl,e⟩
   .injection e with e1 _;rw[e1]
   .exact nomatch e
  .rcases aT d with ⟨j,u,rfl,e⟩ | ⟨y,u,rfl,e⟩
   .exact nomatch e
   .injection e with e1 _;rw[e1]
 byValue:=λk v h=>by rcases aT h with⟨i,t,rfl,rfl⟩|⟨x,t,rfl,rfl⟩<;>rfl
 pyHash:=λc h=>by
  rcases aT c with⟨i,t,rfl,rfl⟩|⟨x,t,rfl,rfl⟩
  .exact wpAny_pyHash_int h
  .exact wpAny_pyHash_str h
 eqBool:=λg c h=>by
  rcases aT g with⟨i,t,rfl,rfl⟩|⟨x,t,rfl,rfl⟩
  .rcases aT c with ⟨j,u,rfl,rfl⟩ | ⟨y,u,rfl,rfl⟩
   .rw[FA] at h;exact wpAny_eqBool_int h
   .rw[D6] at h;exact SeqAt.EqAt.int_str i t y u _ _ _ _ h
  .rcases aT c with ⟨j,u,rfl,rfl⟩ | ⟨y,u,rfl,rfl⟩
   .rw[CA] at h;exact SeqAt.EqAt.str_int x t j u _ _ _ _ h
   .rw[Et] at h;exact wpAny_eqBool_str h
 «strs»:=λk x t v h=>by
  rcases aT h with⟨i,u,rfl,e⟩|⟨y,u,rfl,e⟩
  .exact nomatch e
  .injection e with e1 _
   subst e1;cases v<;>rfl
set_option genInjectivity true
inductive V where
 |non|bl (b:Rl)|int (i:I)|str (x:Str)|byt (b:RD UInt8)|flt (b:UInt64)|ref (a:Rj)|ty (n:Rr)
 deriving RO
set_option genInjectivity false
def RelV:V->B->Prop
|.non,u=>u=Value.none
|.bl b,u=>u=Value.bool b
|.int i,u=>∃t,u=Value.int i t
|.str x,u=>∃t,u=Value.str x t
|.byt b,u=>∃t,u=Value.bytes b t
|.flt b,u=>∃t,u=Value.float b t
|.ref a,u=>u=Value.ref a
|.ty n,u=>u=Value.type n
abbrev Vals:U V->U B->Prop:=Paired RelV
theorem Vals.length {b:U V}{a:U B}(r:Vals b a):b.length=a.length:=Paired.length r
theorem Vals.get:∀{b:U V} {a:U B} {i:O} {x:V},Vals b a->b[i]?=Y x->∃u,a[i]?=Y u/\RelV x u
|_,_,_,_,.nil,e=>by simp at e
|_,_,0,_,.cons r _,e=>by simp at e;subst e;exact⟨_,rfl,r⟩
|_,_,i+1,x,.cons _ t,e=>by obtain⟨u,c,d⟩:=Vals.get (i:=i) (x:=x) t (by simpa using e);exact⟨u,by simpa using c,d⟩
theorem Vals.append:∀{c d:U V} {a b:U B},Vals c a->Vals d b->Vals (c++d) (a++b)
|_,_,_,_,.nil,s=>s
|_,_,_,_,.cons r t,s=>.cons r<|Vals.append t s
theorem Vals.take:∀{b:U V} {a:U B} (n:O),Vals b a->Vals (b.take n) (a.take n)
|_,_,0,_=>.nil
|_,_,_+1,.nil=>.nil
|_,_,n+1,.cons r t=>.cons r<|Vals.take n t
theorem Vals.drop:∀{b:U V} {a:U B} (n:O),Vals b a->Vals (b.drop n) (a.drop n)
|_,_,0,r=>r
|_,_,_+1,.nil=>.nil
|_,_,n+1,.cons _ t=>Vals.drop n t
def RelO:L V->L B->Prop
|some v,Y u=>RelV v u
|none,J=>R4
|_,_=>RB
def KV {a:Type}:U (a×V)->U (a×B)->Prop:=Paired λ(p:a×V) (q:a×B)=>p.1=q.1/\RelV p.2 q.2
def kV:Key->V
|.inl i=>.int i
|.inr x=>.str x
inductive HO where
 |lst (xs:U V)
 |tup (xs:U V)
 |dK (kvs:U (Key×V))|dT (kvs:U (U Key×V))
 |set (S:I->Rl) (n:O)
 |ins (C dx:Rj) (fs:U (Str×V))
 |own (x:Rj)
 |xd (fs:U (Str×V))
 |met (f x:Rj)
 |rng (lo hi:I)
 |frz (o:Obj) (u:HO)
 |tbl (ps:RD B)
 |ext (φ:Rx->Prop)
abbrev Hp:=Rj->L HO
noncomputable def upd (H:Hp)(a:Rj)(o:HO):Hp:=λb=>if b=a then Y o else H b
theorem au {H:Hp}{a:Rj}{o:HO}:upd H a o a=Y o:=by unfold upd;rw[Rk rfl]
theorem ah {H:Hp}{a b:Rj}{o:HO}(h:b≠a):upd H a o b=H b:=by unfold upd;rw[Rn h]
theorem j7 {H:Hp}{a:Rj}{o u:HO}:upd (upd H a o) a u=upd H a u:=by funext b;unfold upd;split<;>rfl
theorem aM {H:Hp}{a b:Rj}{o:HO}(h:H a=Y o)(c:H b=J):a≠b:=by intro e;subst e;rw[h] at c;cases c
section
variable (P:Ro)(w:LA)
def ObjOk (H:Hp)(h:Rx)(a:Rj):HO->Prop
|.lst d=>d.length<=sizeLine/\∃(b:U B) (n:O),Vals d b/\h.get? a=Y {cls:=.type "list",data:=.seq b.toArray n}
|.tup d=>d.length<=sizeLine/\∃b:U B,Vals d b/\RV h a b.toArray
|.dK c=>c.length<=sizeLine/\(a==NJ)=Lv/\∃m,KV c m/\h.DictOf (kj P w) a m
| .dT c=>c.length<=sizeLine/\(a==NJ)=Lv/\∃ d:U (U Key×Rj×B),
  Paired (λ(p:U Key×V) (q:U Key×Rj×B)=>p.1=q.1/\H q.2.1=Y (.tup<|p.1.map kV)/\RelV p.2 q.2.2) c d /\
  ∃o j ep,h.get? a=Y o/\o.ExactDict/\o.data=.dict j ep/\j.toList=d.map (entryOfKey<|tupleKind<|kj P w)/\(d.map (·.1)).Nodup
|.set S n=>h.SetOf (intKind P w) a S n
| .ins C g fs=>H g=Y (.own a)/\fs.length<=1000/\g≠a/\h.get? a=Y (Nv C g) /\
  ∃e,h.Ns1 g e/\(∀f,RelO (fs.lookup f)<|e f)/\Pg e (fs.map (·.1))
|.own _=>∃o,h.get? a=Y o
|.xd fs=>∃e,h.Ns1 a e/\∀f,RelO (fs.lookup f)<|e f
|.rng lo r=>∃t u v,h.get? a=Y {cls:=.type "range",data:=.fields #[.int lo t,.int r u,.int 1 v]}
|.frz o u=>h.get? a=Y o/\ObjOk H h a u
|.tbl ps=>h.get? a=Y {cls:=.none,data:=.fields ps}
|.met f x=>h.get? a=Y (Po (.ref f)<|.ref x)
|.ext i=>i h/\(∃o,h.get? a=Y o)/\∀k l:Rx,i k->(∀o,k.get? a=Y o->l.get? a=Y o)->i l
def HOk (H:Hp)(h:Rx):Prop:=∀a o,H a=Y o->ObjOk P w H h a o
end
section
variable {P:Ro}{w:LA}{H H':Hp}{h h':Rx}{a:Rj}{o:HO}
theorem ObjOk.lt (x:ObjOk P w H h a o):a<h.objs.size:=by
 cases o with
 |lst c=>obtain⟨_,_,_,_,e⟩:=x;exact Heap.lt_size e
 |tup c=>obtain⟨_,_,_,p⟩:=x;exact p.lt
 |dK b=>obtain⟨_,_,_,_,o,_,_,e,_⟩:=x;exact Heap.lt_size e
 |dT b=>obtain⟨_,_,_,_,o,_,_,e,_⟩:=x;exact Heap.lt_size e
 |set S n=>obtain⟨o,_,_,_,e,_⟩:=x;exact Heap.lt_size e
 |ins C d fs=>obtain⟨_,_,_,e,_⟩:=x;exact Heap.lt_size e
 |own y=>obtain⟨_,e⟩:=x;exact Heap.lt_size e
 |xd fs=>obtain⟨_,⟨_,_,_,e,_⟩,_⟩:=x;exact Heap.lt_size e
 |rng lo g=>obtain⟨_,_,_,e⟩:=x;exact Heap.lt_size e
 |frz i u=>obtain⟨e,_⟩:=x;exact Heap.lt_size e
 |tbl ps=>exact Heap.lt_size<|show h.get? a=Y _ from x
 |met f y=>exact Heap.lt_size<|show h.get? a=Y _ from x
 |ext j=>obtain⟨_,⟨_,e⟩,_⟩:=x;exact Heap.lt_size e
theorem Paired.mapP {e g:Type}{F G:e->g->Prop}:∀{c:U e} {d:U g},Paired F c d->(∀a b,F a b->G a b)->Paired G c d
|_,_,.nil,_=>.nil
|_,_,.cons r t,f=>.cons (f _ _ r)<|Paired.mapP t f
theorem ObjOk.stay (x:ObjOk P w H h a o)(k:∀b u,(b=a\/H b=Y (.own a))->h.get? b=Y u->h'.get? b=Y u)
  (ho:∀b,H b=Y (.own a)->H' b=Y (.own a)) (F:∀b l,H b=Y (.tup l)->H' b=Y (.tup l)):ObjOk P w H' h' a o:=by
 induction o with
 |lst l=>obtain⟨z,j,n,r,e⟩:=x;exact⟨z,j,n,r,k _ _ (.inl rfl) e⟩
 |tup l=>obtain⟨z,j,r,g,e,c⟩:=x;exact⟨z,j,r,g,k _ _ (.inl rfl) e,c⟩
 |dK m=>obtain⟨z,y,N,r,g,i,ep,e,c⟩:=x;exact⟨z,y,N,r,g,i,ep,k _ _ (.inl rfl) e,c⟩
 |dT m=>obtain⟨z,y,l,r,g,i,ep,e,c⟩:=x;exact⟨z,y,l,Paired.mapP r λp q z=>⟨z.1,F _ _ z.2.1,z.2.2⟩,g,i,ep,k _ _ (.inl rfl) e,c⟩
 |set S n=>obtain⟨g,i,ep,t,e,c⟩:=x;exact⟨g,i,ep,t,k _ _ (.inl rfl) e,c⟩
 |ins C Q fs=>obtain⟨d,z,M,e,s,⟨A,i,ep,e2,c⟩,r⟩:=x;exact⟨ho _ d,z,M,k _ _ (.inl rfl) e,s,⟨A,i,ep,k _ _ (.inr d) e2,c⟩,r⟩
 |own y=>obtain⟨g,e⟩:=x;exact⟨g,k _ _ (.inl rfl) e⟩
 |xd fs=>obtain⟨s,⟨A,i,ep,e,c⟩,r⟩:=x;exact⟨s,⟨A,i,ep,k _ _ (.inl rfl) e,c⟩,r⟩
 |rng lo Z=>obtain⟨t,u,v,e⟩:=x;exact⟨t,u,v,k _ _ (.inl rfl) e⟩
 |frz g u G=>obtain⟨e,q⟩:=x;exact⟨k _ _ (.inl rfl) e,G q⟩
 |tbl ps=>have e:h.get? a=Y {cls:=.none,data:=.fields ps}:=x;show h'.get? a=Y {cls:=.none,data:=.fields ps};exact k a _ (.inl rfl) e
 |met f y=>have e:h.get? a=Y (Po (.ref f) (.ref y)):=x;show h'.get? a=Y (Po (.ref f)<|.ref y);exact k a _ (.inl rfl) e
 |ext φ=>obtain⟨p,⟨o,e⟩,D⟩:=x;exact⟨D _ _ p λo q=>k _ _ (.inl rfl) q,⟨o,k _ _ (.inl rfl) e⟩,D⟩
theorem HOk.lt (x:HOk P w H h)(e:H a=Y o):a<h.objs.size:=(x a o e).lt
theorem HOk.fresh (x:HOk P w H h)(e:h.objs.size<=a):H a=none:=by
 cases q:H a with
 |none=>rfl
 |some u=>exact Rm (Mc (x.lt q) e)<|NX _
theorem HOk.kept (x:HOk P w H h)(k:∀b u,h.get? b=Y u->h'.get? b=Y u):HOk P w H h':=λa o e=>
 (x a o e).stay (λb u _ q=>k b u q) (λ_ q=>q) λ_ _ q=>q
theorem HOk.laid (x:HOk P w H h)(k:∀b u,h.get? b=Y u->h'.get? b=Y u)(hp:h.objs.size<=a)(d:ObjOk P w (upd H a o) h' a o):HOk P w (upd H a o) h':=λb u e=>by
 have g:=x.fresh hp;by_cases f:b=a
 .subst f;rw[au] at e;cases e;exact d
 .rw [ah f] at e;exact(x b u e).stay (λc v _ q=>k c v q) (λc q=>by rw[ah<|aM q g];exact q) λc i q=>by rw[ah<|aM q g];exact q
end
def Rd (H:Hp)(a:Rj)(u:HO):Prop:=H a=Y u\/∃o,H a=Y (.frz o u)
theorem Rd.ok {P:Ro}{w:LA}{H:Hp}{h:Rx}{a:Rj}{u:HO}(r:Rd H a u)(x:HOk P w H h):ObjOk P w H h a u:=by
 rcases r with r|⟨o,r⟩
 .exact x a u r
 .obtain ⟨_,q⟩:=x a _ r;exact q
def Mut:L HO->Prop
|some (.lst _)=>R4
|some (.dK _)=>R4
|some (.dT _)=>R4
|some (.set _ _)=>R4
|some (.ins _ _ _)=>R4
|some (.ext _)=>R4
|_=>RB
section
variable {P:Ro}{w:LA}{H:Hp}{h h':Rx}{x e:Rj}{o':HO}
theorem HOk.write (ok:HOk P w H h)(j:Mut<|H x)(o:e=x\/H e=Y (.own x))(k:∀b u,b≠e->h.get? b=Y u->h'.get? b=Y u)(m:∃u,h'.get? e=Y u)
  (n:ObjOk P w (upd H x o') h' x o'):HOk P w (upd H x o') h':=λb u q=>by
 have d:∀c y,H c=Y (.own y)->c≠x:=λc y r z=>by subst z;rw[r] at j;exact j
 have f:∀c l,H c=Y (.tup l)->c≠x:=λc l r z=>by subst z;rw[r] at j;exact j
 by_cases g:b=x
 .subst g;rw[au] at q;cases q;exact n
 .rw [ah g] at q;by_cases a:b=e
  .have p:H b=Y (.own x):=by
    rcases o with z|z
    .exact Rm (a.trans z) g
    .rw[a];exact z
   rw[q] at p;cases p;obtain⟨v,s⟩:=m;exact⟨v,by rw[a];exact s⟩
  .refine (ok b u q).stay (fun c v i r=>k c v ?_ r) (fun c r=>by rw [ah (d c b r)]; exact r) fun c l r=>by rw [ah (f c l r)]; exact r
   rcases i with rfl|i
   .exact a
   .rintro rfl;rcases o with z|z
    .exact d c b i z
    .rw[i] at z;cases z;exact g rfl
end
structure Un (fs ex:U Rj)(H H':Hp)(h h':Rx):Prop where
 keep:∀b o,h.get? b=Y o->H b=J->b ∉ fs->b ∉ ex->h'.get? b=Y o
 slot:∀b o,h.get? b=Y o->H b=J->b∈fs->b ∉ ex->∃sl,h'.get? b=Y {o with slots:=sl}
 free:∀b o,h.get? b=Y o->H b=J->b ∉ ex->H' b=J
 there:∀b o,h.get? b=Y o->b ∉ ex->∃o',h'.get? b=Y o'
 tups:∀b xs,H b=Y (.tup xs)->H' b=Y (.tup xs)
 frzs:∀b o u,H b=Y (.frz o u)->H' b=Y (.frz o u)
 tbls:∀b ps,H b=Y (.tbl ps)->∃more,H' b=Y (.tbl (ps++more))
section
variable {fs fs' ex ex':U Rj}{H H1 H2:Hp}{h h1 h2 h':Rx}{a x e:Rj}{o:HO}
theorem Un.any (u:Un fs ex H H1 h h1){b:Rj}{c:Obj}(q:h.get? b=Y c)(n:H b=J)(hx:b ∉ ex):∃f,h1.get? b=Y {c with slots:=f}:=by
 by_cases d:b∈fs
 .exact u.slot b c q n d hx
 .exact⟨c.slots,u.keep b c q n d hx⟩
theorem Un.kept (k:∀b u,h.get? b=Y u->h'.get? b=Y u):Un fs ex H H h h':=
 ⟨λb c q _ _ _=>k b c q,λb c q _ _ _=>⟨c.slots,k b c q⟩,λ_ _ _ n _=>n,λb c q _=>⟨c,k b c q⟩,λ_ _ q=>q,λ_ _ _ q=>q,λ_ ps q=>⟨#[],by rw[q];simp⟩⟩
theorem Un.refl:Un fs ex H H h h:=Un.kept λ_ _ q=>q
theorem Un.laid (k:∀b u,h.get? b=Y u->h'.get? b=Y u)(hp:h.objs.size<=a)(c:H a=J):Un fs ex H (upd H a o) h h' where
 keep:=λb u q _ _ _=>k b u q
 slot:=λb u q _ _ _=>⟨u.slots,k b u q⟩
 free:=λb u q n _=>by rw[ah<|L5<|Mc (Heap.lt_size q) hp];exact n
 there:=λb u q _=>⟨u,k b u q⟩
 tups:=λb d q=>by rw[ah<|aM q c];exact q
 frzs:=λb u d q=>by rw[ah<|aM q c];exact q
 tbls:=λb ps q=>⟨#[],by rw[ah<|aM q c,q];simp⟩
theorem Un.write (d:Mut<|H x)(j:e=x\/H e=Y (.own x))(k:∀b u,b≠e->h.get? b=Y u->h'.get? b=Y u)(f:∃u,h'.get? e=Y u):Un fs ex H (upd H x o) h h':=by
 have hx:∀b,H b=J->b≠x:=λb n z=>by subst z;rw[n] at d;exact d
 have i:∀b,H b=J->b≠e:=λb n z=>by
  subst z;rcases j with r|r
  .exact hx b n r
  .rw[n] at r;cases r
 have g:∀b u,H b=Y u->¬Mut (Y u)->b≠x:=λb u q l z=>by subst z;rw[q] at d;exact l d
 refine⟨λb u q n _ _=>k b u (i b n) q,λb u q n _ _=>⟨u.slots,k b u (i b n) q⟩,λb u q n _=>by rw[ah<|hx b n];exact n,λb u q _=>?_,
  λb m q=>by rw[ah<|g b _ q λz=>z];exact q,λb u m q=>by rw[ah<|g b _ q λz=>z];exact q,λb ps q=>⟨#[],by rw[ah<|g b _ q λz=>z,q];simp⟩⟩
 by_cases c:b=e
 .subst c;exact f
 .exact⟨u,k b u c q⟩
end
noncomputable def trk (h:Rx)(H:Hp):U Rj:=(L4 h.objs.size).filter λa=>(H a).isSome
def ky (h:Rx)(H:Hp):Rx:=PySem.W.hideAll h<|trk h H
theorem rA (h:Rx)(H:Hp):(ky h H).objs.size=h.objs.size:=PySem.W.hideAll_size _ _
theorem tj {h:Rx}{H:Hp}{b:Rj}{o:Obj}(e:h.get? b=Y o)(n:H b=J):(ky h H).get? b=Y o:=
 PySem.W.hideAll_get _ e λa=>by have q:(H b).isSome=true:=(QD.mp a).2;rw[n] at q;simp at q
theorem yO {h:Rx}{H:Hp}{b:Rj}{o:Obj}(e:(ky h H).get? b=Y o):h.get? b=Y o/\H b=none:=by
 have a:h.get? b=Y o:=PySem.W.of_hideAll (trk h H) e;refine⟨a,?_⟩;cases q:H b with
 |none=>rfl
 |some x=>have c:b∈trk h H:=QD.mpr ⟨ON.mpr<|Heap.lt_size a,by simp[q]⟩;have z:(ky h H).get? b=none:=PySem.W.hideAll_none (trk h H) c;rw[z] at e;cases e
noncomputable def Ap (g h:Rx)(b:Rj):U (Rj×Obj):=(L4 h.objs.size).filterMap λa=>if a=b\/(g.get? a).isSome=Lw then J else(h.get? a).map λo=>(a,o)
def rest (g h:Rx)(a d:Rj):U (Rj×Obj):=(Ap g h a).filter λp=>decide (p.1≠d)
structure Mod (K:Ly)(mg:Str->L B)(base:Rx):Prop where
 kin:K.In base
 glob:base.Ns LP mg
 blt:∃mb,base.Ns builtinsNs mb/\∀x:Str,x≠"__name__"->mb x=Np x
 nolimit:base.NoLimit
structure Cx where
 prog:Ro
 w:LA
 K:Ly
 mg:Str->L B
 base:Rx
 A:LS
 N:U Str
 s₀:Lx
 H₀:Hp
 env:Env
 outer:U Env
 stack:U Env
 ex:U Rj
 fn:Str->Rl
 calm:Rl
 pn:U (Rj×Obj)
 xe:B->Lx->Prop
noncomputable def frs (l:U Env):U Rj:=l.filterMap (·.frame)
abbrev Cx.fs (X:Cx):U Rj:=frs X.outer
def Vis (a:RF)(x:Str):Prop:=a.names.lookup x=Y .local\/a.names.lookup x=Y .cell\/a.names.lookup x=Y .free
def Loc (a:RF)(x:Str):Prop:=a.names.lookup x=Y .local\/a.names.lookup x=Y .cell
def Jz (a:Env)(h:Rx)(m:Str->L B)(x:Str)(u:B):Prop:=
 (a.kindOf x=Y .local/\m x=Y u)\/((a.kindOf x=Y .cell\/a.kindOf x=Y .free)/\∃c,a.cells.lookup x=Y c/\h.IsCell c (Y u))
structure Cx.Ok (X:Cx):Prop where
 mod:Mod X.K X.mg X.base
 kind:X.env.scope.kind=.function
 glob:X.env.globals=LP
 blt:X.env.builtins=builtinsNs
 above:X.s₀.heap.objs.size<=X.env.locals
 inj:∀x y c,X.env.cells.lookup x=Y c->X.env.cells.lookup y=Y c->x=y
 has:∀x,(X.env.kindOf x=Y .cell\/X.env.kindOf x=Y .free)->∃c,X.env.cells.lookup x=Y c
 cab:∀x c,X.fn x=Lw->X.env.cells.lookup x=Y c->X.s₀.heap.objs.size<=c
 hd:X.calm=Lw->X.A.handled=J
 frames:X.A.frames=Y X.stack
 stk:X.stack=X.outer\/(X.stack=X.env::X.outer/\X.env.frame=Y X.env.locals)
 exf:∀b∈X.ex,b≠X.env.locals/\∀x c,X.env.cells.lookup x=Y c->c≠b
 bs:∀b o,X.base.get? b=Y o->X.s₀.heap.get? b=Y o/\X.H₀ b=J
 bsz:X.base.objs.size<=X.s₀.heap.objs.size
 noex:∀b o,X.base.get? b=Y o->b ∉ X.ex
 exfs:∀b∈X.ex,b ∉ X.fs
 funs:X.s₀.heap.FunFrames X.base X.outer
 frf:∀b∈X.fs,X.H₀ b=J
structure Inv (X:Cx)(pins:U (Rj×Obj))(σ:U (L V))(H:Hp)(s:Lx):Prop where
 ok:X.Ok
 os:s.os=X.s₀.os
 bare:M6 s.gens
 base:Un X.fs X.ex X.H₀ H X.s₀.heap s.heap
 loc:∃m,s.heap.Ns X.env.locals m/\∀(i:O) (x:Str) (v:V),X.N[i]?=Y x->σ[i]?=Y (Y v)->Vis X.env.scope x->∃u,RelV v u/\Jz X.env s.heap m x u
 cell:∀x c,X.env.cells.lookup x=Y c->∃v,s.heap.IsCell c v
 free:H X.env.locals=J
 freeC:∀x c,X.env.cells.lookup x=Y c->H c=J
 pin:∀p∈X.pn++pins,s.heap.get? p.1=Y p.2/\H p.1=J/\p.1≠X.env.locals/\p.1 ∉ X.fs/\∀v,p.2.data≠.cell v
 hok:HOk X.prog X.w H s.heap
 len:σ.length=X.N.length
section
variable {X:Cx}{pins:U (Rj×Obj)}{σ:U (L V)}{H H':Hp}{s:Lx}{h':Rx}
theorem Cx.Ok.nofr (ok:X.Ok){b:Rj}{o:Obj}(e:X.base.get? b=Y o):b ∉ X.fs:=λa=>by have:=(ok.funs.mem a).1;rw[e] at this;cases this
theorem Inv.bs (a:Inv X pins σ H s):∀b o,X.base.get? b=Y o->s.heap.get? b=Y o/\H b=none:=λb o e=>
 ⟨a.base.keep b o (a.ok.bs b o e).1 (a.ok.bs b o e).2 (a.ok.nofr e)<|a.ok.noex b o e,a.base.free b o (a.ok.bs b o e).1 (a.ok.bs b o e).2<|a.ok.noex b o e⟩
theorem Inv.bk (a:Inv X pins σ H s):∀b o,X.base.get? b=Y o->s.heap.get? b=Y o:=λb o e=>(a.bs b o e).1
theorem Inv.mod (a:Inv X pins σ H s):Mod X.K X.mg X.base:=a.ok.mod
theorem Inv.kIn (a:Inv X pins σ H s):X.K.In s.heap:=a.ok.mod.kin.keeps a.bk
theorem Inv.fr (a:Inv X pins σ H s):∃m,Fr X.base X.env.locals s.heap m:=
 let ⟨m,b,_⟩:=a.loc
 ⟨m,b,a.bk,LL a.ok.bsz a.ok.above⟩
theorem Inv.lt (a:Inv X pins σ H s):X.env.locals<s.heap.objs.size:=let ⟨_,b,_⟩:=a.loc;b.lt
theorem Inv.sz (a:Inv X pins σ H s):X.s₀.heap.objs.size<=s.heap.objs.size:=LL a.ok.above<|OX a.lt
theorem Inv.nofs (b:Inv X pins σ H s){a:Rj}(h:s.heap.objs.size<=a):a ∉ X.fs:=λc=>by obtain⟨_,o,ho,_⟩:=b.ok.funs.mem c;exact Rm (Mc (Heap.lt_size ho)<|LL b.sz h)<|NX _
theorem Inv.cne (a:Inv X pins σ H s):∀x c,X.env.cells.lookup x=Y c->c≠X.env.locals:=λx c e z=>by obtain⟨v,o,ho,hd⟩:=a.cell x c e;obtain⟨m,⟨g,f,ep,d,b,_⟩,_⟩:=a.loc;rw[z,d] at ho;cases ho;rw[b] at hd;cases hd
theorem Inv.funs (a:Inv X pins σ H s):s.heap.FunFrames X.base X.outer:=by
 have all:∀(l:U Env),(∀b∈frs l,b∈X.fs)->X.s₀.heap.FunFrames X.base l->s.heap.FunFrames X.base l:=by
  intro l;induction l with
  |nil=>intro _ _;trivial
  |cons i r n=>intro h j;obtain⟨hk,⟨c,o,g,k,ho,hd⟩,m⟩:=j;have d:c∈X.fs:=h c (by unfold frs;rw[NT,g];exact LI);obtain⟨p,e⟩:=a.base.slot c o ho (a.ok.frf c d) d λz=>a.ok.exfs c z d;exact⟨hk,⟨c,_,g,k,e,hd⟩,n (λb f=>h b<|by unfold frs;rw[NT,g];exact LO _ f) m⟩
 exact all X.outer (λ_ f=>f) a.ok.funs
theorem Inv.stack (a:Inv X pins σ H s):s.heap.FunFrames X.base X.stack:=by
 rcases a.ok.stk with e|⟨e,hf⟩
 .rw[e];exact a.funs
 .rw [e];obtain⟨m,b,_⟩:=a.loc;refine .cons (by rw[a.ok.kind];decide) hf b ?_ a.funs;exact Heap.get?_none_of_le<|LL a.ok.bsz a.ok.above
theorem Inv.stkSub (a:Inv X pins σ H s):∀b∈frs X.stack,b∈X.env.locals::X.fs:=λb c=>by
 rcases a.ok.stk with e|⟨e,hf⟩
 .rw[e] at c;exact LO _ c
 .rw [e] at c;unfold frs at c;rw[NT,hf] at c;exact c
theorem Inv.stkFree (a:Inv X pins σ H s):∀b∈frs X.stack,H b=none:=λb c=>by
 rcases LK.mp (a.stkSub b c) with e|c
 .rw[e];exact a.free
 .obtain ⟨_,o,ho,_⟩:=a.ok.funs.mem c;exact a.base.free b o ho (a.ok.frf b c) λz=>a.ok.exfs b z c
theorem Inv.step {g':RD RW}{t':O}{d':Drawn}{ch:U Rj}(a:Inv X pins σ H s)
  (h:∀b∈ch,(b∈X.ex\/X.s₀.heap.objs.size<=b)/\b≠X.env.locals/\(∀x c,X.env.cells.lookup x=Y c->c≠b)/\∀p∈X.pn++pins,p.1≠b)
  (keep:∀b o,b≠X.env.locals->b ∉ X.fs->b ∉ ch->s.heap.get? b=Y o->H b=J->h'.get? b=Y o)
  (y:∀b o,b≠X.env.locals->b∈X.fs->b ∉ ch->s.heap.get? b=Y o->H b=J->∃sl,h'.get? b=Y {o with slots:=sl}) (f:∀b o,b ∉ ch->s.heap.get? b=Y o->H b=J->H' b=J)
  (F:∀b o,b ∉ ch->s.heap.get? b=Y o->∃P,h'.get? b=Y P)
  (Z:∀b A,H b=Y (.tup A)->H' b=Y (.tup A)) (G:∀b o u,H b=Y (.frz o u)->H' b=Y (.frz o u)) (Q:∀b ps,H b=Y (.tbl ps)->∃M,H' b=Y (.tbl<|ps++M))
  (ns:∀m,s.heap.Ns X.env.locals m->h'.Ns X.env.locals m) (hok:HOk X.prog X.w H' h') (hg:M6 g'):
  Inv X pins σ H' {s with heap:=h',gens:=g',drawn:=d',toks:=t'}:=by
 have N:∀b o,X.s₀.heap.get? b=Y o->b≠X.env.locals:=λb o e=>L5<|Mc (Heap.lt_size e) a.ok.above
 have t:∀b o,X.s₀.heap.get? b=Y o->b ∉ X.ex->b ∉ ch:=λb o e hx D=>by
  rcases(h b D).1 with z|z
  .exact hx z
  .exact Rm (Mc (Heap.lt_size e) z) (NX _)
 have g:∀x c,X.env.cells.lookup x=Y c->∀v,s.heap.IsCell c v->h'.IsCell c v:=λx c e v ⟨o,ho,hd⟩=>by
  have j:c ∉ ch:=λz=>(h c z).2.2.1 x c e rfl;by_cases hc:c∈X.fs
  .obtain ⟨sl,q⟩:=y c o (a.cne x c e) hc j ho<|a.freeC x c e;exact⟨_,q,hd⟩
  .exact⟨o,keep c o (a.cne x c e) hc j ho<|a.freeC x c e,hd⟩
 refine⟨a.ok,a.os,hg,⟨λb o e n D hx=>?_,λb o e n D hx=>?_,λb o e n hx=>?_,λb o e hx=>?_,λb A e=>Z b A<|a.base.tups b A e,λb o A e=>G b o A<|a.base.frzs b o A e,λb ps e=>?_⟩,?_,λx c e=>?_,?_,λx c e=>?_,λp hp=>?_,hok,a.len⟩
 .exact keep b o (N b o e) D (t b o e hx) (a.base.keep b o e n D hx) (a.base.free b o e n hx)
 .obtain ⟨sl,e1⟩:=a.base.slot b o e n D hx;obtain⟨sl',e2⟩:=y b _ (N b o e) D (t b o e hx) e1<|a.base.free b o e n hx;exact⟨sl',e2⟩
 .obtain ⟨P,e1⟩:=a.base.there b o e hx;exact f b P (t b o e hx) e1<|a.base.free b o e n hx
 .obtain ⟨P,e1⟩:=a.base.there b o e hx;exact F b P (t b o e hx) e1
 .obtain ⟨m1,e1⟩:=a.base.tbls b ps e;obtain⟨m2,e2⟩:=Q b _ e1;exact⟨m1++m2,by rw[e2,Q0]⟩
 .obtain ⟨m,hn,hl⟩:=a.loc;refine⟨m,ns m hn,λi x v e1 e2 e3=>?_⟩;obtain⟨u,r,l⟩:=hl i x v e1 e2 e3;refine⟨u,r,?_⟩;rcases l with l|⟨k,c,e,z⟩
  .exact .inl l
  .exact .inr ⟨k,c,e,g x c e _ z⟩
 .obtain ⟨v,z⟩:=a.cell x c e;exact⟨v,g x c e v z⟩
 .obtain ⟨m,⟨o,_,_,ho,_⟩,_⟩:=a.loc;exact f _ o (λz=>(h _ z).2.1 rfl) ho a.free
 .obtain ⟨v,o,ho,hd⟩:=a.cell x c e;exact f c o (λz=>(h c z).2.2.1 x c e rfl) ho<|a.freeC x c e
 .obtain ⟨e,n,ne,nf,d⟩:=a.pin p hp;have j:p.1 ∉ ch:=λz=>(h p.1 z).2.2.2 p hp rfl;exact⟨keep p.1 p.2 ne nf j e n,f p.1 p.2 j e n,ne,nf,d⟩
theorem Inv.un {t':O}(a:Inv X pins σ H s)(u:Un X.fs [] H H' s.heap h')(h:HOk X.prog X.w H' h'):Inv X pins σ H' {s with heap:=h',toks:=t'}:=by
 obtain⟨m,⟨o,l,ep,ho,r⟩,_⟩:=id a.loc;obtain⟨v,i⟩:=u.any ho a.free<|by simp
 exact a.step (g':=s.gens) (d':=s.drawn) (ch:=[]) (λ_ z=>nomatch z) (λb o _ g _ e n=>u.keep b o e n g<|by simp) (λb o _ g _ e n=>u.slot b o e n g<|by simp) (λb o _ e n=>u.free b o e n<|by simp) (λb o _ e=>u.there b o e<|by simp) u.tups u.frzs u.tbls (λp j=>by
  obtain⟨t,f,d,c,k⟩:=j;rw[ho] at c;cases c;exact⟨_,f,d,i,k⟩) h a.bare
theorem Inv.call {g':RD RW}{t':O}{d':Drawn}{ch:U Rj}(a:Inv X pins σ H s)(u:Un (frs X.stack) ch H H' s.heap h')(k:HOk X.prog X.w H' h')(t:M6 g')
  (f:∀b∈ch,(b∈X.ex\/X.s₀.heap.objs.size<=b)/\b≠X.env.locals/\(∀x c,X.env.cells.lookup x=Y c->c≠b)/\∀p∈X.pn++pins,p.1≠b):
  Inv X pins σ H' {s with heap:=h',gens:=g',drawn:=d',toks:=t'}:=by
 obtain⟨m,⟨o,A,ep,ho,r⟩,_⟩:=id a.loc;obtain⟨G,j⟩:=u.any ho a.free λz=>(f _ z).2.1 rfl
 exact a.step (ch:=ch) f (λb o j l d e n=>u.keep b o e n (λz=>(LK.mp<|a.stkSub b z).elim j l) d) (λb o _ _ d e n=>u.any e n d) (λb o d e n=>u.free b o e n d) (λb o d e=>u.there b o e d) u.tups u.frzs u.tbls (λD v=>by
  obtain⟨F,i,h,g,y⟩:=v;rw[ho] at g;cases g;exact⟨_,i,h,j,y⟩) k t
theorem Inv.turned {t':O}{it:Rj}(a:Inv X pins σ H s)(k:∀b o,b≠it->s.heap.get? b=Y o->h'.get? b=Y o)(y:H it=J)(g:it≠X.env.locals)
  (i:it∈X.ex\/X.s₀.heap.objs.size<=it) (j:∀x c,X.env.cells.lookup x=Y c->c≠it) (l:∀p∈X.pn++pins,p.1≠it):Inv X pins σ H {s with heap:=h',toks:=t'}:=by
 have f:∀b u,H b=Y u->b≠it:=λb u e z=>by rw[z,y] at e;cases e
 refine a.step (g':=s.gens) (d':=s.drawn) (ch:=[it]) (λb t=>?_) (λb o _ _ d e _=>k b o (λz=>d<|by simp[z]) e) (λb o _ _ d e _=>⟨o.slots,k b o (λz=>d<|by simp[z]) e⟩) (λ_ _ _ _ n=>n)
  (λb o d e=>⟨o,k b o (λz=>d<|by simp[z]) e⟩) (λ_ _ e=>e) (λ_ _ _ e=>e) (λb ps e=>⟨#[],by rw[e];simp⟩) (λm w=>?_) (λb u e=>?_) a.bare
 .have e:b=it:=by simpa using t
  subst e;exact⟨i,g,j,l⟩
 .obtain ⟨o,h,ep,ho,r⟩:=w;exact⟨o,h,ep,k _ o (Mx g) ho,r⟩
 .refine (a.hok b u e).stay (fun c v d q=>k c v ?_ q) (fun _ q=>q) fun _ _ q=>q;rcases d with z|z
  .rw[z];exact f b u e
  .exact f c _ z
theorem Inv.tok (a:Inv X pins σ H s)(t:O):Inv X pins σ H {s with toks:=t}:=a.un (h':=s.heap) (t':=t) Un.refl a.hok
theorem Inv.kept {t':O}(a:Inv X pins σ H s)(k:∀b u,s.heap.get? b=Y u->h'.get? b=Y u):Inv X pins σ H {s with heap:=h',toks:=t'}:=a.un (Un.kept k)<|a.hok.kept k
theorem Inv.laid {a:Rj}{o:HO}{t':O}(c:Inv X pins σ H s)(k:∀b u,s.heap.get? b=Y u->h'.get? b=Y u)(hp:s.heap.objs.size<=a)(d:ObjOk X.prog X.w (upd H a o) h' a o):
  Inv X pins σ (upd H a o) {s with heap:=h',toks:=t'}:=c.un (Un.laid k hp<|c.hok.fresh hp)<|c.hok.laid k hp d
theorem Inv.write {x e:Rj}{o:HO}{h:O}(a:Inv X pins σ H s)(g:Mut<|H x)(f:e=x\/H e=Y (.own x))(k:∀b u,b≠e->s.heap.get? b=Y u->h'.get? b=Y u)(c:∃u,h'.get? e=Y u)
  (d:ObjOk X.prog X.w (upd H x o) h' x o):Inv X pins σ (upd H x o) {s with heap:=h',toks:=h}:=a.un (Un.write g f k c)<|a.hok.write g f k c d
theorem Inv.weak {b:U<|L V}(a:Inv X pins σ H s)(d:b.length=σ.length)(w:∀(i:O) v,b[i]?=Y (Y v)->σ[i]?=Y (Y v)):Inv X pins b H s:=
 ⟨a.ok,a.os,a.bare,a.base,let ⟨m,e,c⟩:=a.loc;⟨m,e,λi x v e1 e2 e3=>c i x v e1 (w i v e2) e3⟩,a.cell,a.free,a.freeC,a.pin,a.hok,d.trans a.len⟩
theorem Inv.pins_of {b:U<|Rj×Obj}(a:Inv X pins σ H s)(h:∀p∈b,s.heap.get? p.1=Y p.2/\H p.1=J/\p.1≠X.env.locals/\p.1 ∉ X.fs/\∀v,p.2.data≠.cell v):Inv X b σ H s:=
 ⟨a.ok,a.os,a.bare,a.base,a.loc,a.cell,a.free,a.freeC,λp hp=>(Ms.mp hp).elim (λz=>a.pin p<|Nb _ z)<|h p,a.hok,a.len⟩
theorem lY {N:U Str}(hN:N.Nodup){i j:O}{x:Str}(a:N[i]?=Y x)(b:N[j]?=Y x):i=j:=by obtain⟨c,e1⟩:=Mo.mp a;obtain⟨d,e2⟩:=Mo.mp b;exact(List.getElem_inj hN).mp<|e1.trans e2.symm
theorem i9 {M:Model}{A:LS}{E:B->Lx->Prop}{i:O}{x:Str}{v:V}{u:B}{Q:Unit->Lx->Prop}(f:Inv X pins σ H s)(hN:X.N.Nodup)(hi:X.N[i]?=Y x)(hx:Loc X.env.scope x)(r:RelV v u)
  (h:∀s',Inv X pins (σ.set i<|Y v) H s'->(∃a,Heap.SameBut a s.heap s'.heap/\(a=X.env.locals\/X.env.cells.lookup x=Y a))->Q () s') (hf:X.fn x=Lw\/X.env.scope.names.lookup x=Y .local:=by first|exact .inl rfl|exact .inr rfl|assumption):Rp M A (storeName X.env x u) Q E s:=by
 obtain⟨m,hn,hl⟩:=id f.loc;have hcls:(X.env.scope.kind==.class || (X.env.scope.kind==.module&&X.env.locals != X.env.globals))=false:=by rw[f.ok.kind];rfl
 have F:i < σ.length:=by rw[f.len];exact(Mo.mp hi).1
 have cne:=f.cne
 have l:∀{a:Rj} {h':Rx},(∃o,s.heap.get? a=Y o/\H a=J)->Heap.SameBut a s.heap h'->HOk X.prog X.w H h':=λ{a h'} ha g b ob e=>by
  obtain⟨_,_,D⟩:=ha;refine(f.hok b ob e).stay (λc w' t q=>(g.2 c ?_).trans q) (λ_ q=>q) λ_ _ q=>q;rintro rfl;rcases t with rfl|t
  .rw[D] at e;cases e
  .rw[D] at t;cases t
 rcases hx with hk|hk
 .refine wpAny_storeName_local hk hn (fun h' hn' g=>?_) hcls;obtain⟨oL,_,_,hoL,_⟩:=id hn;refine h _ ⟨f.ok,f.os,f.bare,⟨λb o e n G hx=>?_,λb o e n G hx=>?_,f.base.free,λb o e hx=>?_,f.base.tups,f.base.frzs,f.base.tbls⟩,⟨_,hn',λj y v' e1 e2 e3=>?_⟩,λy c e=>?_,f.free,f.freeC,λp hp=>?_,l ⟨oL,hoL,f.free⟩ g,by simpa using f.len⟩ ⟨_,g,.inl rfl⟩
  .exact(g.2 b<|L5<|Mc (Heap.lt_size e) f.ok.above).trans<|f.base.keep b o e n G hx
  .obtain ⟨sl,e1⟩:=f.base.slot b o e n G hx;exact⟨sl,(g.2 b<|L5<|Mc (Heap.lt_size e) f.ok.above).trans e1⟩
  .obtain ⟨o',e1⟩:=f.base.there b o e hx;exact⟨o',(g.2 b<|L5<|Mc (Heap.lt_size e) f.ok.above).trans e1⟩
  .by_cases Z:j=i
   .subst Z;rw[hi] at e1;cases e1;rw[PX F] at e2;cases e2;exact⟨u,r,.inl ⟨hk,by simp⟩⟩
   .rw [O2 (Mx Z)] at e2;obtain⟨u',r',q⟩:=hl j y v' e1 e2 e3;refine⟨u',r',?_⟩;rcases q with⟨k,e⟩|⟨k,c,e,z⟩
    .refine .inl ⟨k,?_⟩;have:y≠x:=λe=>Z<|lY hN e1<|e ▸ hi;simp[this,e]
    .exact .inr ⟨k,c,e,z.sameBut g<|cne y c e⟩
  .obtain ⟨w',z⟩:=f.cell y c e;exact⟨w',z.sameBut g<|cne y c e⟩
  .obtain ⟨e,n,ne,nf,d⟩:=f.pin p hp;exact⟨(g.2 p.1 ne).trans e,n,ne,nf,d⟩
 .have P:X.fn x=true:=by
   rcases hf with z|z
   .exact z
   .rw[z] at hk;cases hk
  obtain⟨c,t⟩:=f.ok.has x<|.inl hk;obtain⟨w',z⟩:=f.cell x c t;refine wpAny_storeName_cell f.ok.kind hk t z λh' hc' g=>?_;obtain⟨oc,hoc,hocd⟩:=id z;refine h {s with heap:=h'} ⟨f.ok,f.os,f.bare,⟨λb o e n G hx=>?_,λb o e n G hx=>?_,f.base.free,λb o e hx=>?_,f.base.tups,f.base.frzs,f.base.tbls⟩,⟨m,hn.sameBut g<|Mx<|cne x c t,λj y v' e1 e2 e3=>?_⟩,λy c' e=>?_,f.free,f.freeC,λp hp=>?_,l ⟨oc,hoc,f.freeC x c t⟩ g,by simpa using f.len⟩ ⟨c,g,.inr t⟩
  .exact(g.2 b<|L5<|Mc (Heap.lt_size e)<|f.ok.cab x c P t).trans<|f.base.keep b o e n G hx
  .obtain ⟨sl,e1⟩:=f.base.slot b o e n G hx;exact⟨sl,(g.2 b<|L5<|Mc (Heap.lt_size e)<|f.ok.cab x c P t).trans e1⟩
  .obtain ⟨o',e1⟩:=f.base.there b o e hx;exact⟨o',(g.2 b<|L5<|Mc (Heap.lt_size e)<|f.ok.cab x c P t).trans e1⟩
  .by_cases Z:j=i
   .subst Z;rw[hi] at e1;cases e1;rw[PX F] at e2;cases e2;exact⟨u,r,.inr ⟨.inl hk,c,t,hc'⟩⟩
   .rw [O2 (Mx Z)] at e2;obtain⟨u',r',q⟩:=hl j y v' e1 e2 e3;refine⟨u',r',?_⟩;rcases q with q|⟨k,c',e,z'⟩
    .exact .inl q
    .refine .inr ⟨k,c',e,z'.sameBut g ?_⟩;rintro rfl;exact Z<|lY hN e1<|f.ok.inj _ _ _ e t ▸ hi
  .by_cases hcc:c'=c
   .subst hcc;exact⟨_,hc'⟩
   .obtain ⟨w2,z2⟩:=f.cell y c' e;exact⟨w2,z2.sameBut g hcc⟩
  .obtain ⟨e,n,ne,nf,d⟩:=f.pin p hp;refine⟨(g.2 p.1 ?_).trans e,n,ne,nf,d⟩;intro q;rw[q,hoc] at e;have q':oc=p.2:=Mf e;exact d w'<|by rw[<- q'];exact hocd
theorem my {M:Model}{A:LS}{E:B->Lx->Prop}{i:O}{x:Str}{v:V}{u:B}{Q:Unit->Lx->Prop}(a:Inv X pins σ H s)(hN:X.N.Nodup)(e:X.N[i]?=Y x)(hx:Loc X.env.scope x)(r:RelV v u)
  (h:∀b,Inv X pins (σ.set i<|Y v) H b->Q () b) (d:X.fn x=Lw\/X.env.scope.names.lookup x=Y .local:=by first|exact .inl rfl|exact .inr rfl|assumption):Rp M A (storeName X.env x u) Q E s:=
 i9 a hN e hx r (λb c _=>h b c) d
theorem Inv.call' {s':Lx}{ch:U Rj}(a:Inv X pins σ H s)(ho:s'.os=s.os)(u:Un (frs X.stack) ch H H' s.heap s'.heap)(f:HOk X.prog X.w H' s'.heap)(g:M6 s'.gens)
  (d:∀b∈ch,(b∈X.ex\/X.s₀.heap.objs.size<=b)/\b≠X.env.locals/\(∀x c,X.env.cells.lookup x=Y c->c≠b)/\∀p∈X.pn++pins,p.1≠b):Inv X pins σ H' s':=by
 obtain⟨h',g',d',t',h⟩:=s';have e:h=s.os:=ho;subst e;exact a.call (g':=g') (t':=t') (d':=d') u f g d
end
abbrev XK:=B->L Rj->Hp->Prop
abbrev St:=U<|L V
abbrev VK:=V->Hp->Prop
abbrev TE:=St->Hp->VK->Prop
abbrev TT:=St->Hp->(Rl->Hp->Prop)->Prop
abbrev TA:=St->Hp->(U V->Hp->Prop)->Prop
structure cO where
 nx:St->Hp->Prop
 rt:VK
 bk:St->Hp->Prop:=λ_ _=>RB
 ct:St->Hp->Prop:=λ_ _=>RB
abbrev TS:=cO->St->Hp->Prop
def EP (X:Cx)(a:U<|Rj×Obj)(d:St)(Q:VK)(u:B)(c:Lx):Prop:=∃v b,Inv X a d b c/\RelV v u/\Q v b
def TP (X:Cx)(a:U<|Rj×Obj)(e:St)(Q:Rl->Hp->Prop)(b:Rl)(d:Lx):Prop:=∃c,Inv X a e c d/\Q b c
def AP (X:Cx)(a:U<|Rj×Obj)(f:St)(Q:U V->Hp->Prop)(e:U B)(d:Lx):Prop:=∃c b,Inv X a f b d/\Vals c e/\Q c b
def SP (X:Cx)(b:U<|Rj×Obj)(D:cO)(f:Flow)(d:Lx):Prop:=
 match f with
 |.next=>∃a c,Inv X b a c d/\D.nx a c
 |.brk=>∃a c,Inv X b a c d/\D.bk a c
 |.cont=>∃a c,Inv X b a c d/\D.ct a c
 |.ret u=>∃v a c,Inv X b a c d/\RelV v u/\D.rt v c
def PE (X:Cx)(e:Rv)(t:TE):Prop:=
 ∀(a:U<|Rj×Obj) (s:Lx) (b:St) (H:Hp) (Q:VK),Inv X a b H s->t b H Q->Rp (LC X.prog X.w) X.A (Rz e X.env) (EP X a b Q) X.xe s
def PT (X:Cx)(e:Rv)(t:TT):Prop:=
 ∀(a:U<|Rj×Obj) (s:Lx) (b:St) (H:Hp) (Q:Rl->Hp->Prop),Inv X a b H s->t b H Q->Rp (LC X.prog X.w) X.A (R6 e X.env<|Rz e X.env) (TP X a b Q) X.xe s
def PW (X:Cx)(e:Rv)(t:TT):Prop:=
 ∀(b:Sem B) (a:U<|Rj×Obj) (s:Lx) (c:St) (H:Hp) (Q:Rl->Hp->Prop),Inv X a c H s->t c H Q->Rp (LC X.prog X.w) X.A (R6 e X.env b) (TP X a c Q) X.xe s
theorem PW.pt {X:Cx}{e:Rv}{t:TT}(h:PW X e t):PT X e t:=h _
def PA (X:Cx)(d:U Rv)(t:TA):Prop:=
 ∀(b:Pos) (a:U<|Rj×Obj) (s:Lx) (c:St) (H:Hp) (Q:U V->Hp->Prop),Inv X a c H s->t c H Q->Rp (LC X.prog X.w) X.A (spliced<|LY b<|Lz d X.env) (AP X a c Q) X.xe s
def PS (X:Cx)(c:Ry)(t:TS):Prop:=
 ∀(a:U<|Rj×Obj) (s:Lx) (b:St) (H:Hp) (D:cO),Inv X a b H s->t D b H->Rp (LC X.prog X.w) X.A (exec c X.env) (SP X a D) X.xe s
def PSs (X:Cx)(c:U Ry)(t:TS):Prop:=
 ∀(a:U<|Rj×Obj) (s:Lx) (b:St) (H:Hp) (D:cO),Inv X a b H s->t D b H->Rp (LC X.prog X.w) X.A (execs c X.env) (SP X a D) X.xe s
theorem thn {c:Type}{t:Sem c}{Q b:c->Lx->Prop}{M:Model}{A:LS}{E:B->Lx->Prop}{s:Lx}(h:Rp M A t Q E s)(d:∀a s,Q a s->b a s):Rp M A t b E s:=Mh h d λ_ _ x=>x
section
variable {X:Cx}
def rK (i:O):TE:=λa H Q=>∃v,a[i]?=Y (Y v)/\Q v H
def tC (v:V):TE:=λ_ H Q=>Q v H
theorem bR {i:O}{x:Str}{j:Pos}(hN:X.N[i]?=Y x)(t:Vis X.env.scope x)(hd:(x==("__debug__":Str))=false:=by decide)(g:(x==("__classdict__":Str))=false:=by decide):PE X (.Name x j) (rK i):=by
 intro f s w H Q a h;obtain⟨v,e,h⟩:=h;obtain⟨m,p,n⟩:=a.loc;obtain⟨u,r,l⟩:=n i x v hN e t;have d:EP X f w Q u s:=⟨v,H,a,r,h⟩;rcases l with⟨hk,o⟩|⟨hk,c,k,b⟩
 .exact wpAny_Name (wpAny_loadName_local a.ok.kind hk p o d) hd
 .rcases hk with hk | hk
  .exact wpAny_Name (wpAny_loadName_cell a.ok.kind hk k b d) hd
  .exact wpAny_Name (wpAny_loadName_free a.ok.kind hk k b d g) hd
theorem mJ {i j pos}:PE X (.Constant (.int i) j pos) (tC<|.int i):=λ_ _ _ H _ a h=>wpAny_Constant_int ⟨.int i,H,a.tok _,⟨_,rfl⟩,h⟩
theorem FX {b j pos}:PE X (.Constant (.bool b) j pos) (tC<|.bl b):=λ_ _ _ H _ a h=>Constant_bool ⟨.bl b,H,a,rfl,h⟩
theorem CH {j pos}:PE X (.Constant .none j pos) (tC .non):=λ_ _ _ H _ a h=>Constant_none ⟨.non,H,a,rfl,h⟩
theorem C4 {x j pos}:PE X (.Constant (.str x) j pos) (tC<|.str x):=λ_ _ _ H _ a h=>Calls.Constant_str ⟨.str x,H,a.tok _,⟨_,rfl⟩,h⟩
def Gl (X:Cx)(x:Str):Prop:=X.env.kindOf x=Y .globalImplicit
theorem jN {E:B->Lx->Prop}{b:U<|Rj×Obj}{s:Lx}{f:St}{H:Hp}{x:Str}{u:B}{c:Pos}{Q:B->Lx->Prop}(a:Inv X b f H s)(d:Gl X x)(e:X.mg x=Y u)(h:Q u s)
  (hd:(x==("__debug__":Str))=false:=by decide):Rp (LC X.prog X.w) X.A (Rz (.Name x c) X.env) Q E s:=
 Calls.Name_function_global a.ok.kind d (Calls.loadGlobal_global (by rw[a.ok.glob];exact a.mod.glob.keeps a.bk) e h) hd
theorem eB {E:B->Lx->Prop}{b:U<|Rj×Obj}{s:Lx}{k:St}{H:Hp}{x:Str}{u:B}{c:Pos}{Q:B->Lx->Prop}(a:Inv X b k H s)(f:Gl X x)(g:X.mg x=J)(j:Np x=Y u)(h:Q u s)
  (i:x≠"__name__":=by decide) (hd:(x==("__debug__":Str))=false:=by decide):Rp (LC X.prog X.w) X.A (Rz (.Name x c) X.env) Q E s:=by
 obtain⟨l,d,e⟩:=a.mod.blt;exact Calls.Name_function_global a.ok.kind f (Calls.loadGlobal_builtin (by rw[a.ok.glob];exact a.mod.glob.keeps a.bk) g (by rw[a.ok.blt];exact d.keeps a.bk) ((e x i).trans j) h) hd
theorem gK {x:Str}{v:V}{u:B}{b:Pos}(c:Gl X x)(d:X.mg x=Y u)(r:RelV v u)(hd:(x==("__debug__":Str))=false:=by decide):PE X (.Name x b) (tC v):=
 λ_ _ _ H _ a h=>jN a c d ⟨v,H,a,r,h⟩ hd
theorem zH {x:Str}{v:V}{u:B}{b:Pos}(c:Gl X x)(d:X.mg x=J)(f:Np x=Y u)(r:RelV v u)(e:x≠"__name__":=by decide)(hd:(x==("__debug__":Str))=false:=by decide):PE X (.Name x b) (tC v):=
 λ_ _ _ H _ a h=>eB a c d f ⟨v,H,a,r,h⟩ e hd
variable {a b:Rv}{ta tb:TE}{pos:Pos}
def PC (X:Cx)(op:CmpOp)(a b:Rv)(t:TE):Prop:=
 ∀(c:U<|Rj×Obj) (s:Lx) (f:St) (H:Hp) (Q:VK),Inv X c f H s->t f H Q ->
  Rp (LC X.prog X.w) X.A (Rz a X.env) (λv d=>Rp (LC X.prog X.w) X.A (Rz b X.env) (λu e=>Rp (LC X.prog X.w) X.A (Mg op v u) (EP X c f Q) X.xe e) X.xe d) X.xe s
noncomputable def tB (t:TE):TT:=λe H Q=>t e H λx d=>∃c,x=.bl c/\Q c d
variable {tA tB':TT}{rest:U Rv}
noncomputable def Gs (t u:TT):TT:=λe H Q=>t e H λc d=>if c=Lw then u e d Q else Q Lv d
noncomputable def tOr (t u:TT):TT:=λe H Q=>t e H λc d=>if c=Lw then Q Lw d else u e d Q
def Hb (t:TT):TT:=λe H Q=>t e H λc d=>Q (!c) d
theorem AU (g:PT X a tA):PW X (.BoolOp .And [a] pos) tA:=by
 intro wh f s i H Q d h;refine isTrue_and<|thn (g f s i H Q d h) λc j e=>?_;cases c with
 |true=>exact isTrue_and_nil e
 |false=>exact e
theorem DW (g:PT X a tA):PW X (.BoolOp .Or [a] pos) tA:=by
 intro wh f s i H Q d h;refine isTrue_or<|thn (g f s i H Q d h) λc j e=>?_;cases c with
 |false=>exact isTrue_or_nil e
 |true=>exact e
theorem DO (k:PT X a tA)(l:PW X (.BoolOp .And (b::rest) pos) tB'):PW X (.BoolOp .And (a::b::rest) pos) (Gs tA tB'):=by
 intro wh e s j H Q d h;refine isTrue_and<|thn (k e s j H _ d h) λc m ⟨f,g,i⟩=>?_;cases c with
 |true=>exact l wh e m j f Q g i
 |false=>exact⟨f,g,i⟩
theorem IU (k:PT X a tA)(l:PW X (.BoolOp .Or (b::rest) pos) tB'):PW X (.BoolOp .Or (a::b::rest) pos) (tOr tA tB'):=by
 intro wh e s j H Q d h;refine isTrue_or<|thn (k e s j H _ d h) λc m ⟨f,g,i⟩=>?_;cases c with
 |true=>exact⟨f,g,i⟩
 |false=>exact l wh e m j f Q g i
theorem Fo (g:PT X a tA):PT X (.UnaryOp .Not a pos) (Hb tA):=by intro e s i H Q d h;exact isTrue_not<|g e s i H (λc f=>Q (!c) f) d h
theorem Cw {op}{t:TE}(h:PE X a t):PE X (.BoolOp op [a] pos) t:=λd s f H Q c e=>BoolOp_one<|h d s f H Q c e
noncomputable def tIf (t:TT)(ta tb:TE):TE:=λd H Q=>t d H λc e=>if c=Lw then ta d e Q else tb d e Q
theorem tD {c:Rv}(o:PT X c tA)(m:PE X a ta)(n:PE X b tb):PE X (.IfExp c a b pos) (tIf tA ta tb):=by
 intro f s g H Q e h;refine wpAny_IfExp<|thn (o f s g H _ e h) λd l ⟨i,j,k⟩=>?_;cases d with
 |true=>exact m f l g i Q j k
 |false=>exact n f l g i Q j k
end
def SqL (K:Ly)(H:Hp)(a:Rj)(c:U V):Prop:=
 Rd H a (.lst c) \/
  ∃(o:Obj) (b:RD B) (n:O),K.lookup a=Y o/\o.cls=.type "list"/\o.dict=J/\o.data=.seq b n/\b.size<=sizeLine/\Vals c b.toList
def SqT (K:Ly)(H:Hp)(a:Rj)(c:U V):Prop:=
 Rd H a (.tup c) \/
  ∃(o:Obj) (b:RD B) (n:O),K.lookup a=Y o/\o.cls=.type "tuple"/\o.data=.seq b n/\b.size<=sizeLine/\Vals c b.toList
def Ky:B->L V
|.none=>Y .non
|.bool b=>Y<|.bl b
|.int i _=>Y<|.int i
|.str x _=>Y<|.str x
|.bytes b _=>Y<|.byt b
|.float b _=>Y<|.flt b
|.ref a=>Y<|.ref a
|.type n=>Y<|.ty n
|_=>J
theorem RelV.abs {x:V}{u:B}(r:RelV x u):Ky u=Y x:=by
 cases x with
 |non=>cases r;rfl
 |bl _=>cases r;rfl
 |int _=>obtain⟨t,rfl⟩:=r;rfl
 |str _=>obtain⟨t,rfl⟩:=r;rfl
 |byt _=>obtain⟨t,rfl⟩:=r;rfl
 |flt _=>obtain⟨t,rfl⟩:=r;rfl
 |ref _=>cases r;rfl
 |ty _=>cases r;rfl
theorem RelV.inj {x y:V}{u:B}(r:RelV x u)(q:RelV y u):x=y:=Mf<|r.abs.symm.trans q.abs
theorem Vals.inj:∀{b c:U V} {a:U B},Vals b a->Vals c a->b=c
|_,_,_,.nil,.nil=>rfl
|_,_,_,.cons r t,.cons d e=>by rw[r.inj d,Vals.inj t e]
section
variable {X:Cx}{pins:U (Rj×Obj)}{σ:St}{H:Hp}{s:Lx}{a:Rj}{xs ys:U V}
theorem SqL.of {K:Ly}(h:H a=Y (.lst xs)):SqL K H a xs:=.inl<|.inl h
theorem SqT.of {K:Ly}(h:H a=Y (.tup xs)):SqT K H a xs:=.inl<|.inl h
theorem Inv.list (b:Inv X pins σ H s)(h:SqL X.K H a xs):∃c:U B,Vals xs c/\PlainL s.heap a c.toArray/\xs.length<=sizeLine:=by
 rcases h with h|⟨o,c,n,hk,hc,hd,hs,hz,r⟩
 .obtain ⟨z,c,n,r,e⟩:=h.ok b.hok;exact⟨c,r,⟨_,n,e,rfl,rfl,rfl⟩,z⟩
 .refine ⟨c.toList,r,⟨o,n,b.kIn a o hk,hc,hd,by simpa using hs⟩,?_⟩;have e:=r.length;simp only[Mn] at e;lia
theorem Inv.tuple (b:Inv X pins σ H s)(h:SqT X.K H a xs):∃c:U B,Vals xs c/\RV s.heap a c.toArray/\xs.length<=sizeLine:=by
 rcases h with h|⟨o,c,n,hk,hc,hs,hz,r⟩
 .obtain ⟨z,c,r,p⟩:=h.ok b.hok;exact⟨c,r,p,z⟩
 .refine ⟨c.toList,r,⟨o,b.kIn a o hk,hc,n,by simpa using hs⟩,?_⟩;have e:=r.length;simp only[Mn] at e;lia
theorem Inv.list_inj (b:Inv X pins σ H s)(h:SqL X.K H a xs)(k:SqL X.K H a ys):xs=ys:=by
 obtain⟨f,r,⟨o,n,e,_,_,d⟩,_⟩:=b.list h;obtain⟨c,l,⟨p,m,i,_,_,g⟩,_⟩:=b.list k;rw[e] at i;cases i;rw[d] at g;injection g with j _
 have:f=c:=by simpa using Rw Ql j
 subst this;exact r.inj l
theorem Inv.tuple_inj (b:Inv X pins σ H s)(h:SqT X.K H a xs)(k:SqT X.K H a ys):xs=ys:=by
 obtain⟨f,r,⟨o,e,_,n,d⟩,_⟩:=b.tuple h;obtain⟨c,l,⟨p,i,_,m,g⟩,_⟩:=b.tuple k;rw[e] at i;cases i;rw[d] at g;injection g with j _
 have:f=c:=by simpa using Rw Ql j
 subst this;exact r.inj l
end
abbrev Cx.wish (X:Cx)(E:B->Lx->Prop):Cx:={X with xe:=E}
abbrev Cx.nox (X:Cx):Cx:=X.wish λ_ _=>RB
theorem Cx.Ok.wish {X:Cx}(ok:X.Ok)(E:B->Lx->Prop):(X.wish E).Ok:=
 ⟨ok.mod,ok.kind,ok.glob,ok.blt,ok.above,ok.inj,ok.has,ok.cab,ok.hd,ok.frames,ok.stk,ok.exf,ok.bs,ok.bsz,ok.noex,ok.exfs,ok.funs,ok.frf⟩
theorem Cx.Ok.unwish {X:Cx}{E:B->Lx->Prop}(ok:(X.wish E).Ok):X.Ok:=
 ⟨ok.mod,ok.kind,ok.glob,ok.blt,ok.above,ok.inj,ok.has,ok.cab,ok.hd,ok.frames,ok.stk,ok.exf,ok.bs,ok.bsz,ok.noex,ok.exfs,ok.funs,ok.frf⟩
section
variable {X:Cx}{pins:U (Rj×Obj)}{σ:St}{H:Hp}{s:Lx}{E:B->Lx->Prop}
theorem Inv.wish (a:Inv X pins σ H s)(E:B->Lx->Prop):Inv (X.wish E) pins σ H s:=⟨a.ok.wish E,a.os,a.bare,a.base,a.loc,a.cell,a.free,a.freeC,a.pin,a.hok,a.len⟩
theorem Inv.unwish (a:Inv (X.wish E) pins σ H s):Inv X pins σ H s:=⟨a.ok.unwish,a.os,a.bare,a.base,a.loc,a.cell,a.free,a.freeC,a.pin,a.hok,a.len⟩
theorem SP.unwish {D:cO}{f:Flow}{d:Lx}(h:SP (X.wish E) pins D f d):SP X pins D f d:=by
 cases f with
 |next=>obtain⟨b,c,a,q⟩:=h;exact⟨b,c,a.unwish,q⟩
 |brk=>obtain⟨b,c,a,q⟩:=h;exact⟨b,c,a.unwish,q⟩
 |cont=>obtain⟨b,c,a,q⟩:=h;exact⟨b,c,a.unwish,q⟩
 |ret u=>obtain⟨v,b,c,a,r,q⟩:=h;exact⟨v,b,c,a.unwish,r,q⟩
theorem PSs.nox {b:U Ry}{t:TS}(h:PSs X.nox b t):PSs X b t:=λpins s σ H D a c=>
 Mh (h pins s σ H D (a.wish _) c) (λ_ _ q=>q.unwish) λ_ _ z=>MD z
end
section
variable {X:Cx}{st:Ry}{rest:U Ry}{t u:TS}{e:Rv}{te:TE}{pos:Pos}
def B8:TS:=λD a H=>D.nx a H
def IH (t u:TS):TS:=λD a H=>t {D with nx:=u D} a H
theorem Bh:PSs X [] B8:=λ_ _ b H _ a h=>Oe ⟨b,H,a,h⟩
theorem iG (i:PS X st t)(j:PSs X rest u):PSs X (st::rest) (IH t u):=by
 intro b s l H D a h;refine wpAny_execs_cons<|thn (i b s l H {D with nx:=u D} a h) λf k q=>?_;cases f with
 |next=>obtain⟨c,d,g,q⟩:=q;exact j b k c d D g q
 |ret v=>exact q
 |brk=>exact q
 |cont=>exact q
theorem oA (c:PS X st t):PSs X [st] t:=by
 intro b s d H D a h;refine wpAny_execs_cons<|thn (c b s d H D a h) λf g q=>?_;cases f with
 |next=>exact Oe q
 |ret v=>exact q
 |brk=>exact q
 |cont=>exact q
theorem Inv.quiet {b:U<|Rj×Obj}{c:St}{H:Hp}{s:Lx}(a:Inv X b c H s):interactive X.env=false:=by simp[interactive,a.ok.kind]
def BR (te:TE):TS:=λD a H=>te a H λ_ b=>D.nx a b
theorem kb (g:PE X e te)(i:MI e J pos.line X.env=pure false:=by rfl):PS X (.Expr e pos) (BR te):=by intro b s c H D a h;exact wpAny_Expr_any (thn (g b s c H _ a h) λv k ⟨x,d,f,r1,j⟩=>⟨c,d,f,j⟩) a.quiet i
def F4 (te:TE):TS:=λD a H=>te a H D.rt
theorem FK (g:PE X e te):PS X (.Return (Y e) pos) (F4 te):=by intro b s c H D a h;exact wpAny_Return_some<|thn (g b s c H _ a h) λv j ⟨x,d,f,r1,i⟩=>⟨x,c,d,f,r1,i⟩
noncomputable def HF (c:TT)(t u:TS):TS:=λD a H=>c a H λb d=>if b=Lw then t D a d else u D a d
theorem HV {c:Rv}{a b:U Ry}{n:TT}(r:PT X c n)(o:PSs X a t)(p:PSs X b u):PS X (.If c a b pos) (HF n t u):=by
 intro g s i H D f h;refine wpAny_If<|thn (r g s i H _ f h) λd m ⟨j,k,l⟩=>?_;cases d with
 |true=>exact o g m i j D k l
 |false=>exact p g m i j D k l
end
abbrev TG:=V->St->Hp->(St->Hp->Prop)->Prop
abbrev TGs:=U V->St->Hp->(St->Hp->Prop)->Prop
def PG (X:Cx)(a:Rv)(t:TG):Prop:=
 ∀(b:U<|Rj×Obj) (s:Lx) (e:St) (H:Hp) (v:V) (u:B) (Q:St->Hp->Prop),Inv X b e H s->RelV v u->t v e H Q ->
  Rp (LC X.prog X.w) X.A (RU a X.env u) (λ_ f=>∃c d,Inv X b c d f/\Q c d) X.xe s
def PGs (X:Cx)(h:U Rv)(t:TGs):Prop:=
 ∀(a:U<|Rj×Obj) (s:Lx) (f:St) (H:Hp) (e:U V) (d:U B) (Q:St->Hp->Prop),Inv X a f H s->Vals e d->t e f H Q ->
  Rp (LC X.prog X.w) X.A (assignInOrder ((Oo h X.env).map (·.2)) d) (λ_ g=>∃b c,Inv X a b c g/\Q b c) X.xe s
section
variable {X:Cx}{pos:Pos}
def dZ (i:O):TG:=λv a H Q=>Q (a.set i<|Y v) H
theorem gI {i:O}{x:Str}(hN:X.N.Nodup)(e:X.N[i]?=Y x)(hx:Loc X.env.scope x)(d:X.fn x=Lw\/X.env.scope.names.lookup x=Y .local:=by first|exact .inl rfl|exact .inr rfl|assumption):PG X (.Name x pos) (dZ i):=by intro b s g H v u Q a r h;exact wpAny_assign_Name<|my a hN e hx r (λf c=>⟨_,H,c,h⟩) d
def D5:TGs:=λa b H Q=>a=[]/\Q b H
noncomputable def lS (t:TG)(u:TGs):TGs:=λc d H Q=>∃v r,c=v::r/\t v d H λa b=>u r a b Q
theorem yP:PGs X [] D5:=by intro b s c H f d Q a r h;obtain⟨e,h⟩:=h;subst e;cases r;exact assignInOrder_nil ⟨c,H,a,h⟩
theorem kM {e:Rv}{c:U Rv}{t:TG}{u:TGs}(i:PG X e t)(j:PGs X c u)
  (k:(Oo (e::c) X.env).map (·.2)=RU e X.env::(Oo c X.env).map (·.2):=by rfl):PGs X (e::c) (lS t u):=by
 intro b s o H x p Q a r h;obtain⟨v,w,e1,h⟩:=h;subst e1;cases r with
 |cons r m=>rw[k];refine assignInOrder_cons<|thn (i b s o H _ _ _ a r h) λ_ n ⟨d,f,g,l⟩=>?_;exact j b n d f _ _ Q g m l
def Eu (K:Ly)(n:O)(t:TGs):TG:=λv c H Q=>∃a b,v=.ref a/\SqT K H a b/\b.length=n/\t b c H Q
theorem DP {f:U Rv}{k:O}{t:TGs}{n:O}(w:X.calm=Lw)(h:PGs X f t)
  (y:(Oo f X.env).length=n:=by rfl) (g:(Oo f X.env).findIdx? (·.1)=none:=by rfl):PG X (.Tuple f k pos) (Eu X.K n t):=by
 intro d s l H v u Q c r i;obtain⟨a,F,e1,z,x,i⟩:=i;subst e1;cases r;obtain⟨D,j,A,G⟩:=c.tuple z;refine assign_Tuple_tuple (c.ok.hd w) A (by simp[y,<- x,j.length]) g λp hx=>?_;have m:Inv X d l H {s with heap:=p}:=c.kept (t':=s.toks) λb o e=>hx b o (L5<|Heap.lt_size e) e;exact h d _ l H F _ Q m (by simpa using j) i
def AL (c:TE)(g:TG):TS:=λD a H=>c a H λx b=>g x a b D.nx
theorem EE {i:O}{x:Str}{e:Rv}{d:TE}{b:Pos}(hN:X.N.Nodup)(m:X.N[i]?=Y x)(hx:Loc X.env.scope x)(k:PE X e d)(n:MI e (Y<|.Name x b) pos.line X.env=pure false:=by rfl)(l:X.fn x=Lw\/X.env.scope.names.lookup x=Y .local:=by first|exact .inl rfl|exact .inr rfl|assumption):
  PS X (.Assign [.Name x b] e pos) (AL d<|dZ i):=by
 intro c s p H D a h;refine wpAny_Assign_Name (thn (k c s p H _ a h) λv r ⟨y,f,g,r1,o⟩=>?_) n;exact my g hN m hx r1 (λs2 j=>⟨_,f,j,o⟩) l
end
section
variable {X:Cx}{pos:Pos}
noncomputable def x5 (c:TT)(h:TS):TS:=λD a H=>∃W:O->St->Hp->Prop,(∃m,W m a H)/\∀m a H,W m a H ->
 c a H λb f=>if b=Lw then∃N:St->Hp->Prop,(∀d e,N d e->∃g,g<m/\W g d e)/\h {D with nx:=N,ct:=N,bk:=D.nx} a f else D.nx a f
theorem rR {c:Rv}{i:U Ry}{M:TT}{G:TS}(hp:Oi (LC X.prog X.w) X.A X.env X.xe)(Z:PT X c M)(Q:PSs X i G):PS X (.While c i [] pos) (x5 M G):=by
 intro d s σ H D a h;obtain⟨W,⟨m0,w0⟩,turn⟩:=h;refine wpAny_While<|codeAny_whileLoop (λn s'=>∃k x,Inv X d k x s'/\W n k x) ?_ m0 ⟨σ,H,a,w0⟩;rintro n s1 ⟨g,y,P,w1⟩;refine ND hp<|thn (Z d s1 g y _ P<|turn n g y w1) λb s2 ⟨z,F,l⟩=>?_;cases b with
 | true =>
  obtain⟨N,hN,l⟩:=l;rw[Rk rfl];refine ND hp<|thn (Q d s2 g z _ F l) λf s3 m=>?_;cases f with
  |next=>obtain⟨e,j,o,t⟩:=m;obtain⟨r,p,u⟩:=hN e j t;exact⟨r,p,e,j,o,u⟩
  |cont=>obtain⟨e,j,o,t⟩:=m;obtain⟨r,p,u⟩:=hN e j t;exact⟨r,p,e,j,o,u⟩
  |brk=>exact m
  |ret v=>exact m
 |false=>rw[Rn LX];exact Oe ⟨g,z,F,l⟩
end
structure It where
 go:O->Hp->Prop
 yld:O->Hp->V->Hp->Prop
 stop:O->Hp->Prop
def iX (X:Cx)(a:U<|Rj×Obj)(H:Hp)(b:Rj):Prop:=
 H b=J/\b≠X.env.locals/\b ∉ X.fs/\(b∈X.ex\/X.s₀.heap.objs.size<=b)/\(∀x c,X.env.cells.lookup x=Y c->c≠b)/\∀p∈X.pn++a,p.1≠b
theorem Inv.fpOk {X:Cx}{d:U<|Rj×Obj}{i:St}{H g:Hp}{s:Lx}{b:Rj}(a:Inv X d i H s)(f:s.heap.objs.size<=b)(h:g b=J):iX X d g b:=by
 refine⟨h,Oq<|Mc a.lt f,a.nofs f,.inr<|LL a.sz f,λx c e z=>?_,λp hp z=>?_⟩
 .obtain ⟨v,q⟩:=a.cell x c e;exact Rm (Mc q.lt<|by rw[z];exact f)<|NX _
 .exact Rm (Mc (Heap.lt_size (a.pin p hp).1)<|by rw[z];exact f) (NX _)
structure qA (P:Ro)(w:LA)(K:Ly)(tg:Rv)(J:It)(fp:U Rj)(it:Rj)(tn:O->Rx->Prop):Prop where
 mem:it∈fp
 obj:∀i h,tn i h->∀b∈fp,∃o,h.get? b=Y o/\∀v,o.data≠.cell v
 keep:∀i h h',tn i h->(∀b∈fp,∀o,h.get? b=Y o->h'.get? b=Y o)->tn i h'
 item:∀(X:Cx),X.prog=P->X.w=w->X.K=K->X.calm=Lw->∀(i:O) (pins:U (Rj×Obj)) (s:Lx) (σ:St) (H:Hp) (E:B->Lx->Prop),Inv X pins σ H s->(∀b∈fp,iX X pins H b)->tn i s.heap->J.go i H ->
  Rp (LC P w) X.A (pyNext (.ref it)) (λr s1=>∃u,r=Y u /\
   Rp (LC P w) X.A (N4 tg (.ref it) u) (λ_ s2=>∃x H',Inv X pins σ H' s2/\RelV x u/\J.yld i H x H'/\tn (i+1) s2.heap/\∀b∈fp,H' b=Lu) E s1) E s
 done:∀(X:Cx),X.prog=P->X.w=w->X.K=K->X.calm=Lw->∀(i:O) (pins:U (Rj×Obj)) (s:Lx) (σ:St) (H:Hp) (E:B->Lx->Prop),Inv X pins σ H s->(∀b∈fp,iX X pins H b)->tn i s.heap->J.stop i H ->
  Rp (LC P w) X.A (pyNext (.ref it)) (λr s1=>r=Lu/\Inv X pins σ H s1) E s
 self:∀(A:LS) (i:O) (s:Lx) (Q:B->Lx->Prop) (E:B->Lx->Prop),tn i s.heap->Q (.ref it) s->Rp (LC P w) A (pyIter (.ref it)) Q E s
abbrev TI:=St->Hp->(It->Hp->Prop)->Prop
def PIE (X:Cx)(c:U<|Rj×Obj)(i:St)(h:Rv)(R:It->Hp->Prop)(e:B)(s2:Lx):Prop:=
 ∃(g:Rj) (f:U Rj) (tn:O->Rx->Prop) (a:It) (d:Hp),e=.ref g/\Inv X c i d s2/\qA X.prog X.w X.K h a f g tn/\tn 0 s2.heap/\(∀b∈f,iX X c d b)/\R a d
def PI (X:Cx)(e b:Rv)(f:TI):Prop:=
 ∀(a:U<|Rj×Obj) (s:Lx) (c:St) (H:Hp) (R:It->Hp->Prop),Inv X a c H s->f c H R ->
  Rp (LC X.prog X.w) X.A (Rz b X.env) (λv d=>Rp (LC X.prog X.w) X.A (pyIter v) (PIE X a c e R) X.xe d) X.xe s
theorem kO {M:Model}{A:LS}{E:B->Lx->Prop}{s:Lx}{c:Rv}{b:Rj}{u:B}{o:Obj}{n:Rr}{d:RD B}{Q:Unit->Lx->Prop}(ho:s.heap.get? b=Y o)(e:o.cls=.type n)(hd:o.data=.fields d)
  (f:["enumerate","zip","dict_itemiterator","dict_reverseitemiterator","odict_iterator","itertools.zip_longest","itertools.pairwise"].contains n=Lv) (a:Q () s):Rp M A (N4 c (.ref b) u) Q E s:=by
 unfold N4
 cases c<;>first
  |exact LN a
  | (cases u<;>first
    |exact LN a
    | (refine LD (wpAny_load ho ?_)
       rw[e,hd];show Rp M A (if(["enumerate","zip","dict_itemiterator","dict_reverseitemiterator","odict_iterator","itertools.zip_longest","itertools.pairwise"].contains n&&d[0]?==Y (rawInt _))=Lw then _ else _) Q E s;rw[Rn<|by intro h;rw[f,Mz] at h;cases h];exact LN a))
def Itl (K:Ly)(a:Rj):It:=
 ⟨λi H=>∃b x,SqL K H a b/\b[i]?=Y x,λi H x c=>c=H/\∀b,SqL K H a b->b[i]?=Y x,λi H=>∃b,SqL K H a b/\b.length<=i⟩
def Itt (K:Ly)(a:Rj):It:=
 ⟨λi H=>∃b x,SqT K H a b/\b[i]?=Y x,λi H x c=>c=H/\∀b,SqT K H a b->b[i]?=Y x,λi H=>∃b,SqT K H a b/\b.length<=i⟩
def Itr (lo:I)(n:O):It:=⟨λi _=>i<n,λi H x a=>a=H/\x=.int (lo+i),λi _=>n<=i⟩
theorem ro {P:Ro}{w:LA}{K:Ly}{tg:Rv}(a m:Rj):qA P w K tg (Itl K a) [m] m (λi h=>h.IsListIter m a i) where
 mem:=by simp
 obj:=λi h g b l=>by
  have e:b=m:=by simpa using l
  subst e;obtain⟨o,e,c,d⟩:=g;exact⟨o,e,λv z=>by rw[d] at z;cases z⟩
 keep:=λi h r g k=>g.at λo e=>k m (by simp) o e
 item:=by intro X Q hw N hc i j s σ H E f t g Z;subst Q hw N;obtain⟨xs,x,y,hx⟩:=Z;obtain⟨its,rv,p,hz⟩:=f.list y;obtain⟨u,hu,ru⟩:=rv.get hx;obtain⟨A,D,f2,F,G,M⟩:=t m (by simp);refine wpAny_pyNext_list_item g p.isList (x:=u) (by simpa using hu) λr n sb=>?_;have I1:Inv X j σ H {s with heap:=r}:=f.turned (t':=s.toks) (λb o l e=>(sb.2 b l).trans e) A D F G M;obtain⟨o,e,c,d⟩:=id n;exact⟨u,rfl,kO (s:={s with heap:=r}) e c d (by decide) ⟨x,H,I1,ru,⟨rfl,λys hy=>by rw[f.list_inj hy y];exact hx⟩,n,λb l=>(t b l).1⟩⟩
 done:=by intro X Q hw N hc i j s σ H E f t g Z;subst Q hw N;obtain⟨xs,y,hx⟩:=Z;obtain⟨its,rv,p,hz⟩:=f.list y;obtain⟨A,D,f2,F,G,M⟩:=t m (by simp);have hl:=rv.length;exact wpAny_pyNext_list_end (f.ok.hd hc) g p.isList (by simp;lia) λr eb=>⟨rfl,f.turned (t':=s.toks) (λb o l e=>eb b o l e) A D F G M⟩
 self:=λ_ _ _ _ _ g h=>wpAny_pyIter_listiter g h
theorem nK {P:Ro}{w:LA}{K:Ly}{tg:Rv}(a m:Rj):qA P w K tg (Itt K a) [m] m (λi h=>h.IsTupleIter m a i) where
 mem:=by simp
 obj:=λi h g b l=>by
  have e:b=m:=by simpa using l
  subst e;obtain⟨o,e,c,d⟩:=g;exact⟨o,e,λv z=>by rw[d] at z;cases z⟩
 keep:=λi h t g k=>g.at λo e=>k m (by simp) o e
 item:=by intro X Z hw Q hc i j s σ H E f y g hg;subst Z hw Q;obtain⟨xs,x,A,hx⟩:=hg;obtain⟨n,rv,p,hz⟩:=f.tuple A;obtain⟨u,hu,ru⟩:=rv.get hx;obtain⟨D,F,f2,G,M,N⟩:=y m (by simp);refine RI g (show s.heap.IsTuple a n.toArray from p) (x:=u) (by simpa using hu) λt r sb=>?_;have I1:Inv X j σ H {s with heap:=t}:=f.turned (t':=s.toks) (λb o l e=>(sb.2 b l).trans e) D F G M N;obtain⟨o,e,c,d⟩:=id r;exact⟨u,rfl,kO (s:={s with heap:=t}) e c d (by decide) ⟨x,H,I1,ru,⟨rfl,λys hy=>by rw[f.tuple_inj hy A];exact hx⟩,r,λb l=>(y b l).1⟩⟩
 done:=by intro X Z hw Q hc i j s σ H E f y g hg;subst Z hw Q;obtain⟨xs,A,hx⟩:=hg;obtain⟨n,rv,p,hz⟩:=f.tuple A;obtain⟨D,F,f2,G,M,N⟩:=y m (by simp);have hl:=rv.length;exact RK (f.ok.hd hc) g (show s.heap.IsTuple a n.toArray from p) (by simp;lia) λt eb=>⟨rfl,f.turned (t':=s.toks) (λb o l e=>eb b o l e) D F G M N⟩
 self:=λ_ _ _ _ _ g h=>wpAny_pyIter_tupleiter g h
theorem mU {P:Ro}{w:LA}{K:Ly}{tg:Rv}(d:Rj)(lo:I)(n:O):qA P w K tg (Itr lo n) [d] d (λi h=>IsRangeIter h d (lo+(i:O) * 1) ((n:I)-(i:O)) 1) where
 mem:=by simp
 obj:=λi h c b g=>by
  have e:b=d:=by simpa using g
  subst e
  exact⟨_,c,λv z=>by
   have z':Data.fields _=Data.cell v:=z;cases z'⟩
 keep:=λi h l c k=>k d (by simp) _ c
 item:=by intro X D M A F i f s Q H E a m c G;subst D M A;obtain⟨p,r,f2,u,x,y⟩:=m d (by simp);have W:=Walks.range (prog:=X.prog) (w:=X.w) (a.ok.hd F) d lo 1 n;refine W.item i s _ _ G c λv l N hv j kk=>?_;obtain⟨t,rfl⟩:=hv;have Z:Inv X f Q H {s with heap:=l,toks:=N}:=a.turned (λb o g e=>kk b o (by simpa using g) e) p r u x y;refine⟨_,rfl,kO (s:={s with heap:=l,toks:=N}) (n:="range_iterator") j rfl rfl (by decide) ⟨.int<|lo+i,H,Z,⟨t,?_⟩,⟨rfl,rfl⟩,j,λb g=>(m b g).1⟩⟩;rw[Int.mul_one]
 done:=by intro X D M A F i f s Q H E a m c G;subst D M A;obtain⟨p,r,f2,u,x,y⟩:=m d (by simp);exact wpAny_pyNext_range_end (a.ok.hd F) c (by have:n<=i:=G;lia) λl eb=>⟨rfl,a.turned (t':=s.toks) (λb o g e=>eb b o g e) p r u x y⟩
 self:=λ_ _ _ _ _ c h=>wpAny_pyIter_rangeiter c h
section
variable {X:Cx}{tg:Rv}
def BC (K:Ly)(c:TE):TI:=λe H R=>c e H λx b=>∃a,x=.ref a/\(∃d,SqL K b a d)/\R (Itl K a) b
def DG (K:Ly)(c:TE):TI:=λe H R=>c e H λx b=>∃a,x=.ref a/\(∃d,SqT K b a d)/\R (Itt K a) b
theorem yw {l:Rv}{i:TE}(m:PE X l i):PI X tg l (BC X.K i):=by
 intro d s u H R c h;refine thn (m d s u H _ c h) λv g ⟨x,j,f,r1,t⟩=>?_;obtain⟨a,e,⟨z,n⟩,q⟩:=t;subst e;cases r1;obtain⟨r,y,p,w⟩:=f.list n;refine wpAny_pyIter_list p.isList ?_;refine⟨g.heap.objs.size,[g.heap.objs.size],_,_,j,rfl,f.kept (t':=g.toks) λb o e=>Heap.get?_push_of_some _ e,ro a _,⟨_,Heap.get?_push_size _ rfl,rfl,rfl⟩,λb k=>?_,q⟩;have e:b=g.heap.objs.size:=by simpa using k
 subst e;exact f.fpOk (LM _)<|f.hok.fresh<|LM _
theorem v7 {l:Rv}{j:TE}(n:PE X l j):PI X tg l (DG X.K j):=by
 intro d s u H R c h;refine thn (n d s u H _ c h) λv f ⟨x,k,g,r1,t⟩=>?_;obtain⟨a,e,⟨z,r⟩,q⟩:=t;subst e;cases r1;obtain⟨i,y,p,w⟩:=g.tuple r;refine Og (show f.heap.IsTuple a i.toArray from p) ?_;refine⟨f.heap.objs.size,[f.heap.objs.size],_,_,k,rfl,g.kept (t':=f.toks) λb o e=>Heap.get?_push_of_some _ e,nK a _,⟨_,Heap.get?_push_size _ rfl,rfl,rfl⟩,λb m=>?_,q⟩;have e:b=f.heap.objs.size:=by simpa using m
 subst e;exact g.fpOk (LM _)<|g.hok.fresh<|LM _
theorem lb {d:U<|Rj×Obj}{h:St}{H:Hp}{s:Lx}{R:It->Hp->Prop}{E:B->Lx->Prop}{lo c:I}{t u v:Tok}{g:O}(a:Inv X d h H s)(i:-(2 ^ 62)<=lo)(j:lo<2 ^ 62)(k:-(2 ^ 62)<=c)(l:c<2 ^ 62)
  (q:R (Itr lo (c-lo).toNat) H):Rp (LC X.prog X.w) X.A (pyIter<|.ref s.heap.objs.size) (PIE X d h tg R) E {s with heap:=s.heap.push {cls:=.type "range",data:=.fields #[.int lo t,.int c u,.int 1 v]},toks:=g}:=by
 refine wpAny_pyIter_range (IsRange.new ..) (small_one i j k l) ?_;have f:Inv X d h H {s with heap:=s.heap.push {cls:=.type "range",data:=.fields #[.int lo t,.int c u,.int 1 v]},toks:=g}:=a.kept λb o e=>Heap.get?_push_of_some _ e
 refine⟨(s.heap.push {cls:=.type "range",data:=.fields #[.int lo t,.int c u,.int 1 v]}).objs.size,[(s.heap.push {cls:=.type "range",data:=.fields #[.int lo t,.int c u,.int 1 v]}).objs.size],_,_,H,rfl,
  f.kept (t':=g) λb o e=>Heap.get?_push_of_some _ e,mU _ lo (c-lo).toNat,?_,λb m=>?_,q⟩
 .have e1:lo+((0:O):I) * 1=lo:=by simp
  have e2:(((c-lo).toNat:O):I)-((0:O):I)=Builtin.Range.rangeSize lo c 1:=by rw[rangeSize_one];split<;>lia
  show IsRangeIter _ _ (lo+((0:O):I) * 1) ((((c-lo).toNat:O):I)-((0:O):I)) 1;rw[e1,e2];exact Heap.get?_push_size _ rfl
 .have e:b=(s.heap.push { cls:=.type "range",data:=.fields #[.int lo t,.int c u,.int 1 v] }).objs.size:=by simpa using m
  subst e;exact f.fpOk (LM _)<|f.hok.fresh<|LM _
def BJ (b:TA):TI:=λd H R=>b d H λc a=>∃j:I,c=[.int j]/\-(2 ^ 62)<=j/\j<2 ^ 62/\R (Itr 0 j.toNat) a
def B5 (b:TA):TI:=λd H R=>b d H λc a=>∃i j:I,c=[.int i,.int j]/\(-(2 ^ 62)<=i/\i<2 ^ 62/\-(2 ^ 62)<=j/\j<2 ^ 62)/\R (Itr i (j-i).toNat) a
theorem pV {a:Rv}{g:TA}{p d:Pos}(l:Gl X "range")(m:X.mg "range"=J)(k:PA X [a] g)(n:Lz [a] X.env=[(Lv,Rz a X.env)]:=by rfl):PI X tg (.Call (.Name "range" p) [a] [] d) (BJ g):=by
 intro c s v H R b h;refine Call_<|eB b l m boot_range<|Oz (thn (k d c s v H _ b h) λy x ⟨z,w,i,r1,f⟩=>?_) n rfl;obtain⟨j,e,f,o,q⟩:=f;subst e;cases r1 with
 |cons r u=>cases u;obtain⟨t,rfl⟩:=r;exact call_range_1<|lb i (by lia) (by lia) f o<|by simpa using q
theorem qD {a b:Rv}{m:TA}{p g:Pos}(u:Gl X "range")(v:X.mg "range"=J)(o:PA X [a,b] m)(w:Lz [a,b] X.env=[(Lv,Rz a X.env),(Lv,Rz b X.env)]:=by rfl)(d:Lz [b] X.env=[(Lv,Rz b X.env)]:=by rfl):
  PI X tg (.Call (.Name "range" p) [a,b] [] g) (B5 m):=by
 intro f s D H R c h;refine Call_ (eB c u v boot_range<|Oz (thn (o g f s D H _ c h) λN G ⟨P,F,n,r1,k⟩=>?_) (by rw[w,d])<|by rw[d];rfl);obtain⟨i,j,e,⟨k,x,y,z⟩,q⟩:=k;subst e;cases r1 with
 | cons r l =>
  cases l with
  |cons A l=>cases l;obtain⟨t,rfl⟩:=r;obtain⟨M,rfl⟩:=A;exact call_range_2<|lb n k x y z q
def GQ (l:TI)(g:TG)(k:TS):TS:=λD b H=>l b H λa h=>∃W:O->O->St->Hp->Prop,(∃m,W 0 m b h)/\∀i m b H,W i m b H ->
 (a.stop i H/\D.nx b H)\/(a.go i H/\∃N:St->Hp->Prop,(∀d c,N d c->∃f,f<m/\W (i+1) f d c)/\∀x c,a.yld i H x c->g x b c λe j=>k {D with nx:=N,ct:=N,bk:=D.nx} e j)
noncomputable def gU (a:U Rj)(h:Rx):U (Rj×Obj):=a.filterMap λb=>(h.get? b).map λo=>(b,o)
theorem b5 {a:U Rj}{h:Rx}{b:Rj}{o:Obj}(c:b∈a)(e:h.get? b=Y o):(b,o)∈gU a h:=QZ.mpr ⟨b,c,by rw[e];rfl⟩
theorem qN {a:U Rj}{h:Rx}{p:Rj×Obj}(hp:p∈gU a h):p.1∈a/\h.get? p.1=Y p.2:=by
 obtain⟨b,d,e⟩:=QZ.mp hp;cases q:h.get? b with
 |none=>rw[q] at e;cases e
 |some o=>rw[q] at e;have c:(b,o)=p:=Mf e;subst c;exact⟨d,q⟩
theorem Inv.pinned {c:U<|Rj×Obj}{i:St}{H:Hp}{s:Lx}{f:U Rj}(a:Inv X c i H s)(m:∀b∈f,iX X c H b)(ho:∀b∈f,∃o,s.heap.get? b=Y o/\∀v,o.data≠.cell v):Inv X (c++gU f s.heap) i H s:=
 a.pins_of λp hp=>(Ms.mp hp).elim (λz=>a.pin p<|L9 _ z) λz=>by obtain⟨h,e⟩:=qN z;obtain⟨j,k,l,_⟩:=m p.1 h;obtain⟨o,g,d⟩:=ho p.1 h;rw[e] at g;cases g;exact⟨e,j,k,l,d⟩
theorem Inv.unpinned {b d:U<|Rj×Obj}{c:St}{H:Hp}{s:Lx}(a:Inv X (b++d) c H s):Inv X b c H s:=a.pins_of λp hp=>a.pin p<|L9 _<|Nb _ hp
theorem tM {y:Rv}{P:U Ry}{wi:TI}{g:TG}{tb:TS}{pos:Pos}(hp:Oi (LC X.prog X.w) X.A X.env X.xe)(hc:X.calm=Lw)(hi:PI X tg y wi)(hg:PG X tg g)(t:PSs X P tb)
  (hs:∀x,MW y X.env x=pure x:=by intro _;rfl):PS X (.For tg y P [] pos) (GQ wi g tb):=by
 intro j s σ H D a h;refine wpAny_For (thn (hi j s σ H _ a h) λv s1 h1=>thn h1 λitv s2 h2=>?_) hs;obtain⟨it,fp,tn,c,H2,e,I2,T,st2,f2,W,⟨m0,w0⟩,turn⟩:=h2;subst e
 -- what stays Lw of the iterator's objects through the loop
 have z:∀{M:Hp},(∀b∈fp,M b=J)->∀b∈fp,iX X j M b:=λhn b t=>⟨hn b t,(f2 b t).2⟩;refine codeAny_forLoop_any (λn s'=>∃i F M,Inv X j F M s'/\tn i s'.heap/\(∀b∈fp,M b=J)/\W i n F M) ?_ m0 ⟨0,σ,H2,I2,st2,λb t=>(f2 b t).1,w0⟩;rintro n s3 ⟨i,G,H3,I3,st3,fr3,w3⟩;rcases turn i n G H3 w3 with⟨stop,qn⟩|⟨go,N,hN,step⟩
 .refine ND hp (thn (T.done X rfl rfl rfl hc i j s3 G H3 X.xe I3 (z fr3) st3 stop) fun r s4 ⟨hr,I4⟩=>?_);subst hr;exact Oe ⟨G,H3,I4,qn⟩
 .refine ND hp (thn (T.item X rfl rfl rfl hc i j s3 G H3 X.xe I3 (z fr3) st3 go) fun r s4 ⟨u,hr,h4⟩=>?_);subst hr;refine ND hp (thn h4 λ_ s5 ⟨x,H5,I5,r5,y5,Z,fr5⟩=>?_);have I5':=I5.pinned (z fr5) (T.obj _ _ Z);refine ND hp (thn (hg _ s5 G H5 x u _ I5' r5 (step x H5 y5)) λ_ s6 ⟨σ6,H6,I6,q6⟩=>?_);refine ND hp (thn (t _ s6 σ6 H6 _ I6 q6) λf s7 Q=>?_);have again:∀{k:St} {l:Hp},Inv X (j++gU fp s5.heap) k l s7->N k l->∃m,m<n/\∃i F M,Inv X j F M s7/\tn i s7.heap/\(∀b∈fp,M b=J)/\W i m F M:=λ{k l} p n7=>by obtain⟨m',hm,w7⟩:=hN k l n7;refine⟨m',hm,i+1,k,l,p.unpinned,T.keep _ _ _ Z λb t o e=>(p.pin (b,o) (L9 _ (L9 _ (b5 t e)))).1,λb t=>?_,w7⟩;obtain⟨o,e,d⟩:=T.obj _ _ Z b t;exact(p.pin (b,o) (L9 _ (L9 _ (b5 t e)))).2.1
  cases f with
  |next=>obtain⟨k,l,p,n7⟩:=Q;exact again p n7
  |cont=>obtain⟨k,l,p,n7⟩:=Q;exact again p n7
  |brk=>obtain⟨k,l,p,Q⟩:=Q;exact⟨k,l,p.unpinned,Q⟩
  |ret v=>obtain⟨x7,k,l,p,r7,Q⟩:=Q;exact⟨x7,k,l,p.unpinned,r7,Q⟩
end
abbrev R2:=V->V->Hp->VK->Prop
def OpR (X:Cx)(f:B->B->Sem B)(r:R2):Prop:=
 ∀(a:U<|Rj×Obj) (s:Lx) (b:St) (H:Hp) (x y:V) (v u:B) (Q:VK),Inv X a b H s->RelV x v->RelV y u->r x y H Q ->
  Rp (LC X.prog X.w) X.A (f v u) (EP X a b Q) X.xe s
def UnR (X:Cx)(f:B->Sem B)(r:V->Hp->VK->Prop):Prop:=
 ∀(a:U<|Rj×Obj) (s:Lx) (b:St) (H:Hp) (x:V) (v:B) (Q:VK),Inv X a b H s->RelV x v->r x H Q ->
  Rp (LC X.prog X.w) X.A (f v) (EP X a b Q) X.xe s
def dN (X:Cx)(f:B)(r:U V->Hp->VK->Prop):Prop:=
 ∀(a:U<|Rj×Obj) (s:Lx) (d:St) (H:Hp) (c:U V) (b:U B) (Q:VK),Inv X a d H s->Vals c b->r c H Q ->
  Rp (LC X.prog X.w) X.A (call f b) (EP X a d Q) X.xe s
def Jx (X:Cx)(r:V->Hp->(Rl->Hp->Prop)->Prop):Prop:=
 ∀(a:U<|Rj×Obj) (s:Lx) (b:St) (H:Hp) (x:V) (v:B) (Q:Rl->Hp->Prop),Inv X a b H s->RelV x v->r x H Q ->
  Rp (LC X.prog X.w) X.A (truthy v) (TP X a b Q) X.xe s
noncomputable def tOp (r:R2)(d e:TE):TE:=λa H Q=>d a H λx b=>e a b λy c=>r x y c Q
def tUn (r:V->Hp->VK->Prop)(b:TE):TE:=λc H Q=>b c H λx a=>r x a Q
def rI (C:I->I->Prop)(g:I->I->V):R2:=λx y H Q=>∃i j,x=.int i/\y=.int j/\C i j/\Q (g i j) H
noncomputable def rI0 (g:I->I->V):R2:=λx y H Q=>∃i j,x=.int i/\y=.int j/\Q (g i j) H
def rU (g:I->V):V->Hp->VK->Prop:=λx H Q=>∃i,x=.int i/\Q (g i) H
section
variable {X:Cx}{a b c:Rv}{ta tb tc:TE}{pos:Pos}
theorem Dc (o:PE X a ta)(p:PE X b tb){e:U<|Rj×Obj}{s:Lx}{i:St}{H:Hp}{R:V->V->Hp->Prop}(d:Inv X e i H s)
  (h:ta i H λx l=>tb i l λy g=>R x y g) {Q:B->Lx->Prop} {f:B->B->Sem B}
  (r:∀v u s2 x y g,Inv X e i g s2->RelV x v->RelV y u->R x y g->Rp (LC X.prog X.w) X.A (f v u) Q X.xe s2):
  Rp (LC X.prog X.w) X.A (Rz a X.env) (λv j=>Rp (LC X.prog X.w) X.A (Rz b X.env) (λu k=>Rp (LC X.prog X.w) X.A (f v u) Q X.xe k) X.xe j) X.xe s:=by
 refine thn (o e s i H _ d h) λv D ⟨x,l,m,r1,t⟩=>?_;refine thn (p e D i l _ m t) λu s2 ⟨y,g,n,r2,z⟩=>?_;exact r v u s2 x y g n r1 r2 z
theorem gc {op:Operator}{r:R2}(ho:OpR X (Mv op) r)(i:PE X a ta)(j:PE X b tb):PE X (.BinOp a op b pos) (tOp r ta tb):=by intro e s m H Q d h;exact wpAny_BinOp<|Dc i j d h λv u s2 x y f g k l q=>ho e s2 m f x y v u Q g k l q
theorem HC {op:UnaryOp}{r:V->Hp->VK->Prop}(ho:UnR X (unaryOp op) r)(j:PE X a ta):PE X (.UnaryOp op a pos) (tUn r ta):=by intro e s f H Q d h;exact UnaryOp_<|thn (j e s f H _ d h) λv l ⟨x,g,i,r1,k⟩=>ho e l f g x v Q i r1 k
theorem opI {f:B->B->Sem B}{C:I->I->Prop}{g:I->I->I}
  (rule:∀(i j:I) (t u:Tok) (s:Lx) (Q:B->Lx->Prop) (E:B->Lx->Prop),C i j->Q (.int (g i j) s.toks) {s with toks:=s.toks+1}->Rp (LC X.prog X.w) X.A (f (.int i t)<|.int j u) Q E s):
  OpR X f (rI C λi j=>.int<|g i j):=by
 intro e s o H x y v u Q d l m h;obtain⟨i,j,rfl,rfl,k,q⟩:=h;obtain⟨t,rfl⟩:=l;obtain⟨n,rfl⟩:=m;exact rule i j t n s _ _ k ⟨.int<|g i j,H,d.tok _,⟨_,rfl⟩,q⟩
theorem FQ {f:B->B->Sem B}{g:I->I->I}
  (rule:∀(i j:I) (t u:Tok) (s:Lx) (Q:B->Lx->Prop) (E:B->Lx->Prop),Q (.int (g i j) s.toks) {s with toks:=s.toks+1}->Rp (LC X.prog X.w) X.A (f (.int i t)<|.int j u) Q E s):
  OpR X f (rI0 λi j=>.int<|g i j):=by
 intro e s n H x y v u Q d k l h;obtain⟨i,j,rfl,rfl,q⟩:=h;obtain⟨t,rfl⟩:=k;obtain⟨m,rfl⟩:=l;exact rule i j t m s _ _ ⟨.int<|g i j,H,d.tok _,⟨_,rfl⟩,q⟩
theorem zW {f:B->B->Sem B}{g:I->I->Rl}
  (rule:∀(i j:I) (t u:Tok) (s:Lx) (Q:B->Lx->Prop) (E:B->Lx->Prop),Q (.bool<|g i j) s->Rp (LC X.prog X.w) X.A (f (.int i t)<|.int j u) Q E s):
  OpR X f (rI0 λi j=>.bl<|g i j):=by
 intro e s n H x y v u Q d k l h;obtain⟨i,j,rfl,rfl,q⟩:=h;obtain⟨t,rfl⟩:=k;obtain⟨m,rfl⟩:=l;exact rule i j t m s _ _ ⟨.bl<|g i j,H,d,rfl,q⟩
def D8 (i j:I):Prop:=0<j/\j<1073741824
def DV (i j:I):Prop:=0<=j/\j<=1000000/\i.natAbs<2 ^ 64
def CMul (i j:I):Prop:=(-(2 ^ 64)<i/\i<2 ^ 64)\/(-(2 ^ 64)<j/\j<2 ^ 64)
theorem CMul.ok {i j:I}(h:CMul i j):IntMulOk i j:=by
 rcases h with⟨d,e⟩|⟨d,e⟩
 .exact .of_left (intBits_le_64 d e)
 .exact .of_right (intBits_le_64 d e)
theorem op_add:OpR X (Mv .Add) (rI0 λi j=>.int<|i+j):=FQ λ_ _ _ _ _ _ _ q=>add_int q
theorem xk:OpR X (Mv .Sub) (rI0 λi j=>.int<|i-j):=FQ λ_ _ _ _ _ _ _ q=>sub_int q
theorem op_mul:OpR X (Mv .Mult) (rI CMul λi j=>.int<|i * j):=opI λ_ _ _ _ _ _ _ d q=>mul_int q d.ok
theorem yD:OpR X (Mv .FloorDiv) (rI D8 λi j=>.int<|i / j):=opI λi j _ _ _ _ _ d q=>by have e:(0:I)<j:=d.1;have f:j<1073741824:=d.2;exact floordiv_int (by lia) (by rw[Int.fdiv_eq_ediv_of_nonneg i<|by lia];exact q)<|.inl<|PyProof.noPylong_small<|by lia
theorem CV:OpR X (Mv .Mod) (rI (λ_ j=>0<j) λi j=>.int<|i % j):=opI λi j _ _ _ _ _ d q=>by have e:(0:I)<j:=d;exact mod_int' (by lia)<|by rw[Int.fmod_eq_emod_of_nonneg i<|by lia];exact q
theorem Ef:OpR X (Mv .Pow) (rI DV λi j=>.int<|i ^ j.toNat):=opI λ_ _ _ _ _ _ _ d q=>pow_int_small d.1 d.2.1 d.2.2 q
theorem unI {f:B->Sem B}{g:I->I}
  (rule:∀(i:I) (t:Tok) (s:Lx) (Q:B->Lx->Prop) (E:B->Lx->Prop),Q (.int (g i) s.toks) {s with toks:=s.toks+1}->Rp (LC X.prog X.w) X.A (f<|.int i t) Q E s):
  UnR X f (rU λi=>.int<|g i):=by
 intro e s k H x v Q d j h;obtain⟨i,rfl,q⟩:=h;obtain⟨t,rfl⟩:=j;exact rule i t s _ _ ⟨.int<|g i,H,d.tok _,⟨_,rfl⟩,q⟩
theorem DA:UnR X (unaryOp .USub) (rU λi=>.int (-i)):=unI λ_ _ _ _ _ q=>neg_int q
end
section
variable {X:Cx}{a b c:Rv}{ta tb tc:TE}{pos:Pos}
theorem mL {f:U<|Rj×Obj}{h:St}{H:Hp}{s:Lx}{Q:VK}{k g:Rl}(d:Inv X f h H s)(q:Q (.bl k) H)(e:k=g):EP X f h Q (.bool g) s:=by subst e;exact⟨.bl k,H,d,rfl,q⟩
theorem Hl:OpR X (Mg .Lt) (rI0 λi j=>.bl<|decide (i<j)):=zW λ_ _ _ _ _ _ _ q=>lt_int q
theorem pM:OpR X (Mg .LtE) (rI0 λi j=>.bl<|decide (i<=j)):=zW λ_ _ _ _ _ _ _ q=>le_int q
theorem BS:OpR X (Mg .Gt) (rI0 λi j=>.bl<|decide (j<i)):=zW λ_ _ _ _ _ _ _ q=>gt_int q
theorem BB:OpR X (Mg .GtE) (rI0 λi j=>.bl<|decide (j<=i)):=zW λ_ _ _ _ _ _ _ q=>ge_int q
theorem E1:OpR X (Mg .Is) (λx y H Q=>y=.non/\Q (.bl<|decide (x=.non)) H):=by
 intro e s i H x y v u Q d f g h;obtain⟨rfl,q⟩:=h;cases g;refine is_none_gen<|mL d q ?_
 cases x<;>first
  |(cases f;rfl)
  |(obtain⟨t,rfl⟩:=f;rfl)
theorem AS:OpR X (Mg .IsNot) (λx y H Q=>y=.non/\Q (.bl<|!decide (x=.non)) H):=by
 intro e s i H x y v u Q d f g h;obtain⟨rfl,q⟩:=h;cases g;refine isnot_none_gen<|mL d q ?_
 cases x<;>first
  |(cases f;rfl)
  |(obtain⟨t,rfl⟩:=f;rfl)
theorem OpR.or {f:B->B->Sem B}{r g:R2}(h:OpR X f r)(l:OpR X f g):OpR X f (λx y H Q=>r x y H Q\/g x y H Q):=by
 intro e s k H x y v u Q d i j q;rcases q with q|q
 .exact h e s k H x y v u Q d i j q
 .exact l e s k H x y v u Q d i j q
theorem cQ (b:Rv){op:CmpOp}(h:op≠.In:=by decide)(d:op≠.NotIn:=by decide):M5 op b=false:=by
 have e1:(op==CmpOp.In)=false:=by cases op<;>first|rfl|exact Rm rfl h
 have e2:(op==CmpOp.NotIn)=false:=by cases op<;>first|rfl|exact Rm rfl d
 cases b<;>simp[M5,e1,e2]
theorem gB {op:CmpOp}{r:R2}(ho:OpR X (Mg op) r)(i:PE X a ta)(j:PE X b tb)(k:M5 op b=Lv):PE X (.Compare a [op] [b] pos) (tOp r ta tb):=by intro e s n H Q d h;exact wpAny_Compare1 (Dc i j d h λv u s2 x y f g l m q=>ho e s2 n f x y v u Q g l m q) k
noncomputable def yj (t:TE):TT:=λe H Q=>t e H λx d=>∃k,x=.bl k/\Q k d
theorem jY {op:CmpOp}{r:R2}(ho:OpR X (Mg op) r)(p:PE X a ta)(t:PE X b tb)(w:M5 op b=Lv):PT X (.Compare a [op] [b] pos) (yj<|tOp r ta tb):=by
 intro f s g H Q d h
 refine wpAny_isTrue_Compare1 (thn (p f s g H _ d h) λv M ⟨x,i,m,r1,A⟩=>thn (t f M g i _ m A) λu s2 ⟨y,j,n,r2,D⟩=>
  thn (ho f s2 g j x y v u _ n r1 r2 D) λc s3 ⟨z,l,o,G,k,e,F⟩=>?_) w
 subst e;cases G;exact N5 ⟨l,o,F⟩
noncomputable def jR (r i:R2)(ta tb tc:TE):TE:=λd H Q=>ta d H λx f=>tb d f λy g=>r x y g λz e=>∃k,z=.bl k /\
 (if k=Lw then tc d e λj h=>i y j h Q else Q (.bl Lv) e)
theorem kN {op i:CmpOp}{r p:R2}(ho:OpR X (Mg op) r)(l:OpR X (Mg i) p)(M:PE X a ta)(N:PE X b tb)(P:PE X c tc)
  (Z:Oh [op,i] [b,c]=false:=by with_unfolding_all rfl):PE X (.Compare a [op,i] [b,c] pos) (jR r p ta tb tc):=by
 intro g s j H Q f h
 refine Compare_chain (thn (M g s j H _ f h) λv s1 ⟨x,t,D,r1,q1⟩=>chain_link (thn (N g s1 j t _ D q1) λu s2 ⟨y,w,F,r2,q2⟩=>
  thn (ho g s2 j w x y v u _ F r1 r2 q2) λd s3 ⟨z,m,n,r3,k,e,o⟩=>?_)) Z
 subst e;cases r3;refine N5 ?_;cases k with
 |false=>exact ite_ff ⟨.bl Lv,m,n,rfl,o⟩
 |true=>exact ite_tt<|chain_last<|thn (P g s3 j m _ n o) λw' s4 ⟨z',A,G,r4,q4⟩=>l g s4 j A y z' u w' Q G r2 r4 q4
theorem xR {op i:CmpOp}{r p:R2}(ho:OpR X (Mg op) r)(l:OpR X (Mg i) p)(Z:PE X a ta)(hb:PE X b tb)(hc:PE X c tc)
  (hm:Oh [op,i] [b,c]=false:=by with_unfolding_all rfl):PT X (.Compare a [op,i] [b,c] pos) (yj<|jR r p ta tb tc):=by
 intro g s j H Q f h
 refine isTrue_chain (thn (Z g s j H _ f h) λv s1 ⟨x,t,F,r1,q1⟩=>test_link (thn (hb g s1 j t _ F q1) λu s2 ⟨y,w,G,r2,q2⟩=>
  thn (ho g s2 j w x y v u _ G r1 r2 q2) λd s3 ⟨z,m,n,r3,k,e,o⟩=>?_)) hm
 subst e;cases r3;refine N5 ?_;cases k with
 |false=>obtain⟨k',P,q'⟩:=o;cases P;exact ite_ff ⟨m,n,q'⟩
 |true=>refine ite_tt<|test_last<|thn (hc g s3 j m _ n o) λw' s4 ⟨z',A,M,r4,q4⟩=>thn (l g s4 j A y z' u w' _ M r2 r4 q4) λd' s5 ⟨z2,D,N,r5,k2,e2,q5⟩=>?_;subst e2;cases r5;exact N5 ⟨D,N,q5⟩
def zc (K:Ly)(x:V)(H:Hp)(k:Rl):Prop:=
 match x with
 |.non=>k=Lv
 |.bl b=>k=b
 |.int i=>k=(i != 0)
 |.str y=>y.length<=sizeLine/\k=((y.length:I) != 0)
 |.byt y=>y.size<=sizeLine/\k=((y.size:I) != 0)
 |.ref p=>(∃e,SqL K H p e/\k=!e.isEmpty)\/(∃e,SqT K H p e/\k=!e.isEmpty)\/∃d,H p=Y (.dK d)/\k=!d.isEmpty
 |_=>RB
theorem ng {f:Type}{d:U<|f×V}{e:U<|f×B}(r:KV d e):(!e.isEmpty)=!d.isEmpty:=by cases r<;>rfl
theorem iI {e:U V}{d:U B}(r:Vals e d):(!d.toArray.isEmpty)=!e.isEmpty:=by cases r<;>simp
theorem gS:(sizeLine:O)<2 ^ 63:=by rw[OF];decide
theorem sG:Jx X (λx H Q=>∃k,zc X.K x H k/\Q k H):=by
 intro D s Z H x v Q d n h;obtain⟨k,e,q⟩:=h;have M:=gS;have N:sizeLine=16777216:=OF;cases x with
 |non=>cases n;have f:k=false:=e;subst f;exact truthy_none ⟨H,d,q⟩
 |bl b=>cases n;have f:k=b:=e;subst f;exact N5 ⟨H,d,q⟩
 |int i=>obtain⟨t,rfl⟩:=n;have f:k=(i != 0):=e;subst f;exact PySem.P.truthy_int ⟨H,d,q⟩
 |str y=>obtain⟨t,rfl⟩:=n;obtain⟨G,f⟩:y.length<=sizeLine/\k=((y.length:I) != 0):=e;subst f;exact PySem.P.truthy_str (by lia) ⟨H,d.tok _,q⟩
 |byt y=>obtain⟨t,rfl⟩:=n;obtain⟨G,f⟩:y.size<=sizeLine/\k=((y.size:I) != 0):=e;subst f;exact PySem.W.truthy_bytes (by lia) ⟨H,d.tok _,q⟩
 | ref p =>
  cases n;have f:(∃l,SqL X.K H p l/\k=!l.isEmpty)\/(∃l,SqT X.K H p l/\k=!l.isEmpty)\/∃g,H p=Y (.dK g)/\k=!g.isEmpty:=e;rcases f with⟨l,hx,f⟩|⟨l,hx,f⟩|⟨g,hx,f⟩
  .subst f;obtain⟨u,r,z,A⟩:=d.list hx;have j:=r.length;exact wpAny_truthy_list z.isList (by simp only[LZ];lia) ⟨H,d.tok _,by rw[iI r];exact q⟩
  .subst f;obtain⟨u,r,z,A⟩:=d.tuple hx;have j:=r.length;exact truthy_tuple z (by simp only[LZ];lia) ⟨H,d.tok _,by rw[iI r];exact q⟩
  .subst f;obtain⟨A,F,o,r,m⟩:g.length<=sizeLine/\(p==NJ)=Lv/\∃o,KV g o/\s.heap.DictOf (kj X.prog X.w) p o:=d.hok p _ hx;have j:g.length=o.length:=Paired.length r;exact wpAny_truthy_dict F m (by lia) ⟨H,d.tok _,by rw[ng r];exact q⟩
 |_=>exact(show RB from e).elim
theorem yi (m:PE X a ta)(n:∀e,R6 a X.env e=(do let v <- e;standAt a.pos;holding [v] (truthy v))):
  PT X a (λg H Q=>ta g H λx i=>∃k,zc X.K x i k/\Q k i):=by
 intro f s g H Q d h;exact isTrue_plain (thn (m f s g H _ d h) λv p ⟨x,j,l,r1,o⟩=>sG f p g j x v Q l r1 o)<|n _
theorem op_add_str:OpR X (Mv .Add) (λx y H Q=>∃i j,x=.str i/\y=.str j/\i.length+j.length<=sizeLine/\Q (.str<|i++j) H):=by intro e s n H x y v u Q d g k h;obtain⟨i,j,rfl,rfl,f,q⟩:=h;obtain⟨t,rfl⟩:=g;obtain⟨l,rfl⟩:=k;exact add_str (λl m=>⟨.str<|i++j,H,d.tok _,⟨_,rfl⟩,q⟩) f
theorem dQ {x:V}{d:U B}(r:Vals [x] d):∃u,d=[u]/\RelV x u:=by
 cases r with
 |cons r1 r2=>cases r2;exact⟨_,rfl,r1⟩
theorem GH {x y:V}{d:U B}(r:Vals [x,y] d):∃u e,d=[u,e]/\RelV x u/\RelV y e:=by
 cases r with
 |cons r1 r2=>
  cases r2 with
  |cons f g=>cases g;exact⟨_,_,rfl,r1,f⟩
theorem qS:dN X (.type "int") (λe H Q=>(∃i,e=[.int i]/\Q (.int i) H)\/∃k,e=[.bl k]/\Q (.int<|if k then 1 else 0) H):=by
 intro f s j H e g Q d r h;rcases h with⟨i,rfl,q⟩|⟨k,rfl,q⟩
 .obtain ⟨u,rfl,t,rfl⟩:=dQ r;exact call_int_int ⟨.int i,H,d,⟨_,rfl⟩,q⟩
 .obtain ⟨u,rfl,r1⟩:=dQ r;cases r1;exact call_int_bool ⟨.int<|if k then 1 else 0,H,d.tok _,⟨_,rfl⟩,q⟩
def G7 (K:Ly)(x:V)(H:Hp)(n:O):Prop:=
 match x with
 |.str y=>y.length<=sizeLine/\n=y.length
 |.byt y=>y.size<=sizeLine/\n=y.size
 |.ref p=>(∃d,SqL K H p d/\n=d.length)\/∃d,SqT K H p d/\n=d.length
 |_=>RB
theorem mD:dN X (.builtin "len") (λf H Q=>∃x n,f=[x]/\G7 X.K x H n/\Q (.int n) H):=by
 intro o s F H f D Q d r h;obtain⟨x,n,rfl,e,q⟩:=h;obtain⟨u,rfl,m⟩:=dQ r;have z:=gS;have A:sizeLine=16777216:=OF;cases x with
 |str y=>obtain⟨t,rfl⟩:=m;obtain⟨v,i⟩:y.length<=sizeLine/\n=y.length:=e;subst i;exact len_str (by lia) ⟨.int _,H,d.tok _,⟨_,rfl⟩,q⟩
 |byt y=>obtain⟨t,rfl⟩:=m;obtain⟨v,i⟩:y.size<=sizeLine/\n=y.size:=e;subst i;exact PySem.W.len_bytes (by lia) ⟨.int _,H,d.tok _,⟨_,rfl⟩,q⟩
 | ref p =>
  cases m;have i:(∃f,SqL X.K H p f/\n=f.length)\/∃f,SqT X.K H p f/\n=f.length:=e;rcases i with⟨f,hx,i⟩|⟨f,hx,i⟩
  .subst i;obtain⟨j,l,k,w⟩:=d.list hx;have g:=l.length;exact Calls.call_len_list k.isList (by simp only[LZ];lia) ⟨.int f.length,H,d.tok _,⟨_,by simp only[LZ];rw[g]⟩,q⟩
  .subst i;obtain⟨j,l,k,w⟩:=d.tuple hx;have g:=l.length;exact len_tuple k (by simp only[LZ];lia) ⟨.int f.length,H,d.tok _,⟨_,by simp only[LZ];rw[g]⟩,q⟩
 |_=>exact(show RB from e).elim
end
structure ObjM (h:Rx)(x dx C:Rj)(mA:Str->L B):Prop where
 obj:h.get? x=Y (Nv C dx)
 ns:h.Ns1 dx mA
 ne:dx≠x
theorem q9 {h:Rx}{d:Rj}{g:Str->L B}(n:h.Ns1 d g):∃i,h.get? d=Y i/\∀b,OM b i=Y (g b):=by
 obtain⟨o,f,ep,ho,hd,hk,_,k⟩:=n;refine⟨o,ho,λb=>?_⟩;have e:=k b;unfold nsFind findBy at e;rw[<- QY] at e;unfold OM;rw[hd];dsimp only;split
 .rename_i y q;rw[q] at e;exact Rw Y e
 .rename_i q;rw[q] at e;have a:f.toList.any (·.refKey)=false:=by rw[List.any_eq_false];intro y l;obtain⟨z,t,c⟩:=hk y (Array.mem_toList_iff.mp l);simp[DictEntry.refKey,c]
  have j:¬f.toList.any (·.refKey)=true:=by rw[a];exact LX
  rw[Rn j];exact Rw Y e
theorem ObjM.look {h:Rx}{x d C:Rj}{e:Str->L B}(a:ObjM h x d C e):∃c,PySem.W.InstAt h x (Nv C d) C (Y c)/\∀b,OM b c=Y (e b):=
 let ⟨c,ho,f⟩:=q9 a.ns
 ⟨c,⟨a.obj,rfl,rfl,ho⟩,f⟩
section
variable {prog:Ro}{w:LA}{A:LS}{E:B->Lx->Prop}{s:Lx}{K:Ly}{x dx C f:Rj}{mA:Str->L B}{name:Str}{v:B}
theorem Be {c:Rl}{Q:B->Lx->Prop}(X:K.In s.heap)(a:ObjM s.heap x dx C mA)(g:OT K C name=Lw)(i:OA K C=Lw)
  (e:Mp K (.ref C) name=Y J) (k:mA name=Y v) (d:Qa v=Lw) (h:Q v {s with toks:=s.toks+1}):
  Rp (LC prog w) A (getAttr (.ref x) name c) Q E s:=by
 obtain⟨l,b,j⟩:=a.look;exact PySem.W.get_value X b (Pt g).1 (PySem.W.findObj_own i e rfl (by rw[j,k])) d h
theorem uH {k:Sem Rl}{Q:B×U B->Lx->Prop}(X:K.In s.heap)(a:ObjM s.heap x dx C mA)(c:OT K C name=Lw)
  (d:Mp K (.ref C) name=Y (Y<|.ref f)) (g:Pf K (.ref f)=Lw) (i:mA name=J) (h:Q (.ref f,[.ref x]) s):
  Rp (LC prog w) A (R1 (.ref x) name k) Q E s:=by
 obtain⟨j,b,e⟩:=a.look;exact PySem.W.method_fn X b (Pt c).1 (Pt c).2 d (beq_iff_eq.mp g) (by show(OM name j).map (·.isSome)=Y Lv;rw[e,i];rfl) h
theorem Ar {n:U Str}{Q:Unit->Lx->Prop}(X:K.In s.heap)(c:ObjM s.heap x dx C mA)
  (z:Mp K (.ref C) "__setattr__"=Y (Y<|.builtin "object.__setattr__")) (hp:Qe K C=Lw) (F:PD K C name=Y J) (u:OA K C=Lw)
  (G:Pg mA n) (D:n.length<=sizeLine)
  (h:∀i,ObjM i x dx C (λy=>if y=name then Y v else mA y)->Heap.SameBut dx s.heap i->Q () {s with heap:=i,toks:=s.toks+2}):
  Rp (LC prog w) A (setAttr (.ref x) name v) Q E s:=by
 obtain⟨P,d,M⟩:=c.look;refine PySem.W.set_plain X d z<|PySem.W.osa_open (s:={s with toks:=s.toks+1}) (r:=J) X d hp F λb=>?_;obtain⟨H,t,k⟩:=PySem.W.any_some u;have hx:s.heap.get? x=Y ⟨.ref C,Y dx,.plain,#[]⟩:=c.obj;refine LD<|LN<|LD<|LD<|wpAny_loadPart hx<|LD<|Rb (s:={s with toks:=s.toks+1}) (PySem.W.looks_clsIn X t) ?_;rw[k];refine LN (a:=Y dx)<|LD<|LN<|LD ?_;refine wpAny_nsSet1 (s:={s with toks:=s.toks+1}) c.ns λi e g=>?_;obtain⟨N,p,o,m,l,j⟩:=e.count<|Ra name v G;refine LD<|wpAny_lookBehind m (by rw[l];exact pastItsLine_dict<|LL j<|by rw[LG];lia) ?_;exact LN<|h _ ⟨(g.2 _<|Mx c.ne).trans c.obj,e,c.ne⟩ g
theorem sH {R:R7->Lx->Prop}{b:U B}{kw:U<|Str×B}(X:K.In s.heap)(i:QC K C=Lw)
  (e:Mp K (.ref C) "__init__"=Y (Y<|.ref f)) (c:PySem.W.typeIn K (.ref f)=Y (.type "function"))
  (h:MQ (LC prog w) (A.under (.builtin "type.__call__" ⟨.ref C::b,kw⟩)) (.call (.ref f) ⟨.ref (s.heap.objs.size+1)::b,kw⟩) (PySem.W.InitBack (s.heap.objs.size+1) R)
   {s with heap:=(s.heap.push Nf).push<|Nv C s.heap.objs.size}):
  MQ (LC prog w) A (.call (.ref C) ⟨b,kw⟩) R s:=by
 obtain⟨j,g,d,t,os⟩:=s;exact PySem.W.make_core (PySem.W.makes_of X i) (PySem.W.looks_findIn X e) (λa=>PySem.W.bind_fn X a c) (.inl rfl) h
end
def putF (f:Str)(v:V):U (Str×V)->U (Str×V)
|[]=>[(f,v)]
|(g,x)::r=>if g=f then(g,v)::r else(g,x)::putF f v r
theorem f9 (f g:Str)(v:V):∀fs:U<|Str×V,(putF f v fs).lookup g=if g=f then Y v else fs.lookup g
| []=>by
 show MS g [(f,v)]=_;by_cases h:g=f
 .have a:(g==f)=true:=beq_iff_eq.mpr h;simp only[MS,a,Rk h]
 .have a:(g==f)=false:=beq_eq_false_iff_ne.mpr h;simp only[MS,a,Rn h]
| (k,x)::r=>by
 have b:=f9 f g v r;rw[show putF f v ((k,x)::r)=(if k=f then(k,v)::r else(k,x)::putF f v r) from rfl];by_cases hk:k=f
 .rw [Rk hk];by_cases h:g=k
  .have a:(g==k)=true:=beq_iff_eq.mpr h;simp only[MS,a,Rk<|h.trans hk]
  .have a:(g==k)=false:=beq_eq_false_iff_ne.mpr h;simp only[MS,a,Rn (λe:g=f=>h<|e.trans hk.symm)]
 .rw [Rn hk];by_cases h:g=k
  .have a:(g==k)=true:=beq_iff_eq.mpr h;simp only[MS,a,Rn (λe:g=f=>hk<|h.symm.trans e)]
  .have a:(g==k)=false:=beq_eq_false_iff_ne.mpr h;simp only[MS,a];exact b
theorem fV (f:Str)(v:V):∀fs:U<|Str×V,f∈(putF f v fs).map (·.1)/\∀g,g∈fs.map (·.1)->g∈(putF f v fs).map (·.1)
|[]=>⟨by simp[putF],λg h=>by simp at h⟩
| (k,x)::r=>by
 obtain⟨a,b⟩:=fV f v r;rw[show putF f v ((k,x)::r)=(if k=f then(k,v)::r else(k,x)::putF f v r) from rfl];by_cases hk:k=f
 .rw [Rk hk];subst hk;exact⟨by simp,λg h=>by simpa using h⟩
 .rw [Rn hk];refine⟨?_,λg h=>?_⟩
  .rw [LJ];exact LO _ a
  .rw [LJ] at h ⊢;rcases LK.mp h with e|e
   .exact LK.mpr (.inl e)
   .exact LO _ (b g e)
theorem eh (f:Str)(v:V):∀fs:U<|Str×V,(putF f v fs).length<=fs.length+1
|[]=>by simp[putF]
|(k,x)::r=>by
 have a:=eh f v r;rw[show putF f v ((k,x)::r)=(if k=f then(k,v)::r else(k,x)::putF f v r) from rfl];by_cases hk:k=f
 .rw[Rk hk,LG,LG];lia
 .rw[Rn hk,LG,LG];lia
theorem RelO.some_of {v:V}{o:L B}(r:RelO (Y v) o):∃u,o=Y u/\RelV v u:=by
 cases o with
 |none=>exact(show RB from r).elim
 |some u=>exact⟨u,rfl,r⟩
theorem RelO.none_of {o:L B}(r:RelO J o):o=none:=by
 cases o with
 |none=>rfl
 |some u=>exact(show RB from r).elim
theorem qd {v:V}{u:B}(r:RelV v u):Qa u=true:=by
 cases v with
 |non=>cases(show u=Value.none from r);rfl
 |bl b=>cases(show u=Value.bool b from r);rfl
 |int i=>obtain⟨t,e⟩:=(show∃t,u=Value.int i t from r);cases e;rfl
 |str x=>obtain⟨t,e⟩:=(show∃t,u=Value.str x t from r);cases e;rfl
 |byt b=>obtain⟨t,e⟩:=(show∃t,u=Value.bytes b t from r);cases e;rfl
 |flt b=>obtain⟨t,e⟩:=(show∃t,u=Value.float b t from r);cases e;rfl
 |ref a=>cases(show u=Value.ref a from r);rfl
 |ty n=>cases(show u=Value.type n from r);rfl
section
variable {P:Ro}{w:LA}{H H':Hp}{h h':Rx}{a C dx:Rj}{fs fs':U (Str×V)}
theorem gz (c:HOk P w H h)(e:H a=Y (.ins C dx fs)):∃b,ObjM h a dx C b/\(∀f,RelO (fs.lookup f)<|b f)/\Pg b (fs.map (·.1))/\fs.length<=1000/\H dx=Y (.own a):=by obtain⟨d,z,g,i,b,n,r,q⟩:=(show ObjOk P w H h a (.ins C dx fs) from c a _ e);exact⟨b,⟨i,n,g⟩,r,q,z,d⟩
end
structure Cls (K:Ly)(C:Rj):Prop where
 pg:OT K C Str.empty=Lw
 hd:OA K C=Lw
 po:Qe K C=Lw
 sa:Mp K (.ref C) "__setattr__"=Y (Y (.builtin "object.__setattr__"))
theorem Cls.get {K:Ly}{C:Rj}(c:Cls K C)(f:Str):OT K C f=true:=c.pg
def NoAttr (K:Ly)(C:Rj)(f:Str):Prop:=Mp K (.ref C) f=Y J
theorem NoAttr.taker {K:Ly}{C:Rj}{f:Str}(n:NoAttr K C f):PD K C f=Y none:=by unfold PD;rw[show Mp K (.ref C) f=Y J from n];rfl
structure yK (K:Ly)(C:Rj)(m:Str)(f:Rj):Prop where
 at_:Mp K (.ref C) m=Y (Y (.ref f))
 fn:Pf K (.ref f)=Lw
 kp:Nu K (.ref f)=Lw
section
variable {X:Cx}{pins:U (Rj×Obj)}{σ:St}{H:Hp}{s:Lx}{a C dx:Rj}{fs:U (Str×V)}{f:Str}{v:V}{A:LS}{E:B->Lx->Prop}
theorem m8 {b:Rl}{Q:B->Lx->Prop}(d:Inv X pins σ H s)(e:H a=Y (.ins C dx fs))(c:Cls X.K C)(n:NoAttr X.K C f)(l:fs.lookup f=Y v)
  (h:∀u j,Inv X pins σ H j->RelV v u->Q u j):Rp (LC X.prog X.w) A (getAttr (.ref a) f b) Q E s:=by
 obtain⟨m,g,r,_,_,_⟩:=gz d.hok e;obtain⟨u,k,i⟩:=RelO.some_of (v:=v) (o:=m f) (by rw[<- l];exact r f);exact Be d.kIn g (c.get f) c.hd n k (qd i)<|h u _ (d.tok _) i
theorem nQ {m:Str}{g:Rj}{n:Sem Rl}{Q:B×U B->Lx->Prop}(b:Inv X pins σ H s)(e:H a=Y (.ins C dx fs))(c:Cls X.K C)(k:yK X.K C m g)(l:fs.lookup m=J)
  (h:Q (.ref g,[.ref a]) s):Rp (LC X.prog X.w) A (R1 (.ref a) m n) Q E s:=by
 obtain⟨j,d,r,_,_,_⟩:=gz b.hok e;have i:j m=none:=RelO.none_of (by rw[<- l];exact r m);exact uH b.kIn d (c.get m) k.at_ k.fn i h
theorem nP {y:V}{u:B}{Q:Unit->Lx->Prop}(d:Inv X pins σ H s)(e:H a=Y (.ins C dx fs))(c:Cls X.K C)(n:NoAttr X.K C f)(P:fs.length<1000)(M:RelV y u)
  (h:∀l,Inv X pins σ (upd H a<|.ins C dx<|putF f y fs) l->Q () l):Rp (LC X.prog X.w) A (setAttr (.ref a) f u) Q E s:=by
 obtain⟨k,i,r,m,_,ho⟩:=gz d.hok e;have G:(fs.map (·.1)).length<=sizeLine:=by rw[LB,OF];lia
 refine Ar d.kIn i c.sa c.po n.taker c.hd m G λt j N=>h _ ?_;have hd:∃o,t.get? dx=Y o:=let ⟨o,_,_,p,_⟩:=j.ns;⟨o,p⟩;refine d.write (x:=a) (e:=dx) (by rw[e];exact Nq) (.inr ho) (λb q D z=>(N.2 b D).trans z) hd ?_;refine⟨by rw[ah i.ne];exact ho,?_,i.ne,j.obj,_,j.ns,λg=>?_,λg F=>?_⟩
 .have:=eh f y fs;lia
 .show RelO ((putF f y fs).lookup g) (if g=f then Y u else k g);rw[f9];by_cases q:g=f
  .rw[Rk q,Rk q];exact M
  .rw[Rn q,Rn q];exact r g
 .by_cases q:g=f
  .rw[q];exact(fV f y fs).1
  .refine (fV f y fs).2 g (m g fun z=>F ?_);show(if g=f then Y u else k g)=J;rw[Rn q];exact z
theorem Inv.made (c:Inv X pins σ H s):Inv X pins σ (upd (upd H s.heap.objs.size<|.own<|s.heap.objs.size+1) (s.heap.objs.size+1)<|.ins C s.heap.objs.size [])
  {s with heap:=(s.heap.push Nf).push<|Nv C s.heap.objs.size}:=by
 have e1:(s.heap.push Nf).get? s.heap.objs.size=Y Nf:=Heap.get?_push_size s.heap rfl;have e2:((s.heap.push Nf).push (Nv C s.heap.objs.size)).get? (s.heap.objs.size+1)=Y (Nv C s.heap.objs.size):=by have:=Heap.get?_push_size (s.heap.push Nf) (o:=Nv C s.heap.objs.size) rfl;rwa[Heap.size_push] at this
 have e3:(s.heap.push Nf).Ns s.heap.objs.size (λ_=>J):=⟨Nf,#[],_,e1,rfl,(λe h=>Rm h<|by simp),λ_=>rfl⟩;have g:=c.laid (a:=s.heap.objs.size) (o:=.own<|s.heap.objs.size+1) (h':=s.heap.push Nf) (t':=s.toks) (λb u q=>Heap.get?_push_of_some _ q) (LM _) ⟨_,e1⟩;refine g.laid (a:=s.heap.objs.size+1) (o:=.ins C s.heap.objs.size []) (t':=s.toks) (λb u q=>Heap.get?_push_of_some _ q) (Qk<|Heap.size_push _ _) ?_;have d:s.heap.objs.size≠s.heap.objs.size+1:=L5<|OS _;refine⟨by rw[ah d,au],Mw _,d,e2,λ_=>J,(Heap.Ns1.of_empty e3).at λo q=>Heap.get?_push_of_some _ q,λ_=>Nq,λy i=>Rm rfl i⟩
theorem zN {prog:Ro}{w:LA}{b:Env}{e:Rv}{f:Str}{d:Pos}{s:Lx}{Q:B->Lx->Prop}(g:MP e f b (Rz e b)=Rz e b)
  (h:Rp (LC prog w) A (Rz e b) (λo c=>Rp (LC prog w) A (getAttr o f Lw) Q E c) E s):Rp (LC prog w) A (Rz (.Attribute e f d) b) Q E s:=
 Attribute_any_ h (by rw[arm_eval_Attribute,g])
end
def JC (K:Ly)(d:TE)(f:Str):TE:=λe H Q=>d e H λx b=>∃a C c fs v,x=.ref a/\b a=Y (.ins C c fs)/\Cls K C/\NoAttr K C f/\fs.lookup f=Y v/\Q v b
def Jw (K:Ly)(g h:TE)(f:Str):TS:=λD b H=>h b H λy e=>g b e λx c=>∃a C d fs,x=.ref a/\c a=Y (.ins C d fs)/\Cls K C/\NoAttr K C f/\fs.length<1000 /\
 D.nx b (upd c a<|.ins C d<|putF f y fs)
section
variable {X:Cx}{o e value:Rv}{f:Str}{pos pos' tpos:Pos}{ta tv:TE}
theorem Fv (r:PE X e ta)(p:MP e f X.env (Rz e X.env)=Rz e X.env):PE X (.Attribute e f pos) (JC X.K ta f):=by intro d s y H Q b h;refine zN p<|thn (r d s y H _ b h) λu A ⟨x,g,i,w,a,C,z,fs,v,m,k,c,n,l,q⟩=>?_;subst m;obtain rfl:u=Value.ref a:=w;exact m8 i k c n l λD s2 j t=>⟨v,g,j,t,q⟩
theorem j6 (t:PE X o ta)(w:PE X value tv)(v:MI value (Y<|.Attribute o f pos') pos.line X.env=pure Lv):PS X (.Assign [.Attribute o f pos'] value pos) (Jw X.K ta tv f):=by intro d s g H D b h;refine plainObj_wpAny_Assign_Attribute (thn (w d s g H _ b h) λu M ⟨y,i,j,G,q⟩=>thn (t d M g i _ j q) λz s2 ⟨x,N,k,F,a,C,P,fs,r,p,c,n,l,A⟩=>?_) v;subst r;obtain rfl:z=Value.ref a:=F;exact nP k p c n l G λs3 m=>⟨g,_,m,A⟩
end
section
variable {X:Cx}{pins:U (Rj×Obj)}{σ:St}{H:Hp}{s:Lx}{A:LS}{E:B->Lx->Prop}{Q:B->Lx->Prop}{c:B}{b:Rl}
inductive gm (K:Ly)(H:Hp):V->B->Prop where
 |non:gm K H .non (.type "NoneType")
 |bl (x:Rl):gm K H (.bl x) (.type "bool")
 |int (i:I):gm K H (.int i) (.type "int")
 |str (x:Str):gm K H (.str x) (.type "str")
 |flt (x:UInt64):gm K H (.flt x) (.type "float")
 |lst {a:Rj} {xs:U V} (e:H a=Y (.lst xs)):gm K H (.ref a) (.type "list")
 |frz {a:Rj} {o:Obj} {xs:U V} (e:H a=Y (.frz o (.lst xs))):gm K H (.ref a) (.type "list")
 |tup {a:Rj} {xs:U V} (e:H a=Y (.tup xs)):gm K H (.ref a) (.type "tuple")
 |dK {a:Rj} {kvs:U (Key×V)} (e:H a=Y (.dK kvs)):gm K H (.ref a) (.type "dict")
 |dT {a:Rj} {kvs:U (U Key×V)} (e:H a=Y (.dT kvs)):gm K H (.ref a) (.type "dict")
 | ins {a C dx:Rj} {fs:U (Str×V)} (e:H a=Y (.ins C dx fs)) (cl:Cls K C) (ha:Mp K (.ref C) "__class__"=Y (Y (.builtin "object.__class__")))
   (hn:Qd K (.builtin "object.__class__") "__get__"=Y (Y (.builtin "getset_descriptor.__get__"))) (htk:QB K (.builtin "object.__class__")=Y Lw)
   (hm:Qt K C (.type "object")=Y Lw):gm K H (.ref a) (.ref C)
theorem eG {x:V}{u t:B}(d:Inv X pins σ H s)(k:RelV x u)(ty:gm X.K H x t)(e:NZ X.K t c=Y b)(h:∀tk,Q (.bool b) {s with toks:=tk}):
  Rp (LC X.prog X.w) A (call (.builtin "isinstance") [u,c]) Q E s:=by
 cases ty with
 |non=>cases(show u=Value.none from k);exact MG PySem.W.kitx_none d.kIn Nq e (λz=>nomatch z) h
 |bl y=>cases(show u=Value.bool y from k);exact MG PySem.W.kitx_bool d.kIn Nq e (λz=>nomatch z) h
 |int i=>obtain⟨t,q⟩:=(show∃t,u=Value.int i t from k);cases q;exact MG PySem.W.kitx_int d.kIn Nq e (λz=>nomatch z) h
 |str y=>obtain⟨t,q⟩:=(show∃t,u=Value.str y t from k);cases q;exact MG PySem.W.kitx_str d.kIn Nq e (λz=>nomatch z) h
 |flt y=>obtain⟨t,q⟩:=(show∃t,u=Value.float y t from k);cases q;exact MG PySem.W.kitx_float d.kIn Nq e (λz=>nomatch z) h
 | @lst a r j=>cases(show u=Value.ref a from k);obtain⟨_,_,n,_,l⟩:=(show ObjOk X.prog X.w H s.heap a (.lst r) from d.hok a _ j);exact MG Pn d.kIn ⟨_,l,rfl⟩ e (λz=>nomatch z) h
 | @frz a Z r j=>cases(show u=Value.ref a from k);obtain⟨_,_,_,n,_,l⟩:=(show ObjOk X.prog X.w H s.heap a (.frz Z<|.lst r) from d.hok a _ j);exact MG Pn d.kIn ⟨_,l,rfl⟩ e (λz=>nomatch z) h
 | @tup a r j=>cases(show u=Value.ref a from k);obtain⟨_,_,_,p⟩:=(show ObjOk X.prog X.w H s.heap a (.tup r) from d.hok a _ j);obtain⟨o,l,v,_⟩:=p;exact MG QX d.kIn ⟨o,l,v⟩ e (λz=>nomatch z) h
 | @dK a m j=>cases(show u=Value.ref a from k);obtain⟨_,_,vs,_,p⟩:=(show ObjOk X.prog X.w H s.heap a (.dK m) from d.hok a _ j);obtain⟨o,G,ep,l,v,_⟩:=p;exact MG Qc d.kIn ⟨o,l,v.1⟩ e (λz=>nomatch z) h
 | @dT a m j=>cases(show u=Value.ref a from k);obtain⟨_,_,r,_,o,G,ep,l,v,_⟩:=(show ObjOk X.prog X.w H s.heap a (.dT m) from d.hok a _ j);exact MG Qc d.kIn ⟨o,l,v.1⟩ e (λz=>nomatch z) h
 | @ins a C dx fs j F M P D N=>cases(show u=Value.ref a from k);obtain⟨mA,g,_⟩:=gz d.hok j;obtain⟨od,f,_⟩:=g.look;exact MG (PySem.W.kitx_own (F.get _) F.hd M P D N) d.kIn f e (λz=>nomatch z) h
end
structure Room (k:O)(A:LS):Prop where
 hd:A.handled=J
 dp:A.depth+3 * k+5<recursionLimit
 un:A.units+16 * k+200<cLine
 gu:A.guards=Y []
theorem Room.deeper {k:O}{A:LS}(r:Room (k+1) A)(a:Env):Room k (A.deeper a):=
 ⟨r.hd,by have:=r.dp;show A.depth+1+3 * k+5<_;lia,by have:=r.un;show A.units+3+16 * k+200<_;lia,r.gu⟩
theorem mM {A:LS}{C:Rj}{a:U B}{kw:U<|Str×B}:(A.under<|.builtin "type.__call__" ⟨.ref C::a,kw⟩).depth=A.depth+1:=by
 first|rfl|simp[Around.under,Code.weight,Code.isCreation,Code.isGuard,Code.isCaller,Code.frames,Code.isFrame,guardIds]
theorem mV {A:LS}{C:Rj}{a:U B}{kw:U<|Str×B}:(A.under<|.builtin "type.__call__" ⟨.ref C::a,kw⟩).units=A.units+1:=by
 first|rfl|simp[Around.under,Code.cUnits,Code.frames,Code.isFrame]
theorem make_guards {A:LS}{C:Rj}{a:U B}{kw:U<|Str×B}:(A.under<|.builtin "type.__call__" ⟨.ref C::a,kw⟩).guards=A.guards:=by
 first|rfl|simp[Around.under,Code.isGuard,guardIds]
theorem Room.make {k:O}{A:LS}(r:Room (k+1) A)(C:Rj)(a:U B)(kw:U<|Str×B):Room k (A.under<|.builtin "type.__call__" ⟨.ref C::a,kw⟩):=
 ⟨r.hd,by have:=r.dp;rw[mM];lia,by have:=r.un;rw[mV];lia,make_guards.trans r.gu⟩
theorem Room.depth {k:O}{A:LS}(r:Room k A):A.depth<recursionLimit:=by have:=r.dp;lia
theorem Room.units {k:O}{A:LS}(r:Room k A):A.units+64<cLine:=by have:=r.un;lia
def Bl:TA:=λ_ H Q=>Q [] H
noncomputable def o8 (d:TE)(e:TA):TA:=λa H Q=>d a H λx b=>e a b λf c=>Q (x::f) c
section
variable {X:Cx}{e:Rv}{es:U Rv}{te:TE}{t:TA}{pos:Pos}
theorem fU:PA X [] Bl:=λ_ _ _ _ H Q a h=>Calls.spliced_nil ⟨[],H,a,.nil,h⟩
theorem cU (j:PE X e te)(k:PA X es t)(l:Lz (e::es) X.env=(Lv,Rz e X.env)::Lz es X.env:=by rfl):PA X (e::es) (o8 te t):=by intro pos b s c H Q a h;rw[l];show Rp _ _ (spliced ((Lv,Rz e X.env)::LY pos (Lz es X.env))) _ _ s;refine Calls.spliced_cons<|thn (j b s c H _ a h) λu o ⟨x,d,g,r1,m⟩=>?_;exact thn (k pos b o c d _ g m) λr s2 ⟨p,f,i,r2,n⟩=>⟨x::p,f,i,.cons r1 r2,n⟩
def Gh (t:TA):TE:=λc H Q=>t c H λb a=>b.length<=sizeLine/\∀p,a p=J->Q (.ref p) (upd a p<|.tup b)
def II (t:TA):TE:=λc H Q=>t c H λb a=>b.length<=sizeLine/\∀p,a p=J->Q (.ref p) (upd a p<|.lst b)
theorem Cv {x1}(h:PA X es t):PE X (.Tuple es x1 pos) (Gh t):=by intro c s m H Q a j;refine wpAny_Tuple_spliced<|thn (h pos c s m H _ a j) λk d ⟨l,f,g,r,z,q⟩=>⟨by rw[<- r.length];exact z,?_⟩;have i:f d.heap.objs.size=none:=g.hok.fresh<|LM _;refine⟨.ref d.heap.objs.size,upd f d.heap.objs.size<|.tup l,g.laid (t':=d.toks) (λb u e=>Heap.get?_push_of_some _ e) (LM _) ?_,rfl,q _ i⟩;exact⟨z,k,r,⟨_,Heap.get?_push_size _ rfl,rfl,_,rfl⟩⟩
theorem El (h:PA X es t):PE X (.List es pos) (II t):=by intro c s m H Q a j;refine wpAny_List_spliced<|thn (h pos c s m H _ a j) λk d ⟨l,f,g,r,z,q⟩=>⟨by rw[<- r.length];exact z,?_⟩;have i:f d.heap.objs.size=none:=g.hok.fresh<|LM _;refine⟨.ref d.heap.objs.size,upd f d.heap.objs.size<|.lst l,g.laid (t':=d.toks) (λb u e=>Heap.get?_push_of_some _ e) (LM _) ?_,rfl,q _ i⟩;exact⟨z,k,0,r,Heap.get?_push_size _ rfl⟩
end
abbrev Sp:=U V->Hp->VK->XK->Prop
abbrev CXT:=U Env->Hp->Lx->XK->B->Lx->Prop
structure Env0 (P:Ro)(w:LA)(K:Ly)(mg:Str->L B)(base:Rx)(A:LS)(outer:U Env)(s:Lx)(H:Hp):Prop where
 frames:A.frames=Y outer
 mod:Mod K mg base
 bs:∀b o,base.get? b=Y o->s.heap.get? b=Y o/\H b=J
 bsz:base.objs.size<=s.heap.objs.size
 funs:s.heap.FunFrames base outer
 frf:∀b∈frs outer,H b=J
 hok:HOk P w H s.heap
 bare:M6 s.gens
def CE (a:U Env)(P:Ro)(w:LA)(H:Hp)(s:Lx)(Q:VK)(u:B)(b:Lx):Prop:=
 ∃v c,b.os=s.os/\M6 b.gens/\Un (frs a) [] H c s.heap b.heap/\HOk P w c b.heap/\RelV v u/\Q v c
def CR (c:CXT)(a:U Env)(P:Ro)(w:LA)(H:Hp)(s:Lx)(Q:VK)(E:XK)(r:R7)(b:Lx):Prop:=
 match r with
 |.ok (.ret u)=>CE a P w H s Q u b
 |.ok _=>RB
 |.error e=>c a H s E e b
structure dh (P:Ro)(w:LA)(K:Ly)(mg:Str->L B)(base:Rx)(CX:CXT)(k:O)(f:Rj)(fd:Mu)(ps:U Str)(sp:Sp):Prop where
 len:∀vs H Q E,sp vs H Q E->vs.length=ps.length
 run:∀(A:LS) (outer:U Env) (s:Lx) (H:Hp) (args:Args) (us:U B) (vs:U V) (Q:VK) (E:XK),Room k A->Env0 P w K mg base A outer s H->Ni s fd args (ps.zip us)->Vals vs us->sp vs H Q E ->
  MQ (LC P w) A (.call (.ref f) args) (CR CX outer P w H s Q E) s
theorem Env0.make {P:Ro}{w:LA}{K:Ly}{c:Str->L B}{b:Rx}{A:LS}{a:U Env}{s:Lx}{H:Hp}(e:Env0 P w K c b A a s H)(C:Rj)(d:U B)(kw:U<|Str×B):
  Env0 P w K c b (A.under<|.builtin "type.__call__" ⟨.ref C::d,kw⟩) a s H:=⟨by first|exact e.frames|(simpa[Around.under,Code.envs,Code.isFrame,pushEnvs] using e.frames),e.mod,e.bs,e.bsz,e.funs,e.frf,e.hok,e.bare⟩
section
variable {X:Cx}{pins:U (Rj×Obj)}{σ:St}{H:Hp}{s s':Lx}
theorem Inv.env0 (a:Inv X pins σ H s):Env0 X.prog X.w X.K X.mg X.base X.A X.stack s H:=
 ⟨a.ok.frames,a.ok.mod,a.bs,LL a.ok.bsz a.sz,a.stack,a.stkFree,a.hok,a.bare⟩
theorem Inv.after {Q:VK}{u:B}(a:Inv X pins σ H s)(h:CE X.stack X.prog X.w H s Q u s'):EP X pins σ Q u s':=by obtain⟨v,f,os,bare,un,c,r,q⟩:=h;obtain⟨i,g,d,t,e⟩:=s';obtain rfl:e=s.os:=os;exact⟨v,f,a.call (h':=i) (g':=g) (d':=d) (t':=t) (ch:=[]) un c bare λb z=>Rm z<|by simp,r,q⟩
end
def H8 (sp:Sp)(a:U V)(E:XK)(t:TA):TE:=λd H Q=>t d H λc b=>sp (c++a) b Q E
def Gb (C:Rj)(m:Str)(sp:Sp)(b:U V)(E:XK)(g:TE)(t:TA):TE:=λd H Q=>g d H λx c=>∃a f fs,x=.ref a/\c a=Y (.ins C f fs)/\fs.lookup m=J /\
 t d c λh e=>sp (x::(h++b)) e Q E
def Ig (C:Rj)(sp:Sp)(c:U V)(E:XK)(t:TA):TE:=λf H Q=>t f H λe b=>∀x a,b x=J->b a=J->a≠x ->
 sp (.ref x::(e++c)) (upd (upd b a<|.own x) x<|.ins C a []) (λv d=>v=.non/\Q (.ref x) d) E
def Binds (K:Ly)(b:Mu)(ps:U Str)(ds:U B):Prop:=
 ∀(s:Lx) (a:U B),K.In s.heap->(a++ds).length=ps.length->Ni s b ⟨a,[]⟩ (ps.zip<|a++ds)
theorem Binds.all {K:Ly}{b:Mu}{ps:U Str}(h:∀a:U B,a.length=ps.length->bindArgs b ⟨a,[]⟩=pure (ps.zip a)):Binds K b ps []:=λs a _ c=>by rw[LW] at c ⊢;exact .of_eq<|h a c
def fN (c:CXT)(X:Cx)(E:XK):Prop:=∀(a:U<|Rj×Obj) (d:St) (H:Hp) (s:Lx) (e:B) (b:Lx),Inv X a d H s->c X.stack H s E e b->X.xe e b
section
variable {X:Cx}{CX:CXT}{k:O}{f C:Rj}{fd:Mu}{ps:U Str}{sp:Sp}{dvs:U V}{ds:U B}{E:XK}{x m:Str}{p pos apos:Pos}{e o:Rv}{es:U Rv}{ta:TE}{t:TA}
theorem sD {b:U<|Rj×Obj}{d:St}{H:Hp}{s:Lx}{Q:VK}{us:U B}{vs:U V}(F:dh X.prog X.w X.K X.mg X.base CX k f fd ps sp)(j:Room k X.A)(g:Binds X.K fd ps ds)(hd:Vals dvs ds)(hx:fN CX X E)
  (a:Inv X b d H s) (r:Vals vs us) (h:sp (vs++dvs) H Q E):Rp (LC X.prog X.w) X.A (call (.ref f) us) (EP X b d Q) X.xe s:=by
 have r2:Vals (vs++dvs) (us++ds):=r.append hd;have i:(us++ds).length=ps.length:=by rw[<- r2.length];exact F.len _ _ _ _ h
 refine Om<|OJ (F.run X.A X.stack s H ⟨us,[]⟩ (us++ds) (vs++dvs) Q E j a.env0 (g s us a.kIn i) r2 h) λr l c=>?_;cases r with
 |error e=>exact hx b d H s e l a c
 |ok fl=>
  cases fl with
  |ret u=>exact a.after c
  |next=>exact MD c
  |brk=>exact MD c
  |cont=>exact MD c
theorem AA (F:dh X.prog X.w X.K X.mg X.base CX k f fd ps sp)(v:Room k X.A)(n:Gl X x)(u:X.mg x=Y (.ref f))(hk:Nu X.K (.ref f)=Lw)(j:Binds X.K fd ps ds)(hd:Vals dvs ds)(hx:fN CX X E)
  (i:PA X (e::es) t) (c:(x==("__debug__":Str))=false:=by decide) (l:Lz (e::es) X.env=(Lv,Rz e X.env)::Lz es X.env:=by rfl) (d:(LY pos<|Lz es X.env).any (·.1)=false:=by rfl):
  PE X (.Call (.Name x p) (e::es) [] pos) (H8 sp dvs E t):=by
 intro b s y H Q a h;refine N2<|jN a n u ?_ c;refine QW (h₀:=X.base) a.ok.mod.kin hk (thn (i pos b s y H _ a h) λG D ⟨M,z,g,r,q⟩=>⟨g.kIn,?_⟩) l d;exact sD F v j hd hx g r q
theorem vY {pl:Sem Rl}(v:PE X o ta)(c:Cls X.K C)(i:yK X.K C m f)(F:dh X.prog X.w X.K X.mg X.base CX k f fd ps sp)(y:Room k X.A)(r:Binds X.K fd ps ds)(hd:Vals dvs ds)(hx:fN CX X E)
  (z:Rz (.Call (.Attribute o m apos) [] [] pos) X.env=(do
   let ov <- Rz o X.env
   standAt apos.atName
   let (f,first) <- holding [ov] (R1 ov m pl)
   callWith pos f first (LY pos<|Lz [] X.env) (Nj pos<|Nm [] X.env)):=by rfl):
  PE X (.Call (.Attribute o m apos) [] [] pos) (Gb C m sp dvs E ta Bl):=by
 intro d s G H Q b h;refine PySem.W.methodCall_KW (pl:=pl) (thn (v d s G H _ b h) λu P ⟨x,M,g,D,a,N,fs,n,j,l,q⟩=>?_) z;subst n;obtain rfl:u=Value.ref a:=D;refine nQ g j c i l ?_;exact PySem.W.callWith_K0 (first:=[.ref a]) g.kIn i.kp<|sD (us:=[.ref a]) (vs:=[.ref a]) F y r hd hx g (.cons rfl .nil) q
structure Mk (K:Ly)(C f:Rj):Prop where
 makes:QC K C=Lw
 init:Mp K (.ref C) "__init__"=Y (Y (.ref f))
 fn:Pf K (.ref f)=Lw
 kp:Nu K (.ref C)=Lw
theorem uO {c:U<|Rj×Obj}{l:St}{H:Hp}{s:Lx}{Q:VK}{d:U B}{j:U V}(M:Mk X.K C f)(F:dh X.prog X.w X.K X.mg X.base CX k f fd ps sp)(P:Room (k+1) X.A)(G:Binds X.K fd ps ds)(hd:Vals dvs ds)
  (hx:fN CX X E) (a:Inv X c l H s) (r:Vals j d)
  (h:∀x i,H x=J->H i=J->i≠x->sp (.ref x::(j++dvs)) (upd (upd H i<|.own x) x<|.ins C i []) (λv z=>v=.non/\Q (.ref x) z) E):
  Rp (LC X.prog X.w) X.A (call (.ref C) d) (EP X c l Q) X.xe s:=by
 have n:=h (s.heap.objs.size+1) s.heap.objs.size (a.hok.fresh<|Nat.le_succ _) (a.hok.fresh<|LM _)<|L5<|OS _;have g:=Inv.made (C:=C) a;have r2:Vals (V.ref (s.heap.objs.size+1)::(j++dvs)) (Value.ref (s.heap.objs.size+1)::(d++ds)):=.cons rfl (r.append hd);have N:(Value.ref (s.heap.objs.size+1)::d++ds).length=ps.length:=by have e:=r2.length;rw[F.len _ _ _ _ n] at e;exact e.symm
 refine Om (sH (f:=f) a.kIn M.makes M.init (beq_iff_eq.mp M.fn) (OJ (F.run _ X.stack _ _ ⟨Value.ref (s.heap.objs.size+1)::d,[]⟩ (Value.ref (s.heap.objs.size+1)::(d++ds)) _ _ E (P.make C d [])
  (g.env0.make C d []) (G _ (Value.ref (s.heap.objs.size+1)::d) g.kIn N) r2 n) λr s' b=>?_))
 cases r with
 |error e=>exact hx c l _ _ e s' g b
 | ok fl =>
  cases fl with
  |ret u=>obtain⟨v,y,D,rv,ev,Z⟩:=g.after b;subst ev;exact⟨rv,⟨V.ref<|s.heap.objs.size+1,y,D,rfl,Z⟩⟩
  |next=>exact MD b
  |brk=>exact MD b
  |cont=>exact MD b
theorem yJ (M:Mk X.K C f)(F:dh X.prog X.w X.K X.mg X.base CX k f fd ps sp)(v:Room (k+1) X.A)(n:Gl X x)(u:X.mg x=Y (.ref C))(j:Binds X.K fd ps ds)(hd:Vals dvs ds)(hx:fN CX X E)
  (i:PA X (e::es) t) (c:(x==("__debug__":Str))=false:=by decide) (l:Lz (e::es) X.env=(Lv,Rz e X.env)::Lz es X.env:=by rfl) (d:(LY pos<|Lz es X.env).any (·.1)=false:=by rfl):
  PE X (.Call (.Name x p) (e::es) [] pos) (Ig C sp dvs E t):=by
 intro b s y H Q a h;refine N2<|jN a n u ?_ c;refine QW (h₀:=X.base) a.ok.mod.kin M.kp (thn (i pos b s y H _ a h) λG D ⟨N,z,g,r,q⟩=>⟨g.kIn,?_⟩) l d;exact uO M F v j hd hx g r q
end
structure af (N P:U Str)(sc:RF):Prop where
 kind:sc.kind=.function
 co:sc.isCoroutine=Lv
 gen:sc.isGenerator=Lv
 nd:N.Nodup
 pre:N.take P.length=P
 par:∀x∈P,sc.names.lookup x=Y .local\/sc.names.lookup x=Y .cell
 nofree:∀y∈sc.names,y.2≠.free
theorem jn {kindOf:Str->L NameKind}{x:Str}:∀{binds:U<|Str×B} {m:Str->L B},(∀v,(x,v) ∉ binds)->R8 kindOf binds m x=m x
|[],_,_=>rfl
| (n,v)::r,m,h=>by
 unfold R8;rw[jn λw a=>h w<|LO _ a];split
 .have:x≠n:=by rintro rfl; exact h v LI
  simp[this]
 .rfl
theorem jf {kindOf:Str->L NameKind}{x:Str}:∀{binds:U<|Str×B} {m:Str->L B},(∀v,(x,v) ∉ binds)->R9 kindOf binds m x=m x
|[],_,_=>rfl
| (n,v)::r,m,h=>by
 unfold R9;rw[jf λw a=>h w<|LO _ a];split
 .rfl
 .have:x≠n:=by rintro rfl; exact h v LI
  simp[this]
theorem i7 {kindOf:Str->L NameKind}{x:Str}{v:B}:∀{P:U Str} {a:U B} {i:O} {m:Str->L B},P.Nodup->P[i]?=Y x->a[i]?=Y v->kindOf x=Y .local ->
 R8 kindOf (P.zip a) m x=Y v
|[],_,_,_,_,h,_,_=>by simp at h
|_::_,[],_,_,_,_,h,_=>by simp at h
|p::P,w::a,0,m,d,b,c,hk=>by simp at b c;subst b;subst c;show R8 kindOf ((p,w)::P.zip a) m p=_;unfold R8;rw[jn λv e=>(N0.mp d).1 (Pz e).1,Rk hk];simp
|p::P,w::a,i+1,m,d,b,c,hk=>by show R8 kindOf ((p,w)::P.zip a) m x=_;unfold R8;exact i7 (i:=i) (N0.mp d).2 (by simpa using b) (by simpa using c) hk
theorem jk {kindOf:Str->L NameKind}{x:Str}{v:B}:∀{P:U Str} {a:U B} {i:O} {m:Str->L B},P.Nodup->P[i]?=Y x->a[i]?=Y v->kindOf x≠Y .local ->
 R9 kindOf (P.zip a) m x=Y v
|[],_,_,_,_,h,_,_=>by simp at h
|_::_,[],_,_,_,_,h,_=>by simp at h
|p::P,w::a,0,m,d,b,c,hk=>by simp at b c;subst b;subst c;show R9 kindOf ((p,w)::P.zip a) m p=_;unfold R9;rw[jf λv e=>(N0.mp d).1 (Pz e).1,Rn hk];simp
|p::P,w::a,i+1,m,d,b,c,hk=>by show R9 kindOf ((p,w)::P.zip a) m x=_;unfold R9;exact jk (i:=i) (N0.mp d).2 (by simpa using b) (by simpa using c) hk
noncomputable def start (N:U Str)(a:U V):St:=a.map Y++LU (N.length-a.length) J
def iT (g:CXT)(P:Ro)(w:LA)(K:Ly)(mg:Str->L B)(base:Rx)(N:U Str)(b:Str)(a:RF)(f:Rj)(d:B)(A:LS)(outer:U Env)(s:Lx)(H:Hp)(E:XK):Cx where
 prog:=P
 w:=w
 K:=K
 mg:=mg
 base:=base
 A:=A.deeper<|MC b a s.heap.objs.size f d
 N:=N
 s₀:=s
 H₀:=H
 env:=MC b a s.heap.objs.size f d
 outer:=outer
 stack:=MC b a s.heap.objs.size f d::outer
 ex:=[]
 calm:=Lw
 fn:=λ_=>Lw
 pn:=[]
 xe:=λe i=>Rp (LC P w) (A.deeper<|MC b a s.heap.objs.size f d) (leaving (MC b a s.heap.objs.size f d) e) (λ_ c=>g outer H s E e c) (λh c=>g outer H s E h c) i
theorem mC {a:RF}{n:O}{x:Str}(h:a.names.lookup x=Y .cell):∃c,(cellsFrom n a.names []).lookup x=Y c:=by have q:=QR a.names n []<|.inl h;exact QV.mp q
theorem qV {CX:CXT}{P:Ro}{w:LA}{K:Ly}{mg:Str->L B}{m:Rx}{N ps:U Str}{j:Str}{d:RF}{f:Rj}{M:B}{A:LS}{g:U Env}{s s1:Lx}{H:Hp}{E:XK}{us:U B}{F:U V}
  (S:af N ps d) (hd:A.handled=J) (o:Env0 P w K mg m A g s H) (hl:F.length=ps.length) (r:Vals F us)
  (x:InCallC s s.heap.objs.size (R8 (MC j d s.heap.objs.size f M).kindOf (ps.zip us) λ_=>J) (cellsFrom (s.heap.objs.size+1) d.names []) (R9 (MC j d s.heap.objs.size f M).kindOf (ps.zip us) λ_=>J) s1):
  Inv (iT CX P w K mg m N j d f M A g s H E) [] (start N F) H s1:=by
 have hpl:ps.length<=N.length:=by have:=Rw Me S.pre;rw[NS] at this;lia
 obtain⟨Q,tk,rfl,hk⟩:=x.done;have D:∀b:Rj,b ∉ (iT CX P w K mg m N j d f M A g s H E).ex:=λb z=>Rm (show b∈([]:U Rj) from z)<|by simp
 refine⟨⟨o.mod,S.kind,rfl,rfl,LM _,λy z c Q l=>?_,λy t=>?_,λy c _ h=>?_,λ_=>hd,Around.frames_deeper o.frames,.inr ⟨rfl,rfl⟩,λb z=>Rm z<|D b,o.bs,o.bsz,λb _ _=>D b,λb z=>Rm z<|D b,o.funs,o.frf⟩,
  rfl,o.bare,Un.kept hk,⟨_,x.toInCall.ns,λi y v Q l h3=>?_⟩,λy c h=>⟨_,x.cell y c h⟩,o.hok.fresh<|LM _,λy c h=>?_,λp hp=>Rm (show p∈([]:U<|Rj×Obj) from hp)<|by simp,o.hok.kept hk,?_⟩
 .exact name_of_addr x.apart (N7 Q) (N7 l)
 .have t:d.names.lookup y=Y .cell\/d.names.lookup y=Y .free:=t;rcases t with t|t
  .exact mC t
  .exact Rm rfl (S.nofree _<|N7 t)
 .exact OX (x.above y c<|N7 h)
 .have Z:i<F.length:=by
   unfold start at l;by_cases Z:i<F.length
   .exact Z
   .rw [Nc<|by simpa using Z] at l;rw[P0] at l;split at l<;>cases l
  have ha:F[i]?=Y v:=by
   unfold start at l;rw[Ob<|by simpa using Z,Mr] at l;cases e:F[i]? with
   |none=>rw[e] at l;cases l
   |some a=>rw[e] at l;cases l;rfl
  obtain⟨u,hu,rv⟩:=r.get ha;have hp:ps[i]?=Y y:=by rw[<- S.pre,List.getElem?_take_of_lt<|by lia];exact Q
  have G:ps.Nodup:=by rw[<- S.pre];exact S.nd.sublist<|List.take_sublist _ _
  refine⟨u,rv,?_⟩;rcases S.par y (NA hp) with k|k
  .exact .inl ⟨k,i7 G hp hu k⟩
  .obtain ⟨c,e⟩:=mC (n:=s.heap.objs.size+1) k;refine .inr ⟨.inl k,c,e,?_⟩;have q:=x.cell y c e;rw[jk G hp hu<|by show d.names.lookup y≠_;rw[k];decide] at q;exact q
 .exact o.hok.fresh (OX<|x.above y c<|N7 h)
 .unfold start;show _=N.length;rw[LH,LB,M4];lia
theorem Ip {CX:CXT}{P:Ro}{w:LA}{K:Ly}{mg:Str->L B}{j:Rx}{k:O}{f:Rj}{F h:Str}{l:Arguments}{m:U Ry}{d:RF}{dV kV doc pm i ct oc:B}{an od:L Rj}
  {osl:RD<|L B} {N ps:U Str} {sp:Sp} (lk:K.lookup f=Y ⟨oc,od,.func<|ME F h l m d dV kV doc pm an i ct,osl⟩) (hcd:OL K i h=Lw) (S:af N ps d)
  (len:∀p H Q E,sp p H Q E->p.length=ps.length)
  (G:∀ (A:LS) (g:U Env) (s:Lx) (H:Hp) (p:U V) (Q:VK) (E:XK),Room k (A.deeper (MC h d s.heap.objs.size f i))->sp p H Q E ->
   ∃t,PSs (iT CX P w K mg j N h d f i A g s H E) m t/\t {nx:=λ_ D=>Q .non D,rt:=Q} (start N p) H):
  dh P w K mg j CX (k+1) f (ME F h l m d dV kV doc pm an i ct) ps sp:=by
 refine⟨len,λA g s H args us p Q E hr e0 hb r hsp=>?_⟩;have hl:=len _ _ _ _ hsp;have KX:K.In s.heap:=e0.mod.kin.keeps λb o e=>(e0.bs b o e).1;have lim:s.heap.NoLimit:=e0.mod.nolimit.keeps λb o e=>(e0.bs b o e).1
 have M:∀y∈ps.zip us,d.names.lookup y.1=Y .local\/(d.names.lookup y.1=Y .cell/\((cellsFrom (s.heap.objs.size+1) d.names []).lookup y.1).isSome=Lw):=λ⟨n,v⟩ hy=>by
  rcases S.par n (Pz hy).1 with q|q
  .exact .inl q
  .exact .inr ⟨q,QR _ _ _<|.inl q⟩
 refine codeAny_call_function hr.depth (KX _ _ lk) rfl S.co S.gen rfl (PySem.W.codeRec_of KX hcd) (hb _ _ _ _ ?_);refine wpAny_newFunctionEnv_cells S.kind M λenv he s1 x=>?_;subst he;refine⟨lim.keeps x.toInCall.keep,codeAny_func ?_⟩;obtain⟨t,ht,hq⟩:=G A g s H p Q E (hr.deeper _) hsp;have a:Inv (iT CX P w K mg j N h d f i A g s H E) [] (start N p) H s1:=qV S hr.hd e0 hl r x;refine Mh (ht [] s1 (start N p) H _ a hq) (λfl s' Z=>?_) λe s' Z=>Z
 have fin:∀{z:St} {D:Hp} {v:V} {u:B},Inv (iT CX P w K mg j N h d f i A g s H E) [] z D s'->RelV v u->Q v D->CE g P w H s Q u s':=
  λ{z D v u} c rv q=>⟨v,D,c.os,c.bare,c.base,c.hok,rv,q⟩
 cases fl with
 |ret u=>obtain⟨v,z,D,c,rv,q⟩:=Z;exact fin c rv q
 |next=>obtain⟨z,D,c,q⟩:=Z;exact fin (v:=V.non) (u:=Value.none) c rfl q
 |brk=>obtain⟨_,_,_,q⟩:=Z;exact MD q
 |cont=>obtain⟨_,_,_,q⟩:=Z;exact MD q
section
variable {X:Cx}{x:Str}{p pos:Pos}{e:Rv}{es:U Rv}{t:TA}{id T:Rr}{r:U V->Hp->VK->Prop}
def tCB (r:U V->Hp->VK->Prop)(t:TA):TE:=λc H Q=>t c H λb a=>r b a Q
theorem ez (k:dN X (.builtin id) r)(m:Gl X x)(n:X.mg x=J)(u:Np x=Y (.builtin id))(j:PA X (e::es) t)(o:x≠"__name__":=by decide)(c:(x==("__debug__":Str))=false:=by decide)
  (l:Lz (e::es) X.env=(Lv,Rz e X.env)::Lz es X.env:=by rfl) (d:(LY pos<|Lz es X.env).any (·.1)=false:=by rfl):PE X (.Call (.Name x p) (e::es) [] pos) (tCB r t):=by
 intro b s f H Q a h;refine N2<|eB a m n u ?_ o c;exact QK (thn (j pos b s f H _ a h) λy w ⟨z,g,i,r1,v⟩=>k b w f g z y Q i r1 v) l d
theorem cI (k:dN X (.type T) r)(m:Gl X x)(n:X.mg x=J)(u:Np x=Y (.type T))(j:PA X (e::es) t)(o:x≠"__name__":=by decide)(c:(x==("__debug__":Str))=false:=by decide)
  (l:Lz (e::es) X.env=(Lv,Rz e X.env)::Lz es X.env:=by rfl) (d:(LY pos<|Lz es X.env).any (·.1)=false:=by rfl):PE X (.Call (.Name x p) (e::es) [] pos) (tCB r t):=by
 intro b s f H Q a h;refine N2<|eB a m n u ?_ o c;exact Oz (thn (j pos b s f H _ a h) λy w ⟨z,g,i,r1,v⟩=>k b w f g z y Q i r1 v) l d
end
end L2
namespace HT
open PySem PyProof.Rows
section
variable {prog:Ro}{w:LA}{A:LS}{E:B->Lx->Prop}{s:Lx}
theorem cat_tup {t b:Rj}{d a:U B}{Q:B->Lx->Prop}(z:RV s.heap t d.toArray)(y:RV s.heap b a.toArray)(p:d≠[])
  (v:a=[]->Q (.ref t) s) (x:a≠[]->Q (.ref s.heap.objs.size) {s with heap:=s.heap.push {cls:=.type "tuple",data:=.seq (d++a).toArray}})
  (k:d.length+a.length<=sizeLine):Rp (LC prog w) A (Mv .Add (.ref t)<|.ref b) Q E s:=by
 obtain⟨⟨cls,m,data,u⟩,ho,o,n,hd⟩:=id z;obtain⟨⟨l,f,data2,i⟩,c,g,r,h⟩:=id y;simp only at o hd g h;subst o hd g h;have e:d.toArray++a.toArray=(d++a).toArray:=by simp
 by_cases j:a=[]
 .exact RX ⟨_,ho,rfl⟩ ⟨_,c,rfl⟩ O9 RR PV PZ (P1 _ _)
   (tuple_addW1 t b d.toArray a.toArray n r m f u i (by simpa using p)<|by simp[j]) ⟨ho,c,v j⟩
 .refine RX ⟨_,ho,rfl⟩ ⟨_,c,rfl⟩ O9 RR PV PZ (P1 _ _)
   (tuple_addW2 t b d.toArray a.toArray n r m f u i (by simpa using p) (by simpa using j)<|by rw[LZ,LZ];exact k) ⟨ho,c,?_⟩
  rw[e];exact x j
def sIx (n d:O):L I->O
|none=>d
|some v=>if v<0 then(v+(n:I)).toNat else min v.toNat n
theorem D1 (n d:O)(hd:d<=n)(o:L I):sIx n d o<=n:=by
 cases o with
 |none=>exact hd
 |some v=>
  show(if v<0 then(v+(n:I)).toNat else min v.toNat n)<=n;by_cases a:v<0
  .rw[Rk a];lia
  .rw[Rn a];exact Nat.min_le_right _ _
theorem pC (v:I)(n d:O):(if v<0 then max (v+(n:I)) 0 else min v (n:I))=((sIx n d (Y v):O):I):=by
 show(if v<0 then max (v+(n:I)) 0 else min v (n:I))=(((if v<0 then(v+(n:I)).toNat else min v.toNat n):O):I);by_cases a:v<0
 .simp only[Rk a];lia
 .simp only[Rn a];lia
theorem mZ (lo a:L I)(n:O):Builtin.Slice.sliceAdjust lo a 1 (n:I)=(((sIx n 0 lo:O):I),((sIx n n a:O):I)):=by
 have b:¬((1:I)<0):=by lia
 unfold Builtin.Slice.sliceAdjust;simp only[b,if_false];refine Prod.ext ?_ ?_
 .cases lo with
  |none=>rfl
  |some v=>exact pC v n 0
 .cases a with
  |none=>rfl
  |some v=>exact pC v n n
theorem nH (i j:O):Builtin.Slice.slicePlaces (i:I) (j:I) 1=j-i:=by
 unfold Builtin.Slice.slicePlaces;have a:(1:I)>0:=by lia
 simp only[a,RH,Int.ediv_one];split<;>lia
theorem iA {v:B}{o:L I}{Q:L I->Lx->Prop}(p:MX v o)(h:Q o s):Rp (LC prog w) A (Builtin.Slice.slicePartIndex v) Q E s:=by
 cases p with
 |none=>exact slicePart_none h
 |int i t=>exact slicePart_int h
theorem sliceApplied_gen {f:Rj}{d e:B}{lo b:L I}{n:O}{Q:I×I×O->Lx->Prop}(i:s.heap.IsSliceOf f d e .none)(j:MX d lo)(k:MX e b)
  (h:Q (((sIx n 0 lo:O):I),1,sIx n n b-sIx n 0 lo) s):Rp (LC prog w) A (Builtin.Slice.sliceApplied (.ref f)<|pure (n:I)) Q E s:=by
 obtain⟨os,c,g,a⟩:=id i;unfold Builtin.Slice.sliceApplied Builtin.Slice.sliceFields;refine LD<|LD<|NM c a (x:=d) rfl (LD<|NM c a (x:=e) rfl (LD<|NM c a (x:=.none) rfl (LN ?_)));refine LD<|slicePart_none ?_;show Rp _ _ (if((1:I)==0)=Lw then _ else _) _ _ s;rw[Rn<|by decide];refine LD<|iA j<|LD<|iA k<|LD<|LN ?_;show Rp _ _ (match Builtin.Slice.sliceAdjust lo b 1 (n:I) with|(lo,b)=>pure (lo,(1:I),Builtin.Slice.slicePlaces lo b 1)) _ _ s;rw[mZ lo b n];show Rp _ _ (pure (((sIx n 0 lo:O):I),(1:I),Builtin.Slice.slicePlaces ((sIx n 0 lo:O):I) ((sIx n n b:O):I) 1)) _ _ s;rw[nH];exact LN h
theorem uI (a:RD B)(i k:O):((L4 k).filterMap λ(m:O)=>a[((i:I)+(m:I) * 1).toNat]?).toArray=((a.toList.drop i).take k).toArray:=by
 have e:(λ(m:O)=>a[((i:I)+(m:I) * 1).toNat]?)=λm=>a[i+m]?:=by
  funext m;have:((i:I)+(m:I) * 1).toNat=i+m:=by lia
  rw[this]
 rw[e];have:=pick_run a i k;rw[List.filterMap_map] at this;have e2:((λx=>a[x]?) ∘ λx=>i+x)=λm=>a[i+m]?:=rfl;rw[e2] at this;rw[this]
theorem getItem_tuple_cut {t j:Rj}{a:RD B}{l n:B}{lo c:L I}{Q:B->Lx->Prop}(d:RV s.heap t a)(k:s.heap.IsSliceOf j l n .none)(u:MX l lo)(v:MX n c)
  (r:¬(sIx a.size 0 lo=0/\sIx a.size a.size c=a.size))
  (h:Q (.ref s.heap.objs.size) {s with heap:=s.heap.push {cls:=.type "tuple",data:=.seq ((a.toList.drop<|sIx a.size 0 lo).take<|sIx a.size a.size c-sIx a.size 0 lo).toArray}})
  (p:a.size<=sizeLine):Rp (LC prog w) A (NO (.ref t)<|.ref j) Q E s:=by
 have b:sizeOk (.seq ((a.toList.drop (sIx a.size 0 lo)).take (sIx a.size a.size c-sIx a.size 0 lo)).toArray):=by show((a.toList.drop<|sIx a.size 0 lo).take<|sIx a.size a.size c-sIx a.size 0 lo).toArray.size<=sizeLine;rw[LZ,NS,NR,Mn];lia
 have x:sIx a.size a.size c<=a.size:=D1 _ _ (LM _) c;obtain⟨os,i,f,o⟩:=id k;have e:s.TypeIs (.ref j) "slice":=⟨os,i,f⟩;unfold NO
 try with_reducible refine N3 ?_
 first|refine LD (LN ?_)|skip
 refine LD<|wpAny_sequenceKey d.typeIs (by decide) ?_
 refine LD (Oc (name:=Str.ofString "__getitem__") d.typeIs Oa
  (OI Oa d.typeIs entry_tuple_getitem ?_<|args_tuple_getitem _ _))
 show Rp _ _ (Builtin.Tuple.tupleItemsOf (.ref t) >>= _) _ _ s;refine LD<|tupleItemsOf_ d ?_;refine LD<|RY e ?_;rw[Rk<|by decide];refine LD<|sliceApplied_gen k u v ?_;have g:¬((((sIx a.size 0 lo:O):I)==0&&(1:I)==1&&(sIx a.size a.size c-sIx a.size 0 lo)==a.size)=Lw):=by intro q;rw[LQ,LQ] at q;have y:((sIx a.size 0 lo:O):I)=0:=eq_of_beq q.1.1;have z:sIx a.size a.size c-sIx a.size 0 lo=a.size:=eq_of_beq q.2;exact r ⟨by lia,by lia⟩
 show Rp _ _ (if(((sIx a.size 0 lo:O):I)==0&&(1:I)==1&&(sIx a.size a.size c-sIx a.size 0 lo)==a.size)=Lw then _ else _) _ _ s;rw[Rn g,uI]
 first
  |exact LD (m:=Builtin.Tuple.tupleExact _)<|NG (LN ⟨_,rfl,LN h⟩) b
  |exact LD (m:=Builtin.Tuple.tupleExact _)<|NG (LD<|LN<|LN ⟨_,rfl,LN h⟩) b
  |exact LD<|LD (m:=Builtin.Tuple.tupleExact _)<|NG (LN<|LN ⟨_,rfl,LN h⟩) b
  |exact LD<|LD (m:=Builtin.Tuple.tupleExact _)<|NG (LN ⟨_,rfl,LN h⟩) b
end
end HT
namespace L2
open PySem PySem.Spec PyProof.Rows
abbrev TO:=St->Hp->(L I->Hp->Prop)->Prop
def PO (X:Cx)(e:L Rv)(t:TO):Prop:=
 ∀(a:U<|Rj×Obj) (s:Lx) (b:St) (H:Hp) (Q:L I->Hp->Prop),Inv X a b H s->t b H Q ->
  Rp (LC X.prog X.w) X.A (evalPart e X.env) (λu d=>∃o c,Inv X a b c d/\MX u o/\Q o c) X.xe s
def zT:TO:=λ_ H Q=>Q J H
noncomputable def Jf (t:TE):TO:=λb H Q=>t b H λx a=>∃i,x=.int i/\Q (Y i) a
section
variable {X:Cx}{e:Rv}{te:TE}{lo hi:L Rv}{tl th:TO}{pos p2:Pos}
theorem oY:PO X J zT:=by intro b s c H Q a h;rw[evalPart_none];exact LN ⟨J,H,a,.none,h⟩
theorem pH (h:PE X e te):PO X (Y e) (Jf te):=by intro b s j H Q a f;rw[evalPart_some];refine thn (h b s j H _ a f) λu k ⟨x,c,d,r1,g⟩=>?_;obtain⟨i,rfl,q⟩:=g;obtain⟨t,rfl⟩:=r1;exact⟨Y i,c,d,.int i t,q⟩
def SlR (X:Cx)(r:V->L I->L I->Hp->VK->Prop):Prop:=
 ∀(a:U<|Rj×Obj) (s:Lx) (f:St) (H:Hp) (x:V) (v c d:B) (lo hi:L I) (b:Rj) (Q:VK),Inv X a f H s->RelV x v->s.heap.IsSliceOf b c d .none->MX c lo->MX d hi->r x lo hi H Q ->
  ∃T id,typeLookup (.type T) "__getitem__"=pure (Y<|.builtin id)/\s.TypeIs v T/\Rp (LC X.prog X.w) X.A (NO v<|.ref b) (EP X a f Q) X.xe s
theorem SlR.or {r g:V->L I->L I->Hp->VK->Prop}(h:SlR X r)(n:SlR X g):SlR X (λx lo hi H Q=>r x lo hi H Q\/g x lo hi H Q):=by
 intro b s m H x v k l lo hi j Q a i c d f q;rcases q with q|q
 .exact h b s m H x v k l lo hi j Q a i c d f q
 .exact n b s m H x v k l lo hi j Q a i c d f q
def tSl (r:V->L I->L I->Hp->VK->Prop)(te:TE)(tl th:TO):TE:=λa H Q=>te a H λx b=>tl a b λl c=>th a c λu d=>r x l u d Q
theorem mE {r:V->L I->L I->Hp->VK->Prop}(D:SlR X r)(t:PE X e te)(z:PO X lo tl)(G:PO X hi th):PE X (.Subscript e (.Slice lo hi J p2) pos) (tSl r te tl th):=by intro c s d H Q a h;refine Subscript_<|thn (t c s d H _ a h) λv s1 ⟨x,j,m,r1,P⟩=>?_;refine wpAny_Slice<|thn (z c s1 d j _ m P) λf s2 ⟨l,k,n,M,Z⟩=>thn (G c s2 d k _ n Z) λg s3 ⟨u,i,o,N,q3⟩=>?_;rw[evalPart_none];refine LN ?_;have p:Inv X c d i {s3 with heap:=s3.heap.push {cls:=.type "slice",data:=.fields #[f,g,.none]}}:=o.kept (t':=s3.toks) λb ob q=>Heap.get?_push_of_some _ q;obtain⟨T,id,hT,F,y⟩:=D c {s3 with heap:=s3.heap.push {cls:=.type "slice",data:=.fields #[f,g,.none]}} d i x v f g l u s3.heap.objs.size Q p r1 (Heap.IsSliceOf.new ..) M N q3;show Rp (LC X.prog X.w) X.A (subscriptTail e (.Slice lo hi J p2) v<|.ref s3.heap.objs.size) (EP X c d Q) X.xe {s3 with heap:=s3.heap.push {cls:=.type "slice",data:=.fields #[f,g,.none]}};exact tail_any (ops:=[.ref s3.heap.objs.size,v]) F hT y<|by with_unfolding_all rfl
def fG (a:U V)(lo hi:L I):U V:=(a.drop<|HT.sIx a.length 0 lo).take<|HT.sIx a.length a.length hi-HT.sIx a.length 0 lo
theorem c8 (a:U V)(lo hi:L I):(fG a lo hi).length<=a.length:=by unfold fG;rw[NS,NR];lia
def KY (K:Ly):V->L I->L I->Hp->VK->Prop:=λx lo hi H Q=>∃a b,x=.ref a/\SqT K H a b /\
 ¬(HT.sIx b.length 0 lo=0/\HT.sIx b.length b.length hi=b.length)/\∀p,H p=J->Q (.ref p) (upd H p<|.tup<|fG b lo hi)
theorem FI:SlR X (KY X.K):=by
 intro k s A H x v y z lo hi w Q c t l n p h;obtain⟨a,f,rfl,hx,m,q⟩:=h;cases t;obtain⟨g,r,i,j⟩:=c.tuple hx;have d:g.toArray.size=f.length:=by rw[LZ];exact r.length.symm
 refine⟨"tuple",_,Oa.lookup,i.typeIs,?_⟩;refine HT.getItem_tuple_cut i l n p (by rw[d];exact m) ?_ (by rw[d];exact j);rw[d];refine⟨.ref s.heap.objs.size,_,c.laid (t':=s.toks) (o:=.tup<|fG f lo hi) (λb u q=>Heap.get?_push_of_some _ q) (LM _) ?_,rfl,q _<|c.hok.fresh<|LM _⟩;exact⟨LL (c8 f lo hi) j,_,(r.drop<|HT.sIx f.length 0 lo).take<|HT.sIx f.length f.length hi-HT.sIx f.length 0 lo,IsTup.new _ _⟩
def G6 (K:Ly):R2:=λx y H Q=>∃a b d c,x=.ref a/\y=.ref b/\SqT K H a d/\SqT K H b c/\d≠[]/\d.length+c.length<=sizeLine /\
 (c=[]->Q (.ref a) H)/\(c≠[]->∀p,H p=J->Q (.ref p) (upd H p<|.tup<|d++c))
theorem Vals.nil_iff {b:U V}{a:U B}(r:Vals b a):a=[] ↔ b=[]:=by
 cases r with
 |nil=>simp
 |cons _ _=>simp
theorem Ad:OpR X (Mv .Add) (G6 X.K):=by intro g s F H x y v u Q c p r h;obtain⟨a,b,t,A,rfl,rfl,i,j,hx,d,m,n⟩:=h;cases p;cases r;obtain⟨k,r1,l,_⟩:=c.tuple i;obtain⟨f,r2,p2,_⟩:=c.tuple j;refine HT.cat_tup l p2 (λz=>hx<|r1.nil_iff.mp z) (λz=>⟨.ref a,H,c,rfl,m<|r2.nil_iff.mp z⟩) (λz=>?_) (by rw[<- r1.length,<- r2.length];exact d);refine⟨.ref s.heap.objs.size,_,c.laid (t':=s.toks) (o:=.tup<|t++A) (λb D q=>Heap.get?_push_of_some _ q) (LM _) ?_,rfl,n (λw=>z<|r2.nil_iff.mpr w) _<|c.hok.fresh<|LM _⟩;exact⟨by rw[LH];exact d,_,r1.append r2,IsTup.new _ _⟩
end
def ixN (n:O)(i:I):L O:=if 0<=i then(if i<n then Y i.toNat else J) else if -(n:I)<=i then Y (i+n).toNat else J
def atI {b:Type}(a:U b)(i:I):L b:=(ixN a.length i).bind λj=>a[j]?
theorem y6 {n:O}{i:I}{j:O}(h:ixN n i=Y j):seqIndex? i n=Y j/\j<n/\-(n:I)<=i/\i<n:=by
 unfold ixN at h;by_cases b:0<=i
 .rw [Rk b] at h;by_cases a:i<n
  .rw [Rk a] at h;have e:i.toNat=j:=Mf h;exact⟨by rw[seqIndex_of b a,e],by lia,by lia,a⟩
  .rw[Rn a] at h;cases h
 .rw [Rn b] at h;by_cases a:-(n:I)<=i
  .rw [Rk a] at h;have e:(i+n).toNat=j:=Mf h;exact⟨by rw[seqIndex_neg (by lia) a,e],by lia,a,by lia⟩
  .rw[Rn a] at h;cases h
theorem jQ {b:Type}{a:U b}{i:I}{v:b}(h:atI a i=Y v):∃j,seqIndex? i a.length=Y j/\a[j]?=Y v/\j<a.length/\-(a.length:I)<=i/\i<a.length:=by
 unfold atI at h;cases e:ixN a.length i with
 |none=>rw[e] at h;cases h
 |some j=>rw[e] at h;obtain⟨c,d,f,g⟩:=y6 e;exact⟨j,c,h,d,f,g⟩
def gC (b:Rv):Prop:=∀o i,subscripted b Lv o i=operate [o,i] (NO o i)
def IxR (X:Cx)(r:R2):Prop:=
 ∀(c a:Rv) (b:U<|Rj×Obj) (s:Lx) (d:St) (H:Hp) (x y:V) (v u:B) (Q:VK),Inv X b d H s->RelV x v->RelV y u->r x y H Q ->
  subscripted a Lv v u=operate [v,u] (NO v u)->Rp (LC X.prog X.w) X.A (subscriptTail c a v u) (EP X b d Q) X.xe s
def MtR (X:Cx)(id:Rr)(r:V->U V->Hp->VK->Prop):Prop:=
 ∀(a:U<|Rj×Obj) (s:Lx) (d:St) (H:Hp) (x:V) (c:U V) (v:B) (b:U B) (Q:VK),Inv X a d H s->RelV x v->Vals c b->r x c H Q ->
  Rp (LC X.prog X.w) X.A (call (.builtin id) (v::b)) (EP X a d Q) X.xe s
section
variable {X:Cx}{a b:Rv}{ta tb:TE}{pos:Pos}
theorem IxR.or {r i:R2}(h:IxR X r)(m:IxR X i):IxR X (λx y H Q=>r x y H Q\/i x y H Q):=by
 intro e d f s l H x y v u Q c j k q g;rcases q with q|q
 .exact h e d f s l H x y v u Q c j k q g
 .exact m e d f s l H x y v u Q c j k q g
theorem BI {r:R2}(j:IxR X r)(g:PE X a ta)(i:PE X b tb)(k:gC b):PE X (.Subscript a b pos) (tOp r ta tb):=by intro d s n H Q c h;exact Subscript_<|Dc g i c h λv u s2 x y e f l m q=>j a b d s2 n e x y v u Q f l m q<|k _ _
def J4 (K:Ly):R2:=λx y H Q=>∃p c i v,x=.ref p/\y=.int i/\SqL K H p c/\atI c i=Y v/\Q v H
def J7 (K:Ly):R2:=λx y H Q=>∃p c i v,x=.ref p/\y=.int i/\SqT K H p c/\atI c i=Y v/\Q v H
noncomputable def Lq:R2:=λx y H Q=>∃z i c,x=.str z/\y=.int i/\z.length<=sizeLine/\atI z.cps.toList i=Y c/\Q (.str ⟨#[c]⟩) H
theorem Ac:IxR X (J4 X.K):=by
 intro o n d s G H x y v u Q c rx ry h F;obtain⟨p,xs,i,z,rfl,rfl,hq,Z,q⟩:=h;cases rx;obtain⟨t,rfl⟩:=ry;obtain⟨k,r,l,hz⟩:=c.list hq;obtain⟨j,f,M,h3,N,P⟩:=jQ Z;obtain⟨w,A,m⟩:=r.get M;have hl:=r.length;have hn:=gS;have e:EP X d G Q w s:=⟨z,H,c,m,q⟩;by_cases D:0<=i
 .have g:i.toNat=j:=by rw[seqIndex_of D P] at f;exact Mf f
  exact item_listR l.isList D (by lia) (by rw[g];simpa using A) e F
 .have g:(i+(k.toArray.size:I)).toNat=j:=by rw[seqIndex_neg (by lia) N] at f;rw[LZ,<- hl];exact Mf f
  exact RL (x:=w) l.isList.typeIs slot_list_getitem.lookup
   (wpAny_getItem_list_neg (Q:=λr s'=>r=w/\EP X d G Q r s') l.isList (by lia) (by rw[LZ]<;>lia) (by lia) (by rw[g];simpa using A) ⟨rfl,e⟩) F
theorem Fq:IxR X (J7 X.K):=by
 intro k g d s m H x y v u Q c P Z h M;obtain⟨p,xs,i,z,rfl,rfl,G,D,q⟩:=h;cases P;obtain⟨t,rfl⟩:=Z;obtain⟨N,r,l,hz⟩:=c.tuple G;obtain⟨j,o,A,h3,h4,h5⟩:=jQ D;obtain⟨w,n,f⟩:=r.get A;have F:=r.length;have hn:=gS;have e:EP X d m Q w s:=⟨z,H,c,f,q⟩
 exact RL (x:=w) l.typeIs slot_tuple_getitem.lookup
  (getItem_tuple (j:=j) (Q:=λr s'=>r=w/\EP X d m Q r s') l (by lia) (by lia) (by rw[LZ,<- F];exact o) (by simpa using n) ⟨rfl,e⟩) M
theorem ES:IxR X Lq:=by
 intro f e k s N H x y v u Q d w A h r;obtain⟨z,i,c,rfl,rfl,G,o,q⟩:=h;obtain⟨t,rfl⟩:=w;obtain⟨M,rfl⟩:=A;obtain⟨j,g,l,D,m,n⟩:=jQ o;have p:z.cps.toList.length=z.length:=by simp[Str.length]
 rw[p] at g m n;have F:=gS
 exact tail_any (Ol s z t) slot_str_getitem.lookup (getItem_str (c:=c) (by
  have e1:decide (i < -(2 ^ 63:I))=false:=Rt (by lia);have e2:decide (i >= 2 ^ 63)=false:=Rt (by lia);rw[e1,e2,Qs]) (by rw[g];simpa using l) ⟨.str ⟨#[c]⟩,H,d.tok _,⟨_,rfl⟩,q⟩) r
theorem kl (lo c:L I)(n:O):(NK lo c J n).1=((HT.sIx n 0 lo:O):I)/\(NK lo c J n).2.1=((HT.sIx n n c:O):I)/\(NK lo c J n).2.2=1:=by
 refine⟨?_,?_,rfl⟩
 .cases lo with
  |none=>simp[NK,HT.sIx]
  |some i=>
   simp only[NK,HT.sIx,P9,show(1:I)>0 by decide,RH];by_cases h:i<0
   .simp only[h,RH]<;>lia
   .simp only[h,if_false]<;>lia
 .cases c with
  |none=>simp[NK,HT.sIx]
  |some i=>
   simp only[NK,HT.sIx,P9,show(1:I)>0 by decide,RH];by_cases h:i<0
   .simp only[h,RH]<;>lia
   .simp only[h,if_false]<;>lia
theorem iY (c:U B)(lo d:L I):slicePick c.toArray lo d J=((c.drop<|HT.sIx c.length 0 lo).take<|HT.sIx c.length c.length d-HT.sIx c.length 0 lo).toArray:=by obtain⟨e,f,g⟩:=kl lo d c.toArray.size;unfold slicePick;rw[e,f,g];simp only[sliceRange_one,pick_run,LZ]<;>rfl
def y0 (K:Ly):V->L I->L I->Hp->VK->Prop:=λx lo d H Q=>∃a c,x=.ref a/\SqL K H a c/\∀p,H p=J->Q (.ref p) (upd H p<|.lst<|fG c lo d)
theorem sl_list:SlR X (y0 X.K):=by intro i s z H x v w y lo f u Q c p j m n h;obtain⟨a,d,rfl,hx,q⟩:=h;cases p;obtain⟨l,r,g,k⟩:=c.list hx;have e:=r.length;refine⟨"list",_,slot_list_getitem.lookup,g.isList.typeIs,?_⟩;refine wpAny_getItem_list_slice g.isList j m n .none (by simp) ?_ (by rw[LZ]<;>lia);rw[iY,<- e];refine⟨.ref s.heap.objs.size,_,c.laid (t':=s.toks) (o:=.lst<|fG d lo f) (λb t q=>Heap.get?_push_of_some _ q) (LM _) ?_,rfl,q _<|c.hok.fresh<|LM _⟩;exact⟨LL (c8 d lo f) k,_,0,(r.drop<|HT.sIx d.length 0 lo).take<|HT.sIx d.length d.length f-HT.sIx d.length 0 lo,Heap.get?_push_size _ rfl⟩
noncomputable def eJ:V->Rl
|.non=>Lw
|.bl _=>Lw
|.int _=>Lw
|.str _=>Lw
|_=>Lv
noncomputable def eqV:V->V->Rl
|.non,.non=>Lw
|.bl a,.bl b=>a==b
|.bl a,.int b=>(if a then 1 else 0)==b
|.int a,.bl b=>a==(if b then 1 else 0)
|.int a,.int b=>a==b
|.str a,.str b=>a==b
|_,_=>Lv
theorem DT {A:LS}{s:Lx}{y x:V}{u v:B}(f:RelV y u)(c:RelV x v)(g:eJ y=Lw)(e:eJ x=Lw):SeqAt.EqAt A s u v (eqV y x):=by
 cases y with
 |non=>
  cases f;cases x with
  |non=>cases c;exact SeqAt.EqAt.same _
  |bl b=>cases c;exact SeqAt.EqAt.none_bool b
  |int b=>obtain⟨t,rfl⟩:=c;exact SeqAt.EqAt.none_int b t
  |str b=>obtain⟨t,rfl⟩:=c;exact SeqAt.EqAt.none_str b t
  |_=>exact Rm (show Lv=Lw from e) LX
 |bl a=>
  cases f;cases x with
  |non=>cases c;exact SeqAt.EqAt.bool_none a
  |bl b=>cases c;exact SeqAt.EqAt.bool_bool a b
  |int b=>obtain⟨t,rfl⟩:=c;exact SeqAt.EqAt.bool_int a b t
  |str b=>obtain⟨t,rfl⟩:=c;exact SeqAt.EqAt.bool_str a b t
  |_=>exact Rm (show Lv=Lw from e) LX
 |int a=>
  obtain⟨d,rfl⟩:=f;cases x with
  |non=>cases c;exact SeqAt.EqAt.int_none a d
  |bl b=>cases c;exact SeqAt.EqAt.int_bool a d b
  |int b=>obtain⟨t,rfl⟩:=c;exact SeqAt.EqAt.int_int a d b t
  |str b=>obtain⟨t,rfl⟩:=c;exact SeqAt.EqAt.int_str a d b t
  |_=>exact Rm (show Lv=Lw from e) LX
 |str a=>
  obtain⟨d,rfl⟩:=f;cases x with
  |non=>cases c;exact SeqAt.EqAt.str_none a d
  |bl b=>cases c;exact SeqAt.EqAt.str_bool a d b
  |int b=>obtain⟨t,rfl⟩:=c;exact SeqAt.EqAt.str_int a d b t
  |str b=>obtain⟨t,rfl⟩:=c;exact SeqAt.EqAt.str_str a d b t
  |_=>exact Rm (show Lv=Lw from e) LX
 |_=>exact Rm (show Lv=Lw from g) LX
def eqU (x:V)(u:B):Rl:=match u with
|.none=>eqV .non x
|.bool b=>eqV (.bl b) x
|.int i _=>eqV (.int i) x
|.str z _=>eqV (.str z) x
|_=>Lv
theorem sk {x y:V}{u:B}(r:RelV y u)(f:eJ y=Lw):eqU x u=eqV y x:=by
 cases y with
 |non=>cases r;rfl
 |bl b=>cases r;rfl
 |int i=>obtain⟨t,rfl⟩:=r;rfl
 |str z=>obtain⟨t,rfl⟩:=r;rfl
 |_=>exact Rm (show Lv=Lw from f) LX
theorem kv {x:V}:∀{c:U V} {d:U B},Vals c d->c.all eJ=Lw->d.any (eqU x)=c.any λy=>eqV y x
|_,_,.nil,_=>rfl
|y::c,u::d,.cons r t,f=>by rw[NW,LQ] at f;rw[OY,OY,sk r f.1,kv t f.2]
theorem iC {A:LS}{s:Lx}{x:V}{v:B}(h:RelV x v)(g:eJ x=Lw):∀{e:U V} {d:U B},Vals e d->e.all eJ=Lw->∀u∈d,SeqAt.EqAt A s u v<|eqU x u
|_,_,.nil,_=>λu c=>by cases c
|y::e,u::d,.cons r t,f=>λi c=>by
 rw[NW,LQ] at f;rcases LK.mp c with rfl|c
 .rw[sk r f.1];exact DT r h f.1 g
 .exact iC h g t f.2 i c
def inV (x:V)(c:U V):Rl:=c.any λy=>eqV y x
def rIn (K:Ly)(d:Rl):R2:=λx y H Q=>∃p c,y=.ref p/\(SqL K H p c\/SqT K H p c)/\eJ x=Lw/\c.all eJ=Lw/\Q (.bl<|if d then !inV x c else inV x c) H
theorem jq:OpR X (Mg .In) (rIn X.K Lv):=by
 intro j s o H x y v u Q c k m h;obtain⟨p,n,rfl,e,i,fs,q⟩:=h;cases m;rcases e with e|e
 .obtain ⟨d,r,g,l⟩:=c.list e;refine SeqAt.in_listAt (eqU x) g.isList (λw f=>iC k i r fs w<|by simpa using f) ⟨.bl _,H,c,rfl,?_⟩;rw[show d.toArray.any (eqU x)=d.any (eqU x) by simp,kv r fs];exact q
 .obtain ⟨d,r,g,l⟩:=c.tuple e;refine SeqAt.in_tupleAt (eqU x) g (λw f=>iC k i r fs w<|by simpa using f) ⟨.bl _,H,c,rfl,?_⟩;rw[show d.toArray.any (eqU x)=d.any (eqU x) by simp,kv r fs];exact q
theorem j9:dN X (.type "list") (λF H Q=>∃p j,F=[.ref p]/\(SqL X.K H p j\/SqT X.K H p j)/\∀l,H l=J->Q (.ref l) (upd H l<|.lst j)):=by
 intro y s M H F N Q c r h;obtain⟨p,j,rfl,t,q⟩:=h;obtain⟨u,rfl,G⟩:=dQ r;cases G
 have k:∀(d:U B),Vals j d->j.length<=sizeLine->∀(f:Rx) (g:O),(∀b D,s.heap.get? b=Y D->f.get? b=Y D) ->
   f.get? s.heap.objs.size=Y {cls:=.type "list",dict:=J,data:=.seq d.toArray g,slots:=#[]}->EP X y M Q (.ref s.heap.objs.size) {s with heap:=f}:=λd i v f g x e=>
  ⟨.ref s.heap.objs.size,_,c.laid (t':=s.toks) x (LM _)<|show ObjOk X.prog X.w _ f _ (.lst j) from⟨v,d,g,i,e⟩,rfl,q _<|c.hok.fresh<|LM _⟩
 rcases t with t|t
 .obtain ⟨d,i,A,v⟩:=c.list t;have m:=i.length;obtain⟨o,ho,z,n,hd⟩:=A.isList;exact call_list_seq p (.inl rfl) ho z hd (λf g x e=>k d i v f g x e)<|by simp only[LZ]<;>lia
 .obtain ⟨d,i,A,v⟩:=c.tuple t;have m:=i.length;obtain⟨o,ho,z,n,hd⟩:=A;exact call_list_seq p (.inr rfl) ho z hd (λf g x e=>k d i v f g x e)<|by simp only[LZ]<;>lia
theorem i4:dN X (.type "tuple") (λx H Q=>∃p g,x=[.ref p]/\((SqL X.K H p g/\∀l,H l=J->Q (.ref l) (upd H l<|.tup g))\/(SqT X.K H p g/\Q (.ref p) H))):=by
 intro d s y H x F Q c r h;obtain⟨p,g,rfl,h⟩:=h;obtain⟨u,rfl,D⟩:=dQ r;cases D;rcases h with⟨j,q⟩|⟨j,q⟩
 .obtain ⟨f,m,k,v⟩:=c.list j;have t:=m.length;refine call_tuple_list k.isList (λi A=>?_) (by simp only[LZ]<;>lia);have n:Inv X d y H {s with heap:=i}:=c.kept (t':=s.toks) A
  have z:Inv X d y (upd H i.objs.size (.tup g)) {s with heap:=i.push {cls:=.type "tuple",data:=.seq f.toArray}}:=
   n.laid (t':=s.toks) (λb o e=>Heap.get?_push_of_some _ e) (LM _) (show ObjOk X.prog X.w _ _ _ (.tup g) from⟨v,f,m,IsTup.new _ _⟩)
  exact⟨.ref i.objs.size,_,z,rfl,q _<|n.hok.fresh<|LM _⟩
 .obtain ⟨f,m,k,v⟩:=c.tuple j;exact call_tuple_same k ⟨.ref p,H,c,rfl,q⟩
def tyV (K:Ly)(T:Rr)(x:V)(H:Hp):Prop:=match x with
|.str _=>T="str"
|.int _=>T="int"
| .ref p=>(T="list"/\∃ d,SqL K H p d)\/(T="tuple"/\∃ o,K.lookup p=Y o/\o.cls=.type "tuple"/\o.dict=J) \/
  (T="dict"/\((∃c,H p=Y (.dK c))\/∃c,H p=Y (.dT c)))\/(T="set"/\∃S n,H p=Y (.set S n))
|_=>RB
theorem vE {g:U<|Rj×Obj}{w:St}{H:Hp}{s:Lx}{T:Rr}{x:V}{v:B}(d:Inv X g w H s)(r:RelV x v)(ty:tyV X.K T x H):
  s.TypeIs v T/\∀a,v=.ref a->∃j,s.heap.get? a=Y j/\j.dict=none:=by
 cases x with
 |str z=>obtain⟨t,rfl⟩:=r;cases(show T="str" from ty);exact⟨Ol s z t,λ_ e=>nomatch e⟩
 |int i=>obtain⟨t,rfl⟩:=r;cases(show T="int" from ty);exact⟨typeIs_int s i t,λ_ e=>nomatch e⟩
 | ref p =>
  cases r;rcases ty with⟨rfl,y,m⟩|⟨rfl,o,hk,l,hd⟩|⟨rfl,hk⟩|⟨rfl,S,n,hk⟩
  .obtain ⟨u,_,k,_⟩:=d.list m;refine⟨k.isList.typeIs,λa e=>?_⟩;cases e;obtain⟨o,n,e,c,hd,_⟩:=k;exact⟨o,e,hd⟩
  .refine ⟨⟨o,d.kIn p o hk,l⟩,fun a e=>?_⟩;cases e;exact⟨o,d.kIn _ o hk,hd⟩
  .have z:∃ o,s.heap.get? p=Y o/\o.ExactDict:=by
    rcases hk with⟨h,hk⟩|⟨h,hk⟩
    .obtain ⟨_,_,_,_,o,_,_,e,f,_⟩:=d.hok p _ hk;exact⟨o,e,f⟩
    .obtain ⟨_,_,_,_,o,_,_,e,f,_⟩:=d.hok p _ hk;exact⟨o,e,f⟩
   obtain⟨o,e,f⟩:=z;refine⟨⟨o,e,f.1⟩,λa e2=>?_⟩;cases e2;exact⟨o,e,f.2.1⟩
  .obtain ⟨o,_,_,_,e,f,_⟩:=d.hok p _ hk;refine⟨⟨o,e,f.1⟩,λa e2=>?_⟩;cases e2;exact⟨o,e,f.2.1⟩
 |_=>exact MD ty
def Kq (K:Ly)(T:Rr)(r:V->U V->Hp->VK->Prop)(to:TE):TE:=λd H Q=>to d H λx c=>tyV K T x c/\r x [] c Q
def tBM (K:Ly)(T:Rr)(r:V->U V->Hp->VK->Prop)(to:TE)(t:TA):TE:=λd H Q=>to d H λx c=>tyV K T x c/\t d c λf e=>r x f e Q
variable {o e:Rv}{es:U Rv}{to:TE}{t:TA}{name:Str}{apos cpos:Pos}{T id:Rr}{r:V->U V->Hp->VK->Prop}
theorem C8 (w:PlainAttrs T)(i:Slot T name id)(j:typeOf (.builtin id)=pure (.type "method_descriptor"))(u:MtR X id r)(ho:PE X o to)
  (f:MP o name X.env (Rz o X.env)=Rz o X.env:=by rfl) (g:(apos.endLine==cpos.line)=true:=by rfl):PE X (.Call (.Attribute o name apos) [] [] cpos) (Kq X.K T r to):=by
 intro d s l H Q c h;refine wpAny_Call_method0_late f g<|thn (ho d s l H _ c h) λv z ⟨x,m,k,r1,ty,y⟩=>?_;obtain⟨n,p⟩:=vE k r1 ty;exact⟨T,id,w,i,j,n,p,Calls.callWith_builtin rfl (PySem.evalArgs_none<|u d z l m x [] v [] Q k r1 .nil y)⟩
theorem oV (M:PlainAttrs T)(k:Slot T name id)(l:typeOf (.builtin id)=pure (.type "method_descriptor"))(F:MtR X id r)(ho:PE X o to)(D:PA X (e::es) t)
  (g:MP o name X.env (Rz o X.env)=Rz o X.env:=by rfl)
  (j:((LY cpos<|Lz (e::es) X.env).all (λx=>!x.1)&&(Nj cpos<|Nm [] X.env).all (λx=>x.1.isSome)
  &&decide ((e::es).length+([]:U MJ).length+(if([]:U MJ).isEmpty then 0 else 1)<30))=true:=by rfl)
  (i:(apos.endLine==cpos.line)=true:=by rfl) (G:Lz (e::es) X.env=(Lv,Rz e X.env)::Lz es X.env:=by rfl) (f:(LY cpos<|Lz es X.env).any (·.1)=false:=by rfl):
  PE X (.Call (.Attribute o name apos) (e::es) [] cpos) (tBM X.K T r to t):=by
 intro d s m H Q c h;refine wpAny_Call_method_late g j i rfl (thn (ho d s m H _ c h) λv Z ⟨x,u,n,r1,ty,N⟩=>?_);obtain⟨z,A⟩:=vE n r1 ty;refine⟨T,id,M,k,l,z,A,?_⟩;have p:=D cpos d Z m u _ n N;rw[G] at p ⊢;refine Calls.callWith_builtin (by show(Lv || (LY cpos<|Lz es X.env).any (·.1))=Lv;rw[f]<;>rfl)<|Calls.evalArgs_plain ?_;exact thn p λus s2 ⟨vs,w,y,r2,P⟩=>F d s2 m w x vs v us Q y r1 r2 P
end
def MtM (X:Cx)(id:Rr)(r:V->U V->Hp->VK->Prop):Prop:=
 ∀(a:U<|Rj×Obj) (s:Lx) (d:St) (H:Hp) (x:V) (c:U V) (v:B) (b:U B) (Q:VK),Inv X a d H s->RelV x v->Vals c b->r x c H Q ->
  Rp (LC X.prog X.w) X.A (call (.builtin id) (v::b)) (EP X a d Q) X.xe s
theorem Vals.one:∀{x:V} {a:U B},Vals [x] a->∃u,a=[u]/\RelV x u
|_,_,.cons r .nil=>⟨_,rfl,r⟩
theorem Vals.zero:∀{a:U B},Vals [] a->a=[]
|_,.nil=>rfl
theorem Vals.dropLast {b:U V}{a:U B}(h:Vals b a):Vals b.dropLast a.dropLast:=by
 induction h with
 |nil=>exact .nil
 |cons r t c=>
  cases t with
  |nil=>exact .nil
  |cons q d=>exact .cons r c
theorem Vals.rep {b:U V}{a:U B}(h:Vals b a):∀k:O,Vals (LU k b).flatten (LU k a).flatten
|0=>.nil
|k+1=>by rw[Nz,Nz,MT,MT];exact Vals.append h<|Vals.rep h k
theorem oq {d:Type}(l:U d):l.eraseIdx (l.length-1)=l.dropLast:=by
 induction l with
 |nil=>rfl
 | cons a r c =>
  cases r with
  |nil=>rfl
  | cons b r =>
   have e:(a::b::r).length-1=((b::r).length-1)+1:=by have f:(a::b::r).length=r.length+2:=rfl;have g:(b::r).length=r.length+1:=rfl;lia
   rw[e,List.eraseIdx_cons_succ,c]
   all_goals rfl
theorem i8 (b:U B):∀(k:O) (a:U B),
 Pk (λc d=>c++d) a.toArray (LU k b.toArray)=(a++(LU k b).flatten).toArray
|0,a=>by simp
| k+1,a=>by
 have e:a.toArray++b.toArray=(a++b).toArray:=by simp
 have e2:(a++b)++(LU k b).flatten=a++(LU (k+1) b).flatten:=by rw[Nz,MT,L6]
 rw[<- e2,<- i8 b k (a++b),<- e,Nz,OP]
section
variable {X:Cx}{pins:U (Rj×Obj)}{σ:St}{H:Hp}{s:Lx}{l b:Rj}{xs ys zs:U V}
theorem Inv.lset {c its':U B}{n:O}{f:RD B->RD B}{m:O}(a:Inv X pins σ H s)(d:H l=Y (.lst xs))
  (e:s.heap.get? l=Y {cls:=.type "list",data:=.seq c.toArray n}) (h:f c.toArray=its'.toArray) (j:Vals ys its') (k:ys.length<=sizeLine):
  Inv X pins σ (upd H l<|.lst ys) {s with heap:=s.heap.update l<|Obj.mapSeq f,toks:=m}:=by
 have q:=PySem.IsL.update e f;rw[h] at q;refine a.write (x:=l) (e:=l) (by rw[d];exact trivial) (.inl rfl) (λo u g i=>(Heap.get?_update_other s.heap (Obj.mapSeq f)<|Mx g).trans i) ⟨_,q⟩ ?_;exact⟨k,its',_,j,q⟩
theorem Inv.lnew {its:U B}{t':O}(a:Inv X pins σ H s)(c:Vals ys its)(d:ys.length<=sizeLine):
  Inv X pins σ (upd H s.heap.objs.size<|.lst ys) {s with heap:=s.heap.push {cls:=.type "list",data:=.seq its.toArray},toks:=t'}:=
 a.laid (λ_ _ q=>Heap.get?_push_of_some _ q) (LM _) ⟨d,its,0,c,Heap.get?_push_size _ rfl⟩
theorem Inv.fresh (a:Inv X pins σ H s):H s.heap.objs.size=none:=a.hok.fresh<|LM _
theorem Inv.lstM (a:Inv X pins σ H s)(d:H l=Y (.lst xs)):xs.length<=sizeLine/\∃(c:U B) (n:O),Vals xs c/\xs.length=c.length/\s.heap.get? l=Y {cls:=.type "list",data:=.seq c.toArray n}:=by obtain⟨z,c,n,r,e⟩:=a.hok l _ d;exact⟨z,c,n,r,r.length,e⟩
theorem mw {n:O}(h:n<=sizeLine):Builtin.List.listTooLong n=false:=by unfold Builtin.List.listTooLong;exact Rt<|by lia
end
section
variable {X:Cx}
def Bo:V->U V->Hp->VK->Prop:=λx b H Q=>∃l a y,x=.ref l/\b=[y]/\H l=Y (.lst a)/\a.length<sizeLine/\Q .non (upd H l<|.lst<|a++[y])
theorem rj:MtM X "list.append" Bo:=by intro d s t H x o v m Q a i g h;obtain⟨l,p,y,rfl,rfl,c,k,q⟩:=h;cases i;obtain⟨u,rfl,f⟩:=g.one;obtain⟨z,b,n,r,j,e⟩:=a.lstM c;refine Nl F.slot_list_append ⟨_,e,rfl⟩ F.entry_list_append (F.args_list_append_2 _ _) (PySem.list_append l b.toArray n u<|by rw[LZ];lia) ⟨e,?_⟩;refine⟨.non,_,a.lset (its':=b++[u]) c e (by simp) (r.append<|.cons f .nil) ?_,rfl,q⟩;rw[LH,L0];lia
def Ah:V->U V->Hp->VK->Prop:=λx d H Q=>∃l b a c,x=.ref l/\d=[.ref b]/\H l=Y (.lst a)/\H b=Y (.lst c)/\a.length+c.length<=sizeLine/\Q .non (upd H l<|.lst<|a++c)
theorem qh:MtM X "list.extend" Ah:=by
 intro j s P H x G v D Q a w t h;obtain⟨l,b,M,N,rfl,rfl,i,k,A,q⟩:=h;cases w;obtain⟨u,rfl,p⟩:=t.one;cases p;obtain⟨z,d,n,r,y,e⟩:=a.lstM i;obtain⟨z2,c,o,r2,m,e2⟩:=a.lstM k;have g:d.toArray.size+c.toArray.size<=sizeLine:=by rw[LZ,LZ];lia
 have f:¬(!d.toArray.isEmpty&&Builtin.List.listTooLong (d.toArray.size+c.toArray.size))=true:=by rw[mw g,M0];exact LX
 refine Nl F.slot_list_extend ⟨_,e,rfl⟩ F.entry_list_extend (F.args_list_extend_2 _ _)
  (AutoSeq1.list_extend_list_list_0 l d.toArray n b c.toArray o f (by rw[LZ];lia)<|by lia) ⟨e,e2,?_⟩
 refine⟨.non,_,a.lset (its':=d++c) i e (by simp) (r.append r2) ?_,rfl,q⟩;rw[LH];lia
def Km:V->U V->Hp->VK->Prop:=λx b H Q=>∃l a y,x=.ref l/\b=[]/\H l=Y (.lst a)/\a[a.length-1]?=Y y/\Q y (upd H l<|.lst a.dropLast)
theorem Fg:MtM X "list.pop" Km:=by
 intro g s D H x w v t Q a p o h;obtain⟨l,A,y,rfl,rfl,f,k,q⟩:=h;cases p;have c:=o.zero;subst c;obtain⟨z,b,n,r,i,e⟩:=a.lstM f;obtain⟨u,j,m⟩:=r.get k;have d:b.toArray[b.toArray.size-1]?=Y u:=by show b.toArray[b.length-1]?=Y u;rw[<- Array.getElem?_toList,<- i];exact j
 refine Nl F.slot_list_pop ⟨_,e,rfl⟩ F.entry_list_pop (F.args_list_pop_1 _) (MeetsSeq.list_pop_last l b.toArray n u d<|by rw[LZ];lia) ⟨e,?_⟩;refine⟨y,_,a.lset (its':=b.dropLast) f e ?_ r.dropLast ?_,m,q⟩
 .show b.toArray.eraseIdxIfInBounds (b.toArray.size-1)=b.dropLast.toArray;rw[LZ,List.eraseIdxIfInBounds_toArray,oq]
 .rw [List.length_dropLast];lia
def Hf:R2:=λx y H Q=>∃l b a c,x=.ref l/\y=.ref b/\H l=Y (.lst a)/\H b=Y (.lst c)/\a.length+c.length<=sizeLine/\∀p,H p=J->Q (.ref p) (upd H p<|.lst<|a++c)
theorem op_cat:OpR X (Mv .Add) Hf:=by
 intro f s F H x y v u Q a m o h;obtain⟨l,b,A,D,rfl,rfl,j,i,t,q⟩:=h;cases m;cases o;obtain⟨z,d,n,r,p,e⟩:=a.lstM j;obtain⟨z2,c,w,r2,k,e2⟩:=a.lstM i;refine PySem.P.add_list e e2 ?_ (by rw[LZ,LZ];lia);have g:d.toArray++c.toArray=(d++c).toArray:=by simp
 rw[g];exact⟨.ref _,_,a.lnew (t':=s.toks) (r.append r2)<|by rw[LH];lia,rfl,q _ a.fresh⟩
def IS:R2:=λx y H Q=>∃l k a,x=.ref l/\y=.int k/\H l=Y (.lst a)/\-(2 ^ 63)<=k/\k<2 ^ 63/\a.length * k.toNat<=sizeLine /\
 ∀p,H p=J->Q (.ref p) (upd H p<|.lst (LU k.toNat a).flatten)
theorem yr {c:Type}(a:U c)(k:O):(LU k a).flatten.length=k * a.length:=by
 induction k with
 |zero=>simp
 |succ k b=>rw[Nz,MT,LH,b,Nat.succ_mul,OW]
theorem CL:OpR X (Mv .Mult) IS:=by
 intro A s σ H x y v u Q b Z ry h;obtain⟨l,k,xs,rfl,rfl,N,G,M,w,q⟩:=h;cases Z;obtain⟨t,rfl⟩:=ry;obtain⟨z,c,n,r,P,e⟩:=b.lstM N;have i:c.toArray.size * k.toNat<=sizeLine:=by rw[LZ,<- P];exact w
 have f:¬c.toArray.size * k.toNat>(2 ^ 63-1) / 8:=by
  have:(sizeLine:O)<=(2 ^ 63-1) / 8:=by decide
  lia
 have g:¬(!Builtin.List.listFitsIndex k)=true:=by rw[fitsIndex_both G M];exact LX
 have d:¬Builtin.List.listTooLong (c.toArray.size * k.toNat)=true:=by rw[mw i];exact LX
 have j:Pk (λo p=>o++p) #[] (LU (if c.toArray.isEmpty=Lw then 0 else k.toNat) c.toArray)=(LU k.toNat c).flatten.toArray:=by
  have D:∀m:O,Pk (λo p=>o++p) #[] (LU m c.toArray)=(LU m c).flatten.toArray:=λm=>by have:=i8 c m [];rw[Ml] at this;exact this
  rw[D];cases c with
  |nil=>simp
  |cons a r'=>rw[Rn<|by simp]
 refine wpAny_binaryOp_repeat_ref (T:="list") (U:="int") (by decide) ⟨_,e,rfl⟩ (λs'=>typeIs_int s' k t) noFill_list_mul F.fills_int_mul F.slot_int_rmul repeat_list F.slot_int_index.lookup
  (Nl F.slot_int_rmul (typeIs_int s k t) F.entry_int_rmul (F.args_int_rmul_2 _ _) (int___rmul___int_list k t l c.toArray n)
   ⟨e,rfl,⟨_,e,rfl⟩,Nl F.slot_list_mul ⟨_,e,rfl⟩ F.entry_list_mul (F.args_list_mul_2 _ _) (AutoListH.list___mul___list_int_3 l c.toArray n k t g f d) ⟨e,?_⟩⟩)
 rw[j];exact⟨.ref _,_,b.lnew (t':=s.toks) (r.rep k.toNat)<|by rw[yr,Qj];exact w,rfl,q _ b.fresh⟩
end
end L2
namespace Att
open PySem PySem.W PySem.Calls PyProof.Rows
theorem gj {P:Mb}{h:Rx}:∀(c:U I) (d:U B),WellAll P h d (c.map WData.int)->RZ d c:=by
 intro c;induction c with
 |nil=>intro d w;rw[Mi] at w;cases w;exact .nil
 | cons n c e =>
  intro d w;rw[LJ] at w;cases w with
  |cons a b=>cases a;exact .cons _ _<|e _ b
theorem ql {l:OpenLaw}{n:O}(v:l.most=Y n){P:Mb}{h:Rx}{args:U WData}{e:U B}
  (c:l.row.toRowW.claim.pre args=Lw) (m:WellAll P h e args):
  ∃a p b,e=[Value.ref a]/\args=[WData.list<|b.map WData.int]/\h.get? a=Y {cls:=.type "list",data:=.seq p.toArray}/\RZ p b/\b.length<=n:=by
 have k:WShape.hasAll [] args [.list .int]=true:=(pre_splitW c).1;have o:l.pre.holds [] {args:=args}=true:=(pre_splitW c).2;obtain⟨d,r,rfl,s,t⟩:=hasAllW_cons k;obtain rfl:=hasAllW_nil t;obtain⟨z,rfl,u⟩:=hasW_list s;obtain⟨b,rfl⟩:=items_int u
 have g:b.length<=n:=by
  unfold OpenLaw.pre at o;have i:(WTm.not (.lt (.lit (.int (n:I))) (.len (.arg 0)))).holds [] {args:=[.list<|b.map .int]}=true:=by have i:=(holds_andW o).1;rw[v] at i;exact i
  have j:=condW_of i<|w_not<|w_lt w_lit<|w_len_list<|w_arg rfl;rw[LB] at j;refine P8 λq=>?_;have w:(n:I)<((b.length:O):I):=by lia
  first
   |(rw[Ri w] at j;exact Rm j<|by decide)
   |(simp at j;lia)
 cases m with
 |cons x y=>
  cases y;cases x with
  |list ho f=>exact⟨_,_,b,rfl,rfl,ho,gj b _ f,g⟩
theorem rE (l:OpenLaw)(args:U WData):l.row.toRowW.claim.post args (.bool Lw) args=true:=
 postW_of (r:=l.row.toRowW) (X:=(Lw==Lw))
  (show WShape.has [] (.bool Lw) .bool=Lw by first|rfl|decide|simp[WShape.has,WShape.arms,WShape.armsAll])
  (show(WTm.eq .res<|.lit<|.bool Lw).value [] {args:=args,res:=Y<|.bool Lw,after:=args}=Y (.bool<|Lw==Lw) from w_eq_bool (w_res rfl) w_lit) rfl
theorem attach_call {l:OpenLaw}{n:O}{q:Ro}{e:U Str}{N:(Str->L B)->Rx->Prop}{P:LA->Rx->Prop}{d:DefRec}
  (hn:l.most=Y n) (A:d.params.defaults=[])
  (call:∀ (w:LA) (g c:Lx) (v H:Str->L B) (k:Rj) (o:Obj) (M u h:B) (a:Rj) (j:U B) (x:U I),
   Ground q e [] N w g v H c.heap->P w c.heap ->
   c.heap.get? k=Y o->o.data=.func (docDef d.name d.params d.body d.scope M u h)->c.heap.CodeRec u d.name->v d.name=Y (.ref k) ->
   c.heap.get? a=Y {cls:=.type "list",data:=.seq j.toArray}->RZ j x->x.length<=n->c.gens=#[] ->
   MQ (LC l.prog w) Nh (.call (.ref k) ⟨[.ref a],[]⟩) (λr y=>r=.ok (.ret<|.bool Lw)/\OldK c.heap y.heap/\y.os=c.os/\M6 y.gens) c):
  WalkO q e N P l.row.toRowW d [] (λf j=>Pj f j):=by
 intro w g c v H G b k o M u h dV kV ho hd z Z D hg Q vals as t hlay hrd F hlo;obtain rfl:dV=.none:=Dflts.none Z A;obtain rfl:kV=.none:=Dflts.noKw Z;obtain⟨a,j,x,rfl,rfl,p,i,m⟩:=ql hn t F;refine enter_call<|OJ (call w g c v H k o M u h a j x G b ho (fd_plain hd) z D p i m hg) λr y hq=>?_;obtain⟨rfl,h2,h3,h4⟩:=hq;exact⟨.inl ⟨.bool Lw,.bool Lw,[],rfl,λ_=>rfl,.bool Lw,rE l _,λ_=>⟨Q6,λ_ hm=>(nomatch hm)⟩⟩,h2,h3,h4⟩
end Att
namespace L2
open PySem PySem.Spec PyProof.Rows
theorem dy:∀{b:U B} {a:U I},RZ b a->Vals (a.map V.int) b
|_,_,.nil=>.nil
|_,_,.cons n t h=>.cons ⟨t,rfl⟩<|dy h
def yc (H:Hp):Prop:=∀b,H b=J\/∃o a,H b=Y (.frz o<|.lst a)
theorem uE {P:Ro}{w:LA}{K:Ly}{Z mb:Str->L B}{CX:CXT}{k:O}{fa a:Rj}{fd:Mu}{x:Str}{sp:Sp}{c:Lx}{t:U B}{ns:U I}
  (KX:K.In c.heap) (G:c.heap.Ns LP Z) (g:c.heap.Ns builtinsNs mb) (hbb:∀x:Str,x≠"__name__"->mb x=Np x) (D:c.heap.NoLimit) (hg:c.gens=#[])
  (ha:c.heap.get? a=Y {cls:=.type "list",data:=.seq t.toArray}) (hi:RZ t ns) (hl:ns.length<=sizeLine) (hr:Room k Nh)
  (F:∀i:Rx,K.In i->i.Ns LP Z->dh P w K Z i CX k fa fd [x] sp) (p:∀(s:Lx) (u:B),Ni s fd ⟨[u],[]⟩ [(x,u)])
  (hsp:∀H:Hp,yc H->SqL K H a (ns.map V.int)->sp [.ref a] H (λv _=>v=.bl Lw) λ_ _ _=>RB)
  (hCX:∀H e j,CX [] H c (λ_ _ _=>RB) e j->RB):
  MQ (LC P w) Nh (.call (.ref fa) ⟨[.ref a],[]⟩) (λr j=>r=.ok (.ret<|.bool Lw)/\OldK c.heap j.heap/\j.os=c.os/\M6 j.gens) c:=by
 have rv:=dy hi;have Q:=hi.length
 -- from an abstract heap in which nothing but the script may be tracked
 have core:∀ H:Hp,yc H->SqL K H a (ns.map V.int)->HOk P w H c.heap->(∀ b,H b≠J->b=a)->(H a≠J->K.lookup a=J) ->
   MQ (LC P w) Nh (.call (.ref fa) ⟨[.ref a],[]⟩) (λr j=>r=.ok (.ret<|.bool Lw)/\OldK c.heap j.heap/\j.os=c.os/\M6 j.gens) c:=by
  intro H hO hS M hA hK;have f:∀{b:Rj} {o:Obj},c.heap.get? b=Y o->H b=J->(ky c.heap H).get? b=Y o:=λe n=>tj e n
  have noA:∀{b:Rj} {o:Obj} {y:RD RC} {ep:O},c.heap.get? b=Y o->o.data=.dict y ep->H b=none:=λ{b o y ep} e d=>by
   cases q:H b with
   |none=>rfl
   |some u=>have e':b=a:=hA b (by rw[q];simp);subst e';rw[ha] at e;cases e;have d':Data.seq t.toArray _=Data.dict y ep:=d;cases d'
  have l:∀{b:Rj} {m:Str->L B},c.heap.Ns b m->(ky c.heap H).Ns b m:=λ{b m} ⟨o,y,ep,e,d,r⟩=>⟨o,y,ep,f e<|noA e d,d,r⟩
  have A:K.In (ky c.heap H):=λb o e=>f (KX b o e) (by
   cases q:H b with
   |none=>rfl
   |some u=>
    have e':b=a:=hA b (by rw[q];simp);subst e';rw[hK<|by rw[q];simp] at e;cases e)
  have hM:Mod K Z (ky c.heap H):=⟨A,l G,⟨mb,l g,hbb⟩,let ⟨mc,h1,h2⟩:=D;⟨mc,l h1,h2⟩⟩;have e0:Env0 P w K Z (ky c.heap H) Nh [] c H:=⟨rfl,hM,λb o e=>yO e,Qk<|rA _ _,trivial,λb g=>Rm (show b∈([]:U Rj) from g)<|by simp,M,.of_eq hg⟩;refine OJ ((F _ A<|l G).run Nh [] c H ⟨[.ref a],[]⟩ [.ref a] [.ref a] _ _ hr e0 (p c<|.ref a) (.cons rfl .nil)<|hsp H hO hS) λr j h=>?_;cases r with
  |error e=>exact(hCX H e j h).elim
  | ok fl =>
   cases fl with
   |next=>exact MD h
   |brk=>exact MD h
   |cont=>exact MD h
   | ret u =>
    obtain⟨v,H',os,bare,un,N,r',q⟩:=h;have q':v=.bl true:=q;subst q';obtain rfl:u=Value.bool true:=r';refine⟨rfl,OldK.of_keep λb o e=>?_,os,bare⟩;cases q:H b with
    |none=>exact un.keep b o e q (by intro z;exact Rm (show b∈([]:U Rj) from z)<|by simp)<|by simp
    | some u =>
     rcases hO b with z|⟨ob,xs,z⟩
     .rw[q] at z;cases z
     .have z2:=un.frzs b ob _ z;obtain⟨e1,_⟩:=M b _ z;obtain⟨e2,_⟩:=N b _ z2;rw[e] at e1;cases e1;exact e2
 cases hk:K.lookup a with
 |some o=>
  -- the script is one of the module's own objects
  have e:=KX a o hk;rw[ha] at e;cases e;refine core (λ_=>J) (λ_=>.inl rfl) (.inr ⟨_,t.toArray,_,hk,rfl,rfl,rfl,by rw[LZ,Q];exact hl,by simpa using rv⟩) (λb u z=>by have z':(none:L HO)=Y u:=z;cases z') (λb z=>Rm rfl z) λz=>Rm rfl z
 | none =>
  refine core (λb=>if b=a then Y (.frz {cls:=.type "list",data:=.seq t.toArray} (.lst<|ns.map V.int)) else J) (λb=>?_) (.inl<|.inr ⟨{cls:=.type "list",data:=.seq t.toArray},Rk rfl⟩) (λb u z=>?_) (λb z=>?_) λ_=>hk
  .by_cases g:b=a
   .exact .inr ⟨_,_,Rk g⟩
   .exact .inl (Rn g)
  .by_cases g:b=a
   .have z':=(Rk g).symm.trans z;cases z';subst g;exact⟨ha,by rw[LB];exact hl,t,_,rv,ha⟩
   .have z':=(Rn g).symm.trans z;cases z'
  .by_cases g:b=a
   .exact g
   .exact Rm (Rn g) z
theorem walk_of {l:Py}{n k:O}{q:Ro}{p:U Str}{XP:(Str->L B)->Rx->Prop}{YP:LA->Rx->Prop}{d:DefRec}{K:Mb->Ly}{CX:LA->CXT}{sp:LA->Sp}{x:Str}
  (hn:l.most=Y n) (Q:n<=sizeLine) (N:d.params.defaults=[]) (hr:Room k Nh)
  (hY:∀(w:LA) (h:Rx),YP w h->(K w.params).In h)
  (F:∀ (w:LA) (r:Str->L B) (z:Rj) (h:Rx),(K w.params).In h->h.Ns LP r->r d.name=Y (.ref z) ->
   ∃D:Mu,(∀(s:Lx) (u:B),Ni s D ⟨[u],[]⟩ [(x,u)]) /\
    ∀i:Rx,(K w.params).In i->i.Ns LP r->dh l.prog w (K w.params) r i (CX w) k z D [x] (sp w))
  (Z:∀(w:LA) (H:Hp) (a:Rj) (A:U I),A.length<=n->yc H->SqL (K w.params) H a (A.map V.int)->sp w [.ref a] H (λv _=>v=.bl Lw) λ_ _ _=>RB)
  (M:∀(w:LA) (H:Hp) (s:Lx) (e:B) (s':Lx),CX w [] H s (λ_ _ _=>RB) e s'->RB):
  Qr q p XP YP l.row.toRowW d [] (λf vs=>Pj f vs):=by
 refine Att.attach_call hn N λw s₀ y r mb z o pm cd doc a vs A G c ho hd hcd P t m j hg=>?_;have KX:=hY w _ c;obtain⟨D,hb,hF⟩:=F w r z _ KX G.T.g P;exact uE KX G.T.g G.T.b G.T.builtins G.T.nolimit hg t m (LL j Q) hr hF hb (λH hO hS=>Z w H a A j hO hS) λH e s'=>M w H y e s'
noncomputable def defArgs (s:Ry):Arguments:=match s with
|.FunctionDef _ a _ _ _ _ _ _ _ _=>a
|_=>{posonlyargs:=[],args:=[],vararg:=J,kwonlyargs:=[],kw_defaults:=[],kwarg:=J,defaults:=[]}
noncomputable def defBody (s:Ry):U Ry:=match s with
|.FunctionDef _ _ b _ _ _ _ _ _ _=>b
|_=>[]
noncomputable def defScope (s:Ry):RF:=match s with
|.FunctionDef _ _ _ _ _ _ a _ _ _=>a
|_=>{kind:=.function,names:=[],isGenerator:=Lv,isCoroutine:=Lv}
abbrev CX0:CXT:=λ_ _ _ _ _ _=>RB
abbrev E0:XK:=λ_ _ _=>RB
theorem vS {X:Cx}:fN CX0 X E0:=λ_ _ _ _ _ _ _ h=>h.elim
structure Fun (K:Ly)(x qual:Str)(st:Ry)(f:Rj)(fd:Mu):Prop where
 ex:∃(oc:B) (od:L Rj) (kV doc pm:B) (an:L Rj) (cdv ct:B) (osl:RD (L B)),
  fd=ME x qual (defArgs st) (defBody st) (defScope st) .none kV doc pm an cdv ct/\K.lookup f=Y ⟨oc,od,.func fd,osl⟩/\OL K cdv qual=Lw
 kp:Nu K (.ref f)=Lw
section
variable {P:Ro}{w:LA}{K:Ly}{mg:Str->L B}{base:Rx}
theorem Fun.ok {x b:Str}{g:Ry}{f:Rj}{l:Mu}{N ps:U Str}{k:O}{sp:Sp}(F:Fun K x b g f l)(S:af N ps<|defScope g)(len:∀e H Q E,sp e H Q E->e.length=ps.length)
  (d:∀ (c:B) (A:LS) (a:U Env) (s:Lx) (H:Hp) (e:U V) (Q:VK) (E:XK),Room k (A.deeper (MC b (defScope g) s.heap.objs.size f c))->sp e H Q E ->
   ∃t,PSs (iT CX0 P w K mg base N b (defScope g) f c A a s H E).nox (defBody g) t/\t {nx:=λ_ m=>Q .non m,rt:=Q} (start N e) H):dh P w K mg base CX0 (k+1) f l ps sp:=by
 obtain⟨u,v,kV,n,y,an,c,r,p,rfl,lk,i⟩:=F.ex;refine Ip lk i S len λA a s H e Q E o j=>?_;obtain⟨t,h,q⟩:=d c A a s H e Q E o j;exact⟨t,h.nox,q⟩
theorem Fun.binds {x a:Str}{d:Ry}{f:Rj}{j:Mu}{ps:U Str}(F:Fun K x a d f j)
  (h:∀(kV c g:B) (an:L Rj) (b e:B) (i:U B),i.length=ps.length->bindArgs (ME x a (defArgs d) (defBody d) (defScope d) .none kV c g an b e) ⟨i,[]⟩=pure (ps.zip i)):Binds K j ps []:=by
 obtain⟨m,n,kV,c,g,an,b,e,l,rfl,lk,k⟩:=F.ex;exact .all<|h kV c g an b e
theorem tI {x a:Str}{st:Ry}{f:Rj}{i:B}{j an:L Rj}{e:RD<|L B}{kV d h b g:B}(l:K.lookup f=Y ⟨i,j,.func<|ME x a (defArgs st) (defBody st) (defScope st) .none kV d h an b g,e⟩)
  (c:OL K b a=Lw) (k:Nu K (.ref f)=Lw):Fun K x a st f (ME x a (defArgs st) (defBody st) (defScope st) .none kV d h an b g):=⟨⟨i,j,kV,d,h,an,b,g,e,rfl,l,c⟩,k⟩
end
def Same (H a:Hp):Prop:=∀b o,H b=Y o->a b=Y o
theorem Same.refl (H:Hp):Same H H:=λ_ _ h=>h
section
variable {κ:Type}[RO κ]
theorem RelO.getD {o:L V}{u:L B}{d:V}{a:B}(r:RelO o u)(rd:RelV d a):RelV (o.getD d) (u.getD a):=by
 cases o with
 |none=>cases u with
  |none=>exact rd
  |some _=>exact(show RB from r).elim
 |some _=>cases u with
  |none=>exact(show RB from r).elim
  |some _=>exact r
end
structure M1 (X:Cx)(o:Rv)(m:Str)(apos:Pos)(e:Rv)(cpos:Pos):Prop where
 base:MP o m X.env (Rz o X.env)=Rz o X.env
 few:((LY cpos (Lz [e] X.env)).all (λx=>!x.1)&&(Nj cpos (Nm [] X.env)).all (λx=>x.1.isSome)
 &&decide (([e]:U Rv).length+([]:U MJ).length+(if([]:U MJ).isEmpty then 0 else 1)<30))=Lw
 line:(apos.endLine==cpos.line)=Lw
 trees:LY cpos (Lz [e] X.env)=[(Lv,Rz e X.env)]
end L2

set_option maxHeartbeats 4000000
namespace L3
open PySem PySem.Spec PyProof.Rows L2
abbrev noX:B->Lx->Prop:=λ_ _=>RB
theorem jr {P:Ro}{w:LA}{H:Hp}{h:Rx}{a:Rj}{o:HO}(x:HOk P w H h)(g:H a=J)(d:ObjOk P w (upd H a o) h a o):HOk P w (upd H a o) h:=by
 intro b u e;by_cases f:b=a
 .subst f;rw[au] at e;cases e;exact d
 .rw [ah f] at e;refine(x b u e).stay (λc v _ q=>q) (λc q=>?_) (λc i q=>?_)
  .rw[ah<|aM q g];exact q
  .rw[ah<|aM q g];exact q
section
variable {prog:Ro}{w:LA}{A:LS}{R:R7->Lx->Prop}{s:Lx}
theorem nA {o H f:Rv}{c:RF}{F:Pos}{G l:B}{b:Env}(a:O->Lx->Prop)
  (turn:∀ n s,a n s->Rp (LC prog w) A (pyNext G) (fun r d=>match r with
   |none=>R (.ok .next) d
   | some v=>Rp (LC prog w) A (N4 H G v) (fun _ g=>Rp (LC prog w) A (RU H b v) (fun _ i =>
     Rp (LC prog w) A (Rz o b) (λy j=>Rp (LC prog w) A (call (.builtin "list.append") [l,y]) (λ_ k=>∃m,m<n/\a m k) noX j) noX i) noX g) noX d) noX s)
  (n:O) (h:a n s):MQ (LC prog w) A (.compLoop (.ListComp o [⟨H,f,[],0⟩] c F) 0 G l b) R s:=by
 refine codeAny_loop rfl a (λn s M=>?_) n h;show Rp _ A ((compTurn (.ListComp o [⟨H,f,[],0⟩] c F) 0 G l b).onRaise (λx=>do noteFrame x b;theTreesLotGoes x)) _ _ s;refine wpAny_noted ?_;rw[compTurn_list];refine LD<|RS<|LD<|Mh (turn n s M) (λr d e=>?_) λ_ _ z=>z.elim;cases r with
 |none=>exact LN e
 |some v=>refine LD<|Mh e (λ_ g p=>?_) λ_ _ z=>z.elim;refine LD<|Mh p (λ_ i t=>?_) λ_ _ z=>z.elim;refine LD<|wpAny_tests_nil ?_;exact LD<|LD<|Mh t (λy j u=>LD<|Mh u (λ_ k D=>LN<|LN ⟨rfl,D⟩) λ_ _ z=>z.elim) λ_ _ z=>z.elim
end
def aD (X:Cx)(N:U Str)(a:RF)(b:U<|Str×Rj)(C:Rj)(s:Lx)(H:Hp)(c:U Rj):Cx where
 prog:=X.prog
 w:=X.w
 K:=X.K
 mg:=X.mg
 base:=X.base
 A:=X.A
 N:=N
 s₀:=s
 H₀:=H
 env:=compEnvC a b C X.env
 outer:=X.stack
 stack:=X.stack
 ex:=c
 fn:=λ_=>Lv
 calm:=X.calm
 pn:=X.pn
 xe:=noX
inductive Clo (X:Cx):U (Str×Rj)->Prop
 |nil:Clo X []
 |cons {y:Str} {c:Rj} {cl:U (Str×Rj)}:X.env.cells.lookup y=Y c->Clo X cl->Clo X ((y,c)::cl)
theorem Clo.get {X:Cx}{a:U<|Str×Rj}(h:Clo X a):∀{y:Str} {c:Rj},a.lookup y=Y c->X.env.cells.lookup y=Y c:=by
 induction h with
 |nil=>intro y c e;cases e
 | @cons z d b f _ g =>
  intro y c e;cases q:y==z with
  |true=>simp only[Na,q] at e;cases e;rw[eq_of_beq q];exact f
  |false=>simp only[Na,q] at e;exact g e
inductive Frees (X:Cx)(scope:RF)(cl:U (Str×Rj)):U Str->U O->Prop
 |nil:Frees X scope cl [] []
 | cons {y:Str} {ys:U Str} {i:O} {is:U O} {c:Rj}:X.N[i]?=Y y->Vis X.env.scope y->(X.env.kindOf y=Y .cell\/X.env.kindOf y=Y .free)->X.env.cells.lookup y=Y c->cl.lookup y=Y c ->
   ((NN scope X.env).names.lookup y=Y .cell\/(NN scope X.env).names.lookup y=Y .free)->Frees X scope cl ys is->Frees X scope cl (y::ys) (i::is)
theorem Frees.len {X:Cx}{a:RF}{d:U<|Str×Rj}{c:U Str}{b:U O}(F:Frees X a d c b):b.length=c.length:=by
 induction F with
 |nil=>rfl
 |cons _ _ _ _ _ _ _ e=>rw[LG,LG,e]
noncomputable def da (b:L2.St)(a:U O):L2.St:=a.map λi=>(b[i]?).join
theorem Frees.get {X:Cx}{a:RF}{d:U<|Str×Rj}{f:U Str}{b:U O}{σ:L2.St}(F:Frees X a d f b):∀{j:O} {y:Str} {v:V},f[j]?=Y y->(da σ b)[j]?=Y (Y v) ->
  ∃(i:O) (c:Rj),X.N[i]?=Y y/\σ[i]?=Y (Y v)/\Vis X.env.scope y/\(X.env.kindOf y=Y .cell\/X.env.kindOf y=Y .free)/\X.env.cells.lookup y=Y c/\d.lookup y=Y c /\
   ((NN a X.env).names.lookup y=Y .cell\/(NN a X.env).names.lookup y=Y .free):=by
 induction F with
 |nil=>intro j y v e;simp at e
 | @cons z r i b c g h k l m n _ p =>
  intro j y v e1 e2;unfold da at e2;rw[LJ] at e2;cases j with
  | zero =>
   rw[Ny] at e1 e2;cases e1;cases q:σ[i]? with
   |none=>rw[q] at e2;cases e2
   |some o=>rw[q] at e2;have e3:o=Y v:=Mf e2;subst e3;exact⟨i,c,g,q,h,k,l,m,n⟩
  |succ j=>rw[MH] at e1 e2;exact p e1 e2
abbrev kF (a:U B):Obj:={cls:=.type "list",data:=.seq a.toArray a.length}
theorem qo {X:Cx}(N:X.calm=Lw):dN X (.builtin "all") (λD H Q=>∃(a:Rj) (bs:U Rl),D=[.ref a]/\SqL X.K H a (bs.map V.bl)/\Q (.bl<|bs.all id) H):=by
 intro y s σ H D us Q c r h;obtain⟨a,bs,rfl,G,q⟩:=h;obtain⟨u,rfl,ru⟩:=dQ r;cases ru;obtain⟨d,t,p,hz⟩:=c.list G;have l:d.toArray.size=bs.length:=by rw[LZ,<- t.length,LB]
 have n:a<s.heap.objs.size:=by obtain⟨o,e,_⟩:=p.isList;exact Heap.lt_size e
 refine call_all_walk<|wpAny_pyIter_list p.isList ?_;refine⟨s.heap.objs.size,_,_,_,_,_,λi=>bs.getD i Lw,rfl,Walks.list (A:=X.A.in1) (show X.A.in1.handled=J from c.ok.hd N) s.heap.objs.size a (L5 n) d.toArray,⟨⟨_,Heap.get?_push_size _ rfl,rfl,rfl⟩,p.isList.push _⟩,λi v s' Q' E' Z F=>?_,λh' tk k=>?_⟩
 .have m:d[i]?=Y v:=by simpa using Z
  have f:i<d.length:=(Mo.mp m).1;have j:i<bs.length:=by have:=t.length;rw[LB] at this;lia
  obtain⟨w',e1,e2⟩:=t.get (i:=i) (x:=.bl bs[i]) (by rw[Mr,Ma j];rfl);rw[m] at e1;cases e1;cases e2;refine N5 ?_;have e3:bs.getD i Lw=bs[i]:=by rw[MV,Ma j];rfl
  rw[<- e3];exact F
 .have e:(L4 d.toArray.size).all (fun i=>bs.getD i Lw)=bs.all id:=by
   rw[l,QA,MN,MN];constructor
   .intro z b M;obtain⟨i,f,e⟩:=Q3 M;have:=z i<|ON.mpr f;rw[MV,Ma f] at this;simpa[e] using this
   .intro z i f;have g:=ON.mp f;rw[MV,Ma g];exact z _<|OR g
  rw[e]
  exact⟨.bl<|bs.all id,H,c.kept (λb o w=>k b o (λP=>by
   have:b=s.heap.objs.size:=by simpa using P
   exact Rm (this ▸ Heap.lt_size w)<|NX _)<|Heap.get?_push_of_some _ w),rfl,q⟩
inductive Th where
 |non|bl (b:Rl)|int (i:I)|str (x:Str)|tup (ts:U Th)|lst (ts:U Th)
mutual
def Has (K:Ly)(H:Hp):Th->V->Prop
|.non,v=>v=.non
|.bl b,v=>v=.bl b
|.int i,v=>v=.int i
|.str x,v=>v=.str x
|.tup ts,v=>∃a vs,v=.ref a/\SqT K H a vs/\HasL K H ts vs
|.lst ts,v=>∃a vs,v=.ref a/\H a=Y (.lst vs)/\HasL K H ts vs
def HasL (K:Ly)(H:Hp):U Th->U V->Prop
|[],vs=>vs=[]
|t::ts,vs=>∃v r,vs=v::r/\Has K H t v/\HasL K H ts r
end
noncomputable def Th.ty:Th->Rr
|.non=>"NoneType" |.bl _=>"bool" |.int _=>"int" |.str _=>"str" |.tup _=>"tuple" |.lst _=>"list"
def isI (c:Rr)(t:Th):Rl:=t.ty==c || (t.ty=="bool"&&c=="int")
theorem kit_type {K:Ly}{A a:Rr}:NZ K (.type A) (.type a)=NZ [] (.type A) (.type a):=by unfold NZ PySem.W.kitCls Qq;rfl
theorem C2:∀c∈["tuple","str","bool","int","list"],∀n∈["NoneType","bool","int","str","tuple","list"],NZ [] (.type n) (.type c)=Y (n==c || (n=="bool"&&c=="int")):=by decide +kernel
theorem DY (t:Th):t.ty∈["NoneType","bool","int","str","tuple","list"]:=by cases t<;>simp[Th.ty]
theorem Ec {c:Rr}(a:c∈["tuple","str","bool","int","list"])(t:Th):NZ [] (.type t.ty) (.type c)=Y (isI c t):=C2 c a t.ty<|DY t
structure DTab (K:Ly)(w:LA)(a:Rj)(T:U (Str×V)):Prop where
 ex:∃es n,K.lookup a=Y ⟨.type "dict",J,.dict es n,#[]⟩/\Qz w.params es.toList/\Paired (λ(p:Str×V) (e:RC)=>(∃t,e.key=.str p.1 t)/\RelV p.2 e.val) T es.toList
 lo:(a==NJ)=Lv
theorem lT {x:Str}:∀{T:U<|Str×V} {l:U RC},Paired (λ(p:Str×V) (e:RC)=>(∃t,e.key=.str p.1 t)/\RelV p.2 e.val) T l->RelO (T.lookup x) ((l.find? λd=>Value.isStrOf x d.key).map (·.val))
|_,_,.nil=>trivial
| (k,v)::T,e::l,.cons ⟨⟨t,b⟩,c⟩ r=>by
 have f:=lT (x:=x) r
 have q:Value.isStrOf x e.key=(x==k):=by
  have a:e.key=.str k t:=b;rw[a];show(k==x)=(x==k);by_cases z:x=k
  .subst z;rfl
  .rw[RN z,RN<|Mx z]
 rw[List.find?_cons,q,Na];cases x==k with
 |true=>exact c
 |false=>exact f
theorem DTab.map {K:Ly}{w:LA}{a:Rj}{T:U<|Str×V}{P:Ro}{h:Rx}(D:DTab K w a T)(X:K.In h):∃f:Str->L B,h.MapOf (strKind P w) a f/\∀x,RelO (T.lookup x) (f x):=by
 obtain⟨b,n,c,g,i⟩:=D.ex;refine⟨_,PySem.W.mapOf_K (prog:=P) X c g,λx=>?_⟩;have q:=lT (x:=x) i;have e:findBy Value.isStrOf b x=(b.toList.find? λd=>Value.isStrOf x d.key).map (·.val):=by unfold findBy;rw[<- QY]
 rw[e];exact q
theorem RelO.some_is {v:V}{o:L B}(r:RelO (Y v) o):∃u,o=Y u/\RelV v u:=by
 cases o with
 |none=>exact r.elim
 |some u=>exact⟨u,rfl,r⟩
theorem RelO.same_some {o:L V}{u:L B}(r:RelO o u):u.isSome=o.isSome:=by
 cases o with
 |none=>
  cases u with
  |none=>rfl
  |some u=>exact r.elim
 |some v=>obtain⟨u,rfl,_⟩:=RelO.some_is r;rfl
section
variable {X:Cx}
theorem uP:OpR X (Mg .In) (λx y H Q=>∃z a T,x=.str z/\y=.ref a/\DTab X.K X.w a T/\Q (.bl (T.lookup z).isSome) H):=by intro c s j H x y v u Q b g i h;obtain⟨z,a,T,rfl,rfl,D,q⟩:=h;obtain⟨t,rfl⟩:=g;cases i;obtain⟨f,e,d⟩:=D.map (P:=X.prog) b.kIn;refine wpAny_in_of (Oj X.prog X.w z t) D.lo e ?_;rw[RelO.same_some<|d z];exact⟨.bl (T.lookup z).isSome,H,b.tok _,rfl,q⟩
theorem mm:OpR X (Mg .NotIn) (λx y H Q=>∃z a T,x=.str z/\y=.ref a/\DTab X.K X.w a T/\Q (.bl<|!(T.lookup z).isSome) H):=by intro c s j H x y v u Q b g i h;obtain⟨z,a,T,rfl,rfl,D,q⟩:=h;obtain⟨t,rfl⟩:=g;cases i;obtain⟨f,e,d⟩:=D.map (P:=X.prog) b.kIn;refine wpAny_notIn_of (Oj X.prog X.w z t) D.lo e ?_;rw[RelO.same_some<|d z];exact⟨.bl<|!(T.lookup z).isSome,H,b.tok _,rfl,q⟩
theorem Ct:IxR X (λx y H Q=>∃a z T v,x=.ref a/\y=.str z/\DTab X.K X.w a T/\T.lookup z=Y v/\Q v H):=by intro d c i s p H x y v u Q b m n h k;obtain⟨a,z,T,r,rfl,rfl,D,l,q⟩:=h;cases m;obtain⟨t,rfl⟩:=n;obtain⟨f,g,j⟩:=D.map (P:=X.prog) b.kIn;have e:=j z;rw[l] at e;obtain⟨o,e1,e2⟩:=RelO.some_is e;exact tail_any g.typeIs PySem.F.slot_dict_getitem.lookup (wpAny_getItem_of (Oj X.prog X.w z t) g e1 ⟨r,H,b.tok _,e2,q⟩) k
end
theorem lN {H:Hp}{p:Rj}(h:H p=J)(o:HO):Same H (upd H p o):=λb u q=>by rw[ah<|aM q h];exact q
def BN (K:Ly):R2:=λx y H Q=>∃a b d f,x=.ref a/\y=.ref b/\SqT K H a d/\SqT K H b f/\d≠[]/\d.length+f.length<=sizeLine/\∀v e,Same H e->(∃c,v=.ref c/\SqT K e c (d++f))->Q v e
theorem pb {X:Cx}:OpR X (Mv .Add) (BN X.K):=λd s m H x y v u Q c i j h=>by obtain⟨a,b,k,l,e1,e2,e,f,hx,g,q⟩:=h;exact Ad d s m H x y v u Q c i j ⟨a,b,k,l,e1,e2,e,f,hx,g,λz=>q _ _ (Same.refl _) ⟨a,rfl,by rw[z,LW];exact e⟩,λ_ p hp=>q _ _ (lN hp _) ⟨p,rfl,SqT.of au⟩⟩
theorem GD {X:Cx}{x:Str}{T:Rr}{a:Pos}(b:Gl X x)(c:X.mg x=J)(e:Np x=Y (.type T))(d:x≠"__name__":=by decide)(hd:(x==("__debug__":Str))=false:=by decide):PE X (.Name x a) (tC<|.ty T):=zH (v:=.ty T) b c e rfl d hd
theorem jJ {X:Cx}{x:Str}{a:Rj}{b:Pos}(c:Gl X x)(d:X.mg x=Y (.ref a))(hd:(x==("__debug__":Str))=false:=by decide):PE X (.Name x b) (tC<|.ref a):=gK (v:=.ref a) c d rfl hd
mutual
def toD:Th->PyData
|.non=>.none
|.bl b=>.bool b
|.int i=>.int i
|.str x=>.str x
|.tup ts=>.tuple<|gg ts
|.lst ts=>.list<|gg ts
def gg:U Th->U PyData
|[]=>[]
|t::ts=>toD t::gg ts
end
section
variable {X:Cx}{pins:U (Rj×Obj)}{σ:L2.St}{H:Hp}{s:Lx}
mutual
theorem Has.reads (I:Inv X pins σ H s):∀{t:Th} {v:V} {u:B},Has X.K H t v->RelV v u->∃as,Reads s.heap u (toD t) as
|.non,_,u,h,r=>by obtain rfl:_=V.non:=h;obtain rfl:u=Value.none:=r;exact⟨_,.none⟩
|.bl b,_,u,h,r=>by obtain rfl:_=V.bl b:=h;obtain rfl:u=Value.bool b:=r;exact⟨_,.bool b⟩
|.int i,_,u,h,r=>by obtain rfl:_=V.int i:=h;obtain⟨t,rfl⟩:∃t,u=Value.int i t:=r;exact⟨_,.int i t⟩
|.str x,_,u,h,r=>by obtain rfl:_=V.str x:=h;obtain⟨t,rfl⟩:∃t,u=Value.str x t:=r;exact⟨_,.str x t⟩
|.tup ts,_,u,⟨a,vs,e,hS,hL⟩,r=>by subst e;obtain rfl:u=Value.ref a:=r;obtain⟨its,rv,⟨o,h1,h2,n,h3⟩,_⟩:=I.tuple hS;obtain⟨as,ra⟩:=HasL.reads I hL rv;exact⟨_,.tuple h1 h2 h3<|by simpa using ra⟩
|.lst ts,_,u,⟨a,vs,e,hS,hL⟩,r=>by subst e;obtain rfl:u=Value.ref a:=r;obtain⟨its,rv,⟨o,n,h1,h2,_,h3⟩,_⟩:=I.list<|SqL.of hS;obtain⟨as,ra⟩:=HasL.reads I hL rv;exact⟨_,.list h1 h2 h3<|by simpa using ra⟩
theorem HasL.reads (I:Inv X pins σ H s):∀{ts:U Th} {vs:U V} {us:U B},HasL X.K H ts vs->Vals vs us->∃as,ReadsAll s.heap us (gg ts) as
|[],vs,us,h,r=>by obtain rfl:vs=[]:=h;cases r;exact⟨_,.nil⟩
| t::ts,vs,us,⟨v,w',e,h1,h2⟩,r=>by
 subst e;cases r with
 |cons r1 r2=>obtain⟨as,ra⟩:=Has.reads I h1 r1;obtain⟨bs,rb⟩:=HasL.reads I h2 r2;exact⟨_,.cons ra rb⟩
end
end
abbrev ko (t:Th):Prop:=SeqAt.shaped (toD t)=Lw
theorem oN {X:Cx}(f:X.A.units+64<cLine):OpR X (Mg .Eq) (λx y H Q=>∃t b,Has X.K H t x/\Has X.K H b y/\ko t/\ko b/\Q (.bl<|PyData.eqv (toD t)<|toD b) H):=by intro c s m H x y v u Q a k l h;obtain⟨t,b,d,e,g,o2,q⟩:=h;obtain⟨as,i⟩:=Has.reads a d k;obtain⟨bs,j⟩:=Has.reads a e l;exact Rh i j g o2 f ⟨.bl _,H,a,rfl,q⟩
theorem AQ {X:Cx}(f:X.A.units+64<cLine):OpR X (Mg .NotEq) (λx y H Q=>∃t b,Has X.K H t x/\Has X.K H b y/\ko t/\ko b/\Q (.bl<|!PyData.eqv (toD t) (toD b)) H):=by intro c s m H x y v u Q a k l h;obtain⟨t,b,d,e,g,o2,q⟩:=h;obtain⟨as,i⟩:=Has.reads a d k;obtain⟨bs,j⟩:=Has.reads a e l;exact Rg i j g o2 f ⟨.bl _,H,a,rfl,q⟩
section
variable {prog:Ro}{w:LA}{A:LS}{E:B->Lx->Prop}{s:Lx}
theorem fv {t i:Rj}{a:RD B}{l m:B}{lo d:L I}{Q:B->Lx->Prop}(b:RV s.heap t a)(j:s.heap.IsSliceOf i l m .none)(o:MX l lo)(p:MX m d)
  (k:HT.sIx a.size 0 lo=0/\HT.sIx a.size a.size d=a.size) (h:Q (.ref t) s):Rp (LC prog w) A (NO (.ref t)<|.ref i) Q E s:=by
 obtain⟨os,g,f,n⟩:=id j;have e:s.TypeIs (.ref i) "slice":=⟨os,g,f⟩;unfold NO
 try with_reducible refine N3 ?_
 first|refine LD (LN ?_)|skip
 refine LD<|wpAny_sequenceKey b.typeIs (by decide) ?_
 refine LD (Oc (name:=Str.ofString "__getitem__") b.typeIs Oa
  (OI Oa b.typeIs entry_tuple_getitem ?_<|args_tuple_getitem _ _))
 show Rp _ _ (Builtin.Tuple.tupleItemsOf (.ref t) >>= _) _ _ s;refine LD<|tupleItemsOf_ b ?_;refine LD<|RY e ?_;rw[Rk<|by decide];refine LD<|HT.sliceApplied_gen j o p ?_;have c:(((HT.sIx a.size 0 lo:O):I)==0&&(1:I)==1&&(HT.sIx a.size a.size d-HT.sIx a.size 0 lo)==a.size)=true:=by rw[k.1,k.2];simp
 show Rp _ _ (if(((HT.sIx a.size 0 lo:O):I)==0&&(1:I)==1&&(HT.sIx a.size a.size d-HT.sIx a.size 0 lo)==a.size)=Lw then _ else _) _ _ s;rw[Rk c];unfold Builtin.Tuple.tupleIsExact;refine LD<|LD<|RY b.typeIs<|LN ?_;rw[Rk<|by decide]
 first
  |exact LD<|wpAny_rule<|LN ⟨_,rfl,LN h⟩
  |exact LD<|wpAny_rule<|LD<|LN<|LN ⟨_,rfl,LN h⟩
end
section
variable {X:Cx}
def yo (K:Ly):V->L I->L I->Hp->VK->Prop:=λx lo e H Q=>∃a d,x=.ref a/\SqT K H a d/\∀v b,Same H b->(∃c,v=.ref c/\SqT K b c (fG d lo e))->Q v b
theorem pS:SlR X (yo X.K):=by
 intro f s y H x v u w lo i t Q b o k m n h;obtain⟨a,c,rfl,hx,q⟩:=h;by_cases g:HT.sIx c.length 0 lo=0/\HT.sIx c.length c.length i=c.length
 .cases o;obtain⟨j,r,l,z⟩:=b.tuple hx;have d:j.toArray.size=c.length:=by rw[LZ];exact r.length.symm
  refine⟨"tuple",_,Oa.lookup,l.typeIs,?_⟩;refine fv l k m n (by rw[d];exact g) ⟨.ref a,H,b,rfl,q _ _ (Same.refl H) ⟨a,rfl,?_⟩⟩;have e:fG c lo i=c:=by unfold fG;rw[g.1,g.2];simp
  rw[e];exact hx
 .exact FI f s y H _ v u w lo i t Q b o k m n ⟨a,c,rfl,hx,g,λp hp=>q _ _ (lN hp _) ⟨p,rfl,SqT.of au⟩⟩
end
def KP (K:Ly):R2:=λx y H Q=>∃p a i v,x=.ref p/\y=.int i/\(SqL K H p a\/SqT K H p a)/\atI a i=Y v/\Q v H
theorem ix_any {X:Cx}:IxR X (KP X.K):=λc b d s m H x y v u Q a j k h g=>by
 obtain⟨p,l,i,z,e1,e2,e,f,q⟩:=h;rcases e with e|e
 .exact Ac c b d s m H x y v u Q a j k ⟨p,l,i,z,e1,e2,e,f,q⟩ g
 .exact Fq c b d s m H x y v u Q a j k ⟨p,l,i,z,e1,e2,e,f,q⟩ g
end L3

namespace L3
open PySem PySem.Spec PySem.Builtin PySem.Builtin.Str PyProof.Rows L2
theorem jm:∀{b:U MF} {a:U B},Vals (b.map V.str) a->∃l:U<|MF×Tok,a=R3 l/\l.map (·.1)=b
|[],_,h=>by cases h;exact⟨[],rfl,rfl⟩
| t::b,_,h=>by
 cases h with
 |cons c d=>obtain⟨k,rfl⟩:=c;obtain⟨l,rfl,e⟩:=jm d;exact⟨(t,k)::l,rfl,by rw[LJ,e]⟩
theorem fg:∀(l:U<|MF×Tok),Vals ((l.map (·.1)).map V.str)<|R3 l
|[]=>.nil
|p::l=>.cons ⟨p.2,rfl⟩<|fg l
section
variable {X:Cx}
def BD (K:Ly):V->U V->Hp->VK->Prop:=λx b H Q=>∃z p a,x=.str z/\b=[.ref p]/\SqL K H p (a.map V.str)/\JoinOk z a=Lw/\Q (.str<|Mj z a) H
theorem AJ:MtR X "str.join" (BD X.K):=by intro d s A H x y v w Q a n m h;obtain⟨z,p,b,rfl,rfl,f,c,q⟩:=h;obtain⟨t,rfl⟩:=n;obtain⟨u,rfl,j⟩:=m.one;cases j;obtain⟨g,r,i,_⟩:=a.list f;obtain⟨l,rfl,e⟩:=jm r;exact SC.join i.isList e c λo k=>⟨.str<|Mj z b,H,a.tok _,⟨o,by rw[show Txt.join z b=Mj z b from StrLaws.glued_eq_join z b]⟩,q⟩
def vw:V->U V->Hp->VK->Prop:=λx a H Q=>∃z y,x=.str z/\a=[.str y]/\(y.length==0)=Lv/\z.length+2<=sizeLine/\∀p,H p=J->Q (.ref p) (upd H p<|.lst<|(Txt.split z y).map V.str)
theorem vA:MtR X "str.split" vw:=by
 intro c s m H x r v p Q a j i h;obtain⟨x,y,rfl,rfl,d,f,q⟩:=h;obtain⟨t,rfl⟩:=j;obtain⟨n,rfl,g⟩:=i.one;obtain⟨u,rfl⟩:=g;have b:(Txt.split x y).length<=sizeLine:=by have:=StrLaws.occ_length_le x y 0 x.length<|x.length+1;simp only[Txt.split,apply_ite Me,length_partsBetween,L0];split<;>(try split)<;>lia
 have out:∀(l:U (MF×Tok)) (k:O),Txt.split x y=l.map (·.1)->EP X c m Q (.ref s.heap.objs.size) {s with heap:=s.heap.push {cls:=.type "list",data:=.seq (R3 l).toArray},toks:=k}:=λl k e=>
  ⟨.ref _,_,a.lnew (t':=k) (its:=R3 l) (ys:=(Txt.split x y).map V.str) (by rw[e];exact fg l)<|by rw[LB];exact b,rfl,q _ a.fresh⟩
 unfold Txt.split at b out;split at out
 next no=>exact Nl F.slot_str_split (Ol _ _ _) F.entry_str_split (F.args_str_split_2 _ _) (meets_str_split_cannot_occur x y t u no)<|out [(x,t)] s.toks rfl
 next may=>
  rw[Rn may] at b;rw[P7] at may;split at out
  next no=>exact Nl F.slot_str_split (Ol _ _ _) F.entry_str_split (F.args_str_split_2 _ _) (meets_str_split_not_found x y t u may d no)<|out [(x,t)] s.toks rfl
  next yes=>rw[Rn yes] at b;rw[P7] at yes;have o:=λk=>out (numbered s.toks _) k (numbered_texts s.toks _).symm;rw[<- strsFrom_eq] at o;exact Nl F.slot_str_split (Ol _ _ _) F.entry_str_split (F.args_str_split_2 _ _) (meets_str_split_sep x y t u may d yes (by lia) b)<|o _
end
theorem lU {f:Type}{c:f}:∀{x y r z:U f},c ∉ x->c ∉ y->x++c::r=y++c::z->x=y/\r=z
|[],[],_,_,_,_,e=>⟨rfl,(Ot e).2⟩
|[],b::y,_,_,_,d,e=>Rm (by rw[(Ot e).1];exact LI) d
|a::x,[],_,_,hx,_,e=>Rm (by rw[<- (Ot e).1];exact LI) hx
|a::x,b::y,r,z,hx,d,e=>by obtain⟨g,h⟩:=lU (λm=>hx<|LO _ m) (λm=>d<|LO _ m) (Ot e).2;exact⟨by rw[g,(Ot e).1],h⟩
theorem bo (x y:MF):(x++y).cps.toList=x.cps.toList++y.cps.toList:=Q2
theorem mr (c:O):∀(g i:U MF),g≠[]->i≠[]->(∀p∈g,c ∉ p.cps.toList)->(∀p∈i,c ∉ p.cps.toList)->Mj ⟨#[c]⟩ g=Mj ⟨#[c]⟩ i->g=i
|[],_,h,_,_,_,_=>Rm rfl h
|_::_,[],_,h,_,_,_=>Rm rfl h
|[x],[y],_,_,_,_,e=>by rw[show x=y from e]
|[x],y::b::r,_,_,hx,_,e=>by have d:x=y++⟨#[c]⟩++Mj ⟨#[c]⟩ (b::r):=e;refine Rm ?_<|hx x LI;rw[d,bo,bo];exact Nb _<|L9 _ LI
|x::a::r,[y],_,_,_,f,e=>by have d:x++⟨#[c]⟩++Mj ⟨#[c]⟩ (a::r)=y:=e;refine Rm ?_<|f y LI;rw[<- d,bo,bo];exact Nb _<|L9 _ LI
| x::a::r,y::b::z,_,_,hx,f,e=>by
 have d:x++⟨#[c]⟩++Mj ⟨#[c]⟩ (a::r)=y++⟨#[c]⟩++Mj ⟨#[c]⟩ (b::z):=e;have e2:=Rw (λs=>s.cps.toList) d;simp only[bo] at e2;have e3:x.cps.toList++c::(Mj ⟨#[c]⟩ (a::r)).cps.toList=y.cps.toList++c::(Mj ⟨#[c]⟩ (b::z)).cps.toList:=by simpa using e2
 obtain⟨l,j⟩:=lU (hx x LI) (f y LI) e3;have k:x=y:=by cases x;cases y;exact Rw Pe<|OQ.mp l
 have m:Mj ⟨#[c]⟩ (a::r)=Mj ⟨#[c]⟩ (b::z):=by revert j;generalize Mj ⟨#[c]⟩ (a::r)=u;generalize Mj ⟨#[c]⟩ (b::z)=v;intro j;cases u;cases v;exact Rw Pe<|OQ.mp j
 rw[k,mr c (a::r) (b::z) (Mq _ _) (Mq _ _) (λp hp=>hx p<|LO _ hp) (λp hp=>f p<|LO _ hp) m]
theorem xr (x y:MF):Txt.split x y≠[]:=by
 unfold Txt.split;split
 .exact Mq _ _
 .split
  .exact Mq _ _
  .intro h;have e:=Rw Me h;rw[length_partsBetween] at e;exact Rm e<|Nat.succ_ne_zero _
end L3

namespace L3
open PySem PySem.Spec PyProof.Rows L2
def ItO (h:Rx):Rl->Rj->Rj->O->Prop
|true,b,a,n=>h.IsTupleIter b a n
|false,b,a,n=>h.IsListIter b a n
section
variable {prog:Ro}{w:LA}{A:LS}{E:B->Lx->Prop}{s:Lx}
theorem nG {b t:Rj}{i:O}{f:RD B}{x:B}{Q:B->Lx->Prop}(a:s.heap.IsTupleIter b t i)(j:s.heap.IsTuple t f)(hx:f[i]?=Y x)
  (q:∀e,e.IsTupleIter b t (i+1)->Heap.SameBut b s.heap e->Q x {s with heap:=e}):Rp (LC prog w) A (Builtin.SmallTypes.nextOf<|.ref b) Q E s:=by
 obtain⟨u,d,g,c⟩:=id a;obtain⟨v,k,_,l,h⟩:=j;unfold Builtin.SmallTypes.nextOf;refine LD<|Oc (name:=Str.ofString "__next__") a.typeIs F.slot_tuple_iterator_next<|OI F.slot_tuple_iterator_next a.typeIs F.entry_tuple_iterator_next ?_<|F.args_tuple_iterator_next_1 _;show Rp _ _ (field (.ref b) 0 >>= _) _ _ _;refine LD<|NM d c (x:=.ref t) rfl ?_;show Rp _ _ (if(Value.ref t==Value.none)=Lw then _ else _) _ _ _;rw[Rn<|by intro z;cases z];show Rp _ _ (field (.ref b) 1 >>= _) _ _ _;refine LD<|NM d c (x:=.int i 0) rfl ?_;show Rp _ _ (seqItems? (.ref t) >>= _) _ _ _;refine LD<|wpAny_seqItems k h ?_;simp only[hx,Qb];exact LD<|wpAny_setField d c (by simp)<|LN ⟨x,rfl,LN<|q _ ⟨_,Heap.get?_update_self _ d<|Obj.isFreed_of_fields<|Obj.data_mapFields c _,(Obj.cls_mapFields ..).trans g,by rw[Obj.data_mapFields c];simp[rawInt]⟩<|Heap.SameBut.update ..⟩
theorem jb {c t:Rj}{i:O}{j:RD B}{Q:B->Lx->Prop}(h:A.handled=J)(b:s.heap.IsTupleIter c t i)(l:s.heap.IsTuple t j)(hx:j[i]?=J)
  (q:∀f e,Heap.ExtBut c s.heap f->(∃o,f.get? e=Y o/\o.cls=.type "StopIteration")->E (.ref e) {s with heap:=f}):Rp (LC prog w) A (Builtin.SmallTypes.nextOf<|.ref c) Q E s:=by
 obtain⟨u,g,p,d⟩:=id b;obtain⟨v,n,_,r,k⟩:=l;unfold Builtin.SmallTypes.nextOf;refine LD<|Oc (name:=Str.ofString "__next__") b.typeIs F.slot_tuple_iterator_next<|OI F.slot_tuple_iterator_next b.typeIs F.entry_tuple_iterator_next ?_<|F.args_tuple_iterator_next_1 _;show Rp _ _ (field (.ref c) 0 >>= _) _ _ _;refine LD<|NM g d (x:=.ref t) rfl ?_;show Rp _ _ (if(Value.ref t==Value.none)=Lw then _ else _) _ _ _;rw[Rn<|by intro z;cases z];show Rp _ _ (field (.ref c) 1 >>= _) _ _ _;refine LD<|NM g d (x:=.int i 0) rfl ?_;show Rp _ _ (seqItems? (.ref t) >>= _) _ _ _;refine LD<|wpAny_seqItems n k ?_;simp only[hx,Qb];refine LD<|wpAny_rule<|LD<|wpAny_setField g d (by simp) ?_;show Rp _ _ (newExc (.type "StopIteration") [] >>= _) _ _ _;refine LD ?_;simp only[newTuple,newExc];refine LD (NG ?_<|by size_fits);refine LD (m:=firstArgMember _ _) (wpAny_of_eq (a:=Value.none) (by first|rfl|(simp only[firstArgMember];rfl))<|NG ?_<|by size_fits);simp only[raiseNew];refine LD<|wpAny_handled ?_;first|rw[h]|rw[show A.in1.handled=J from h]
 exact LD<|LN<|wpAny_throw<|q _ _ (((Heap.SameBut.update ..).extBut.push _).push _) ⟨_,Heap.get?_push_size _ rfl,rfl⟩
end
section
variable {X:Cx}{pins:U (Rj×Obj)}{σ:L2.St}{H:Hp}{s:Lx}
theorem iz {f:Rx}{ch:U Rj}(a:Inv X pins σ H s)(h:∀b∈ch,H b=J)(k:∀b o,b ∉ ch->s.heap.get? b=Y o->f.get? b=Y o):HOk X.prog X.w H f:=λb u e=>by
 have d:∀b u,H b=Y u->b ∉ ch:=λb u e z=>by rw[h b z] at e;cases e
 refine(a.hok b u e).stay (λc v g q=>k c v ?_ q) (λ_ q=>q) λ_ _ q=>q;rcases g with z|z
 .rw[z];exact d b u e
 .exact d c _ z
theorem nV {g:Rx}{t':O}{ch:U Rj}(a:Inv X pins σ H s)(d:∀b∈ch,iX X pins H b)(k:∀b o,b ∉ ch->s.heap.get? b=Y o->g.get? b=Y o):Inv X pins σ H {s with heap:=g,toks:=t'}:=by
 refine a.step (g':=s.gens) (d':=s.drawn) (ch:=ch) (λb c=>⟨(d b c).2.2.2.1,(d b c).2.1,(d b c).2.2.2.2.1,(d b c).2.2.2.2.2⟩) (λb o _ _ f e _=>k b o f e) (λb o _ _ f e _=>⟨o.slots,k b o f e⟩) (λ_ _ _ _ n=>n)
  (λb o f e=>⟨o,k b o f e⟩) (λ_ _ e=>e) (λ_ _ _ e=>e) (λb ps e=>⟨#[],by rw[e];simp⟩) (λm i=>?_) (iz a (λb c=>(d b c).1) k) a.bare
 obtain⟨o,h,ep,ho,r⟩:=i;exact⟨o,h,ep,k _ o (λz=>(d _ z).2.1 rfl) ho,r⟩
theorem gY {i:Rx}{t':O}{ch:U Rj}{a:Rj}{j:U V}{d:U B}(c:Inv X pins σ H s)(g:∀b∈ch,iX X pins H b)(k:∀b o,b ∉ ch->s.heap.get? b=Y o->i.get? b=Y o)
  (l:s.heap.objs.size<=a) (x:j.length<=sizeLine) (w:Vals j d) (v:RV i a d.toArray):Inv X pins σ (upd H a<|.tup j) {s with heap:=i,toks:=t'}:=by
 have fr:H a=none:=c.hok.fresh l;have y:∀b o,s.heap.get? b=Y o->b≠a:=λb o e=>L5<|Mc (Heap.lt_size e) l
 refine c.step (g':=s.gens) (d':=s.drawn) (ch:=ch) (λb f=>⟨(g b f).2.2.2.1,(g b f).2.1,(g b f).2.2.2.2.1,(g b f).2.2.2.2.2⟩) (λb o _ _ h e _=>k b o h e) (λb o _ _ h e _=>⟨o.slots,k b o h e⟩) (λb o _ e n=>by rw[ah<|y b o e];exact n)
  (λb o h e=>⟨o,k b o h e⟩) (λb u e=>by rw[ah<|aM e fr];exact e) (λb o u e=>by rw[ah<|aM e fr];exact e) (λb ps e=>⟨#[],by rw[ah<|aM e fr,e];simp⟩) (λm t=>?_)
  (jr (iz c (λb f=>(g b f).1) k) fr ⟨x,d,w,v⟩) c.bare
 obtain⟨o,p,ep,ho,r⟩:=t;exact⟨o,p,ep,k _ o (λz=>(g _ z).2.1 rfl) ho,r⟩
end
structure aV (pre ys:U Str)(scope:RF):Prop where
 kind:scope.kind=.function
 cell:∀y∈scope.names,y.2≠.cell
 nm:∀y∈scope.names,y.2=.local->scope.names.lookup y.1=Y .local
 loc:∀x∈pre,scope.names.lookup x=Y .local
 nd:(pre++ys).Nodup
theorem wM {pre:U Str}{b:L2.St}{j:O}{v:V}(e:(LU pre.length J++b)[j]?=Y (Y v)):∃i,j=pre.length+i/\b[i]?=Y (Y v):=by
 by_cases a:j<pre.length
 .rw [Ob<|by rw [M4]; exact a,P0,Rk a] at e;cases Mf e
 .refine ⟨j-pre.length,by lia,?_⟩;rw[Nc<|by rw[M4];lia,M4] at e;exact e
theorem rH {X:Cx}{t:U<|Rj×Obj}{σ:L2.St}{H:Hp}{s:Lx}{pre D:U Str}{is:U O}{g:RF}{A:U<|Str×Rj}{Z:U Rj}{C:Rj}{h1:Rx}{t1:O}{m1:Str->L B}
  (f:Inv X t σ H s) (N:∀b∈Z,iX X t H b) (hfo:∀b∈Z,b<s.heap.objs.size) (S:aV pre D g) (h:Clo X A)
  (hfr:(g.names.all λp=>p.2 != .free || (A.lookup p.1).isSome)=Lw) (fr:Frees X g A D is)
  (M:s.heap.objs.size<=C) (m:∀b o,s.heap.get? b=Y o->h1.get? b=Y o) (hn:h1.Ns C m1):
  Inv (aD X (pre++D) g A C s H Z) t (LU pre.length J++da σ is) H {s with heap:=h1,toks:=t1}:=by
 have G:∀b,b≠X.env.locals->b ∉ X.fs->b ∉ frs X.stack:=λb q1 q2 w=>(LK.mp<|f.stkSub b w).elim q1 q2
 have F:∀a k,(NN g X.env).names.lookup a=Y k->(k=.cell\/k=.free)->∃c,A.lookup a=Y c:=λa k e hk=>by
  have hm:=N7 e;obtain⟨⟨n,k0⟩,hp,ep⟩:=Mm.mp hm
  have hk0:k0=.free/\n=a:=by
   dsimp only at ep;split at ep
   .rename_i hc;simp only[LQ] at hc;exact⟨eq_of_beq hc.1.1,(QE ep).1⟩
   .obtain ⟨e1,e2⟩:=QE ep;subst e2;rcases hk with z|z
    .exact Rm z (S.cell _ hp)
    .exact⟨z,e1⟩
  obtain⟨z1,z2⟩:=hk0;subst z1 z2;have q:=MN.mp hfr _ hp;have q2:(A.lookup n).isSome=true:=by simpa using q
  exact QV.mp q2
 refine⟨⟨f.ok.mod,S.kind,f.ok.glob,f.ok.blt,M,λa b c e1 e2=>f.ok.inj a b c (h.get e1)<|h.get e2,λa ha=>?_,λa c e=>Rm e LX,f.ok.hd,f.ok.frames,.inl rfl,
   λb w=>⟨L5<|Mc (hfo b w) M,λa c e=>(N b w).2.2.2.2.1 a c<|h.get e⟩,f.bs,LL f.ok.bsz f.sz,λb o e w=>?_,λb w=>G b (N b w).2.1 (N b w).2.2.1,f.stack,f.stkFree⟩,
  rfl,f.bare,Un.kept m,⟨m1,hn,λj y v e1 e2 e3=>?_⟩,λa c e=>?_,f.hok.fresh M,λa c e=>f.freeC a c<|h.get e,λp hp=>?_,f.hok.kept m,?_⟩
 .rcases ha with e | e
  .exact F a _ e (.inl rfl)
  .exact F a _ e (.inr rfl)
 .rcases (N b w).2.2.2.1 with z | z
  .exact f.ok.noex b o e z
  .exact Rm (Mc (Heap.lt_size (f.ok.bs b o e).1) z) (NX _)
 .obtain ⟨k,rfl,Q⟩:=wM e2;have P:D[k]?=Y y:=by have x:(pre++D)[pre.length+k]?=Y y:=e1;rw[Nc (by lia),QT] at x;exact x
  obtain⟨i,c,g1,g2,g3,g4,g5,g6,g7⟩:=fr.get (σ:=σ) P Q;obtain⟨m0,hn0,hl0⟩:=f.loc;obtain⟨u,r,l⟩:=hl0 i y v g1 g2 g3;rcases l with⟨k,_⟩|⟨_,c',e',z⟩
  .rcases g4 with q | q
   .rw[k] at q;cases q
   .rw[k] at q;cases q
  .rw [g5] at e';cases e';obtain⟨o,ho,hd⟩:=z;exact⟨u,r,.inr ⟨g7,c,g6,⟨o,m _ _ ho,hd⟩⟩⟩
 .obtain ⟨v,o,ho,hd⟩:=f.cell a c<|h.get e;exact⟨v,o,m _ _ ho,hd⟩
 .obtain ⟨e,n,ne,nf,d⟩:=f.pin p hp;exact⟨m _ _ e,n,L5<|Mc (Heap.lt_size e) M,G _ ne nf,d⟩
 .show (LU pre.length J++da σ is).length=(pre++D).length;unfold da;rw[LH,LH,M4,LB,fr.len]
section
variable {prog:Ro}{w:LA}{A:LS}{R:R7->Lx->Prop}{s:Lx}
theorem la {u P j f:Rv}{c:RF}{M:Pos}{N t:B}{b:Env}(a:O->Lx->Prop)
  (turn:∀ n s,a n s->Rp (LC prog w) A (pyNext N) (fun r d=>match r with
   |none=>R (.ok .next) d
   | some v=>Rp (LC prog w) A (N4 P N v) (fun _ k=>Rp (LC prog w) A (RU P b v) (fun _ l=>Rp (LC prog w) A (R6 f b (Rz f b)) (fun ok e=>if ok=Lw then
     Rp (LC prog w) A (Rz u b) (λy o=>Rp (LC prog w) A (call (.builtin "list.append") [t,y]) (λ_ p=>∃m,m<n/\a m p) noX o) noX e else∃m,m<n/\a m e) noX l) noX k) noX d) noX s)
  (n:O) (h:a n s):MQ (LC prog w) A (.compLoop (.ListComp u [⟨P,j,[f],0⟩] c M) 0 N t b) R s:=by
 refine codeAny_loop rfl a (λn s Q=>?_) n h;show Rp _ A ((compTurn (.ListComp u [⟨P,j,[f],0⟩] c M) 0 N t b).onRaise (λx=>do noteFrame x b;theTreesLotGoes x)) _ _ s;refine wpAny_noted ?_;rw[compTurn_list];refine LD<|RS<|LD<|Mh (turn n s Q) (λr d g=>?_) λ_ _ z=>z.elim;cases r with
 |none=>exact LN g
 |some v=>
  refine LD<|Mh g (λ_ k D=>?_) λ_ _ z=>z.elim;refine LD<|Mh D (λ_ l F=>?_) λ_ _ z=>z.elim;refine LD<|wpAny_tests_one<|Mh F (λok e i=>?_) λ_ _ z=>z.elim;cases ok with
  |true=>exact LD<|LD<|Mh i (λy o G=>LD<|Mh G (λ_ p H=>LN<|LN ⟨rfl,H⟩) λ_ _ z=>z.elim) λ_ _ z=>z.elim
  |false=>exact LD<|LN<|LN ⟨rfl,i⟩
end
end L3

namespace L3
open PySem PySem.Spec PyProof.Rows L2
def zD (n:O)(a:It)(g:TG)(o:TT)(r:TE)(c:L2.St)(j:Hp)(Q:VK):Prop:=∃W:O->O->U V->Hp->Prop,(∃m,W 0 m [] j)/\∀i m d H,W i m d H ->
 (a.stop i H/\d.length<=sizeLine/\∀p,H p=J->Q (.ref p) (upd H p<|.lst d)) \/
 (a.go i H/\d.length<sizeLine/\∀x f,a.yld i H x f->g x (LU n J++c) f λb k=>(b.length=n+c.length/\b.drop n=c)/\o b k λok h=>if ok=Lw then r b h λy l=>∃e,e<m/\W (i+1) e (d++[y]) l else∃e,e<m/\W (i+1) e d h)
def yI (n:O)(a:It)(g:TG)(l:TE)(b:L2.St)(h:Hp)(Q:VK):Prop:=∃W:O->O->U V->Hp->Prop,(∃m,W 0 m [] h)/\∀i m d H,W i m d H ->
 (a.stop i H/\d.length<=sizeLine/\∀p,H p=J->Q (.ref p) (upd H p<|.lst d)) \/
 (a.go i H/\d.length<sizeLine/\∀x e,a.yld i H x e->g x (LU n J++b) e λc j=>(c.length=n+b.length/\c.drop n=b)/\l c j λy k=>∃f,f<m/\W (i+1) f (d++[y]) k)
def j4 (n:O)(h:TI)(d:U O)(g:TG)(e:TT)(f:TE):TE:=λb H Q=>h b H λa c=>zD n a g e f (da b d) c Q
def kq (n:O)(f:TI)(d:U O)(g:TG)(e:TE):TE:=λb H Q=>f b H λa c=>yI n a g e (da b d) c Q
theorem rL {n:O}{b a:L2.St}(h:b.drop n=a){j:O}{w:V}(e:(LU n J++a)[j]?=Y (Y w)):b[j]?=Y (Y w):=by
 by_cases c:j<n
 .rw [Ob<|by simpa using c,P0,Rk c] at e;cases Mf e
 .rw [Nc<|by simpa using c,M4,<- h,List.getElem?_drop,Nat.add_sub_cancel'<|by lia] at e;exact e
def CW (X:Cx)(a:U Rv)(k:Rl->Lx->Prop)(s:Lx):Prop:=match a with
|[]=>k Lw s
|[c]=>Rp (LC X.prog X.w) X.A (R6 c X.env<|Rz c X.env) k noX s
|_=>RB
def PC (X:Cx)(d:U Rv)(f:TT):Prop:=∀(a:U<|Rj×Obj) (s:Lx) (b:L2.St) (H:Hp) (Q:Rl->Hp->Prop),Inv X a b H s->f b H Q->CW X d (λok e=>∃c,Inv X a b c e/\Q ok c) s
theorem CW.mono {X:Cx}{a:U Rv}{k d:Rl->Lx->Prop}{s:Lx}(h:CW X a k s)(w:∀b s,k b s->d b s):CW X a d s:=by
 match a,h with
 |[],h=>exact w _ _ h
 |[c],h=>exact Mh h w λ_ _ z=>z
theorem kR {X:Cx}{g z i:Rv}{p:U Rv}{e:RF}{x:Pos}{u f:B}{R:R7->Lx->Prop}{s:Lx}(a:O->Lx->Prop)
  (turn:∀ n s,a n s->Rp (LC X.prog X.w) X.A (pyNext u) (fun r b=>match r with
   |none=>R (.ok .next) b
   | some v=>Rp (LC X.prog X.w) X.A (N4 z u v) (fun _ j=>Rp (LC X.prog X.w) X.A (RU z X.env v) (fun _ k=>CW X p (fun ok d=>if ok=Lw then
     Rp (LC X.prog X.w) X.A (Rz g X.env) (λy l=>Rp (LC X.prog X.w) X.A (call (.builtin "list.append") [f,y]) (λ_ o=>∃m,m<n/\a m o) noX l) noX d else∃m,m<n/\a m d) k) noX j) noX b) noX s)
  (n:O) (h:a n s) (t:p.length<=1):MQ (LC X.prog X.w) X.A (.compLoop (.ListComp g [⟨z,i,p,0⟩] e x) 0 u f X.env) R s:=by
 match p,t with
 |[],_=>exact nA a turn n h
 |[c],_=>exact la a turn n h
theorem mF {X:Cx}{elt P tg:Rv}{cs:U Rv}{pre:U Str}{pos:Pos}{l:RF}{N:U<|Str×Rj}{Z:U Str}{is:U O}{wi:TI}{g:TG}{te:TE}{tc:TT}{use:L<|B->Sem Unit}{Q:VK}{Qp:B->Lx->Prop}{m:U<|Rj×Obj}{s:Lx}{σ:L2.St}{H:Hp}{ip:Pos}
  (hc:X.calm=Lw) (hi:PI X tg P wi) (hg:∀C s H F,PG (aD X (pre++Z) l N C s H F) tg g) (he:∀C s H F,PE (aD X (pre++Z) l N C s H F) elt te) (hcd:∀C s H F,PC (aD X (pre++Z) l N C s H F) cs tc) (hcs:cs.length<=1)
  (hclos:NI l X.env=pure N) (S:aV pre Z l) (hcl:Clo X N) (hfr:(l.names.all λp=>p.2 != .free || (N.lookup p.1).isSome)=Lw) (fr:Frees X l N Z is) (hs:∀v,MW P X.env v=pure v)
  (fin:∀(s4:Lx) (Hn:Hp) (D k:Rj) (m4:Str->L B),Inv X m σ Hn s4->s4.heap.Ns k m4->k≠X.env.locals->(∀a c,X.env.cells.lookup a=Y c->c≠k)->Hn k=J->X.s₀.heap.objs.size<=k->(∀p∈X.pn++m,p.1≠k)->Q (.ref D) Hn->compPost (LC X.prog X.w) X.A X.xe use Qp (.ref D) k (.ok .next) s4)
  (d:Inv X m σ H s) (h:j4 pre.length wi is g tc te σ H Q):
  Rp (LC X.prog X.w) X.A (RT (.ListComp elt [⟨tg,P,cs,0⟩] l pos) l X.env ip (newList []) Lv (Rz P X.env) use) Qp X.xe s:=by
 refine wpAny_comprehension_free (use:=use) rfl hs hclos S.kind S.nm (thn (hi m s σ H _ d h) λxv s1 h1=>thn h1 λitv s2 h2=>?_);obtain⟨it,F,tn,f,M,rfl,I2,T,st2,f2,W,⟨m0,w0⟩,turn⟩:=h2;have fpo:∀b∈F,b<s2.heap.objs.size:=λb t=>by obtain⟨o,e,_⟩:=T.obj _ _ st2 b t;exact Heap.lt_size e
 refine NG<|wpAny_newFunctionEnv S.cell (λy hy=>by cases hy) (λg' hns hsb=>?_) S.kind;dsimp only at hns hsb ⊢;generalize hP2:s2.heap.push {cls:=.type "list",dict:=J,data:=.seq ([]:U B).toArray}=P2 at hns hsb ⊢;have hCs:P2.objs.size=s2.heap.objs.size+1:=by rw[<- hP2,Heap.size_push]
 have hDC:s2.heap.objs.size≠P2.objs.size:=by lia
 have hle:s2.heap.objs.size<=P2.objs.size:=by lia
 have nc:∀b o,s2.heap.get? b=Y o->b≠P2.objs.size:=λb o e=>L5<|Mc (Heap.lt_size e) hle;have nd:∀b o,s2.heap.get? b=Y o->b≠s2.heap.objs.size:=λb o e=>L5<|Heap.lt_size e;have ndH:∀b u,M b=Y u->b≠s2.heap.objs.size:=λb u e=>L5<|I2.hok.lt e;have old:∀b o,s2.heap.get? b=Y o->g'.get? b=Y o:=λb o e=>hsb.extBut b o (nc b o e)<|Heap.get?_push_of_some _<|hP2 ▸ Heap.get?_push_of_some _ e;have accD:g'.get? s2.heap.objs.size=Y (kF []):=hsb.extBut _ _ hDC<|Heap.get?_push_of_some _<|hP2 ▸ Heap.get?_push_size _ rfl;have stkD:s2.heap.objs.size ∉ frs X.stack:=λt=>(LK.mp<|I2.stkSub _ t).elim (λz=>Rm z<|Oq I2.lt)<|I2.nofs<|LM _;generalize hσ':da σ is=σ' at turn;have I3:Inv (aD X (pre++Z) l N P2.objs.size s2 M F) m (LU pre.length J++σ') M {s2 with heap:=g',toks:=s2.toks+([]:U<|Str×B).length}:=by rw[<- hσ'];exact rH (pre:=pre) I2 f2 fpo S hcl hfr fr hle old hns
 have stat:∀{H':Hp} {o:Obj},(∀b∈F,H' b=J)->∀b∈F,iX (aD X (pre++Z) l N P2.objs.size s2 M F) (m++[(s2.heap.objs.size,o)]) H' b:=λ{H' o} hn b t=>by
  refine⟨hn b t,L5<|Mc (fpo b t) hle,λz=>(LK.mp<|I2.stkSub _ z).elim (f2 b t).2.1 (f2 b t).2.2.1,.inl t,λa c e=>(f2 b t).2.2.2.2.1 a c<|hcl.get e,λp hp=>?_⟩;rcases Ms.mp hp with z|z
  .exact(f2 b t).2.2.2.2.2 p<|Nb _ z
  .rcases Ms.mp z with z | z
   .exact(f2 b t).2.2.2.2.2 p<|L9 _ z
   .rw [LR.mp z];exact Oq<|fpo b t
 have loop:MQ (LC X.prog X.w) X.A (.compLoop (.ListComp elt [⟨tg,P,cs,0⟩] l pos) 0 (.ref it) (.ref s2.heap.objs.size) (compEnvC l N P2.objs.size X.env))
   (compPost (LC X.prog X.w) X.A X.xe use Qp (.ref s2.heap.objs.size) P2.objs.size) {s2 with heap:=g',toks:=s2.toks+([]:U<|Str×B).length}:=by
  refine kR (X:=aD X (pre++Z) l N P2.objs.size s2 M F) (λn s'=>∃i zs x H',Inv (aD X (pre++Z) l N P2.objs.size s2 M F) m (LU pre.length J++σ') H' s'/\tn i s'.heap/\(∀b∈F,H' b=J)/\s'.heap.get? s2.heap.objs.size=Y (kF x)/\Vals zs x/\H' s2.heap.objs.size=J/\W i n zs H')
   ?_ m0 ⟨0,[],[],M,I3,T.keep _ _ _ st2 λb _ o e=>old b o e,λb t=>(f2 b t).1,accD,.nil,I2.hok.fresh<|LM _,w0⟩ hcs
  rintro n s3 ⟨i,zs,x,H3,J3,st3,fr3,d3,rv3,nd3,w3⟩;have hzl:=rv3.length
  have J3':Inv (aD X (pre++Z) l N P2.objs.size s2 M F) (m++[(s2.heap.objs.size,kF x)]) (LU pre.length J++σ') H3 s3:=J3.pins_of λp hp=>by
   rcases Ms.mp hp with z|z
   .exact J3.pin p (L9 _ z)
   .rw [LR.mp z];exact⟨d3,nd3,hDC,stkD,λv q=>by cases q⟩
  rcases turn i n zs H3 w3 with⟨stop,hz,q⟩|⟨go,hz,step⟩
  .refine Mh (T.done (aD X (pre++Z) l N P2.objs.size s2 M F) rfl rfl rfl hc i _ s3 _ H3 noX J3' (stat fr3) st3 stop) (fun r s4 h4=>?_) fun _ _ z=>z.elim;obtain⟨hr,I4⟩:=h4;subst hr;obtain⟨m4,hn4,_⟩:=id I4.loc;have f4:H3 P2.objs.size=none:=I4.free;have d4:s4.heap.get? s2.heap.objs.size=Y (kF x):=(I4.pin (s2.heap.objs.size,kF x) (L9 _ (L9 _ (LR.mpr rfl)))).1;have u4:Un (frs X.stack) F M H3 s2.heap s4.heap:=I4.base
   have un:Un (frs X.stack) F M (upd H3 s2.heap.objs.size (.lst zs)) s2.heap s4.heap:=
    ⟨u4.keep,u4.slot,fun b o e n hx=>by rw [ah (nd b o e)]; exact u4.free b o e n hx,u4.there,
     λb xs q=>by rw[ah<|ndH b _ q];exact u4.tups b xs q,λb o u q=>by rw[ah<|ndH b _ q];exact u4.frzs b o u q,λb ps q=>by rw[ah<|ndH b _ q];exact u4.tbls b ps q⟩
   have IX:Inv X m σ (upd H3 s2.heap.objs.size (.lst zs)) s4:=I2.call' (s':=s4) (ch:=F) I4.os un (jr I4.hok nd3 ⟨hz,x,x.length,rv3,d4⟩) I4.bare
    (λb t=>⟨(f2 b t).2.2.2.1,(f2 b t).2.1,(f2 b t).2.2.2.2.1,(f2 b t).2.2.2.2.2⟩)
   have cL:P2.objs.size≠X.env.locals:=Oq<|Mc I2.lt hle;have cC:∀a c,X.env.cells.lookup a=Y c->c≠P2.objs.size:=λa c e=>by obtain⟨v',o',ho',_⟩:=I2.cell a c e;exact nc c o' ho'
   exact fin s4 _ s2.heap.objs.size P2.objs.size m4 IX hn4 cL cC (by rw[ah<|Mx hDC];exact f4) (LL I2.sz hle) (λp hp=>nc p.1 _ (I2.pin p hp).1)<|q _ nd3
  .refine Mh (T.item (aD X (pre++Z) l N P2.objs.size s2 M F) rfl rfl rfl hc i _ s3 _ H3 noX J3' (stat fr3) st3 go) (fun r s4 h4=>?_) fun _ _ z=>z.elim;obtain⟨u,hr,h4⟩:=h4;subst hr;refine Mh h4 (λ_ s5 h5=>?_) λ_ _ z=>z.elim;obtain⟨v,H5,I5,r5,y5,st5,fr5⟩:=h5;have I5':=I5.pinned (stat fr5) (T.obj _ _ st5);refine Mh (hg P2.objs.size s2 M F _ s5 _ H5 v u _ I5' r5 (step v H5 y5)) (λ_ s6 h6=>?_) λ_ _ z=>z.elim;obtain⟨σ6,H6,I6,⟨hl6,hd6⟩,step'⟩:=h6;have back:∀{H7:Hp} {s7:Lx},Inv (aD X (pre++Z) l N P2.objs.size s2 M F) ((m++[(s2.heap.objs.size,kF x)])++gU F s5.heap) σ6 H7 s7->Inv (aD X (pre++Z) l N P2.objs.size s2 M F) m (LU pre.length J++σ') H7 s7:=λI7=>I7.unpinned.unpinned.weak (by rw[hl6,LH,M4]) λj w' e=>rL hd6 e;refine CW.mono (hcd P2.objs.size s2 M F _ s6 _ H6 _ I6 step') λok s6' h6'=>?_;obtain⟨H6',I6',q6⟩:=h6';cases ok with
   | false =>
    rw[Rn LX] at q6;obtain⟨m',hm',w7⟩:=q6;have G:=I6'.pin (s2.heap.objs.size,kF x)<|L9 _<|Nb _<|L9 _<|LR.mpr rfl;rw[Rn LX];refine⟨m',hm',i+1,zs,x,H6',back I6',T.keep _ _ _ st5 λb t o e=>?_,λb t=>?_,G.1,rv3,G.2.1,w7⟩
    .exact(I6'.pin (b,o)<|L9 _<|L9 _<|b5 t e).1
    .obtain ⟨o,e,_⟩:=T.obj _ _ st5 b t;exact(I6'.pin (b,o)<|L9 _<|L9 _<|b5 t e).2.1
   | true =>
    rw[Rk rfl] at q6 ⊢;refine Mh (he P2.objs.size s2 M F _ s6' _ H6' _ I6' q6) (λyv s7 h7=>?_) λ_ _ z=>z.elim;obtain⟨y',H7,I7,r7,m',hm',w7⟩:=h7;have G:=I7.pin (s2.heap.objs.size,kF x)<|L9 _<|Nb _<|L9 _<|LR.mpr rfl;refine append_at (hsz:=by show x.toArray.size<=sizeLine;rw[LZ];lia) G.1 λh8 sb8 hD8=>?_
    have I8:Inv (aD X (pre++Z) l N P2.objs.size s2 M F) m (LU pre.length J++σ') H7 {s7 with heap:=h8}:=(back I7).turned (t':=s7.toks) (it:=s2.heap.objs.size) (λb o t e=>(sb8.2 b t).trans e) G.2.1 hDC (.inr<|LM _)
     (fun a c e z=>by
      obtain⟨v',o',ho',_⟩:=I2.cell a c<|hcl.get e;exact nd c o' ho' z)
     (λp hp=>nd p.1 _ (I2.pin p hp).1)
    refine⟨m',hm',i+1,zs++[y'],x++[yv],H7,I8,T.keep _ _ _ st5 λb t o e=>?_,λb t=>?_,?_,rv3.append<|.cons r7 .nil,G.2.1,w7⟩
    .exact(sb8.2 b<|L5<|fpo b t).trans (I7.pin (b,o)<|L9 _<|L9 _<|b5 t e).1
    .obtain ⟨o,e,_⟩:=T.obj _ _ st5 b t;exact(I7.pin (b,o)<|L9 _<|L9 _<|b5 t e).2.1
    .show h8.get? s2.heap.objs.size=_;rw[hD8];simp[kF]
 exact codeAny_compStart_list loop<|T.self X.A 0 _ _ _ (T.keep _ _ _ st2 λb _ o e=>old b o e) loop
section
variable {X:Cx}{elt iter tg cnd:Rv}{pre:U Str}{pos spos pz:Pos}{z:Str}{jz:O}{scope:RF}{cl:U (Str×Rj)}{ys:U Str}{is:U O}{wi:TI}{g:TG}{te:TE}{tc:TT}
def tT:TT:=λ_ H Q=>Q Lw H
theorem pcN:PC X [] tT:=λb s c H Q a q=>⟨H,a,q⟩
theorem goN {n:O}{a:L2.St}{H:Hp}{Q:VK}(h:kq n wi is g te a H Q):j4 n wi is g tT te a H Q:=h
theorem wC {i:U Rv}(y:X.calm=Lw)(G:PI X tg iter wi)(F:∀C s H f,PG (aD X (pre++ys) scope cl C s H f) tg g)(A:∀C s H f,PE (aD X (pre++ys) scope cl C s H f) elt te)(j:∀C s H f,PC (aD X (pre++ys) scope cl C s H f) i tc)(l:i.length<=1)
  (d:NI scope X.env=pure cl) (S:aV pre ys scope) (k:Clo X cl) (m:(scope.names.all λp=>p.2 != .free || (cl.lookup p.1).isSome)=Lw) (fr:Frees X scope cl ys is) (N:∀v,MW iter X.env v=pure v):
  PE X (.ListComp elt [⟨tg,iter,i,0⟩] scope pos) (j4 pre.length wi is g tc te):=by
 intro n s σ H Q a h;rw[eval_ListComp];show Rp _ _ (RT _ scope X.env _ (newList []) Lv (Rz iter X.env) J) _ _ s;refine mF y G F A j l d S k m fr N (λs4 Hn D c Z r M u t w P hp q=>?_) a h;exact⟨Z,M,λh' sb=>⟨.ref D,_,r.turned (t':=s4.toks) (it:=c) (λb o x e=>(sb.2 b x).trans e) w u (.inr P) t hp,rfl,q⟩⟩
theorem sU {j:U Rv}(hN:X.N.Nodup)(hj:X.N[jz]?=Y z)(i:Loc X.env.scope z)(x:MI (.ListComp elt [⟨tg,iter,j,0⟩] scope pos) (Y<|.Name z pz) spos.line X.env=pure Lw)(hc:X.calm=Lw)(hi:PI X tg iter wi)(hg:∀C s H k,PG (aD X (pre++ys) scope cl C s H k) tg g)(he:∀C s H k,PE (aD X (pre++ys) scope cl C s H k) elt te)(n:∀C s H k,PC (aD X (pre++ys) scope cl C s H k) j tc)(t:j.length<=1)
  (f:NI scope X.env=pure cl) (S:aV pre ys scope) (r:Clo X cl) (w:(scope.names.all λp=>p.2 != .free || (cl.lookup p.1).isSome)=Lw) (fr:Frees X scope cl ys is) (hs:∀v,MW iter X.env v=pure v) (u:X.fn z=Lw\/X.env.scope.names.lookup z=Y .local):
  PS X (.Assign [.Name z pz] (.ListComp elt [⟨tg,iter,j,0⟩] scope pos) spos) (AL (j4 pre.length wi is g tc te)<|dZ jz):=by
 intro l s σ H D a h;rw[exec_Assign_Name_used _ _ _ _ x];refine LD<|RS<|LD ?_;show Rp _ _ (do let _ <- RT (.ListComp elt [⟨tg,iter,j,0⟩] scope pos) scope X.env _ (newList []) Lv (Rz iter X.env) (Y (RU (.Name z pz) X.env))) _ _ s;refine LD<|thn (mF (use:=Y<|RU (.Name z pz) X.env) (Qp:=λ_ G=>SP X l D .next G) hc hi hg he n t f S r w fr hs (λs4 Hn d c m4 P hn F A hL hz hp q=>?_) a h) λ_ G hq=>LN<|LN hq;show Rp _ _ (RU (.Name z pz) X.env<|.ref d) _ _ s4;refine wpAny_assign_Name<|i9 P hN hj i (v:=.ref d) rfl (λs5 M Z=>?_) u;obtain⟨Q,y,m⟩:=Z;have na:c≠Q:=m.elim (λe=>by rw[e];exact F) λe=>Mx<|A _ _ e;exact⟨m4,hn.sameBut y na,λh' sb=>⟨_,_,M.turned (t':=s5.toks) (it:=c) (λb o hb e=>(sb.2 b hb).trans e) hL F (.inr hz) A hp,q⟩⟩
theorem qW (i:X.calm=Lw)(l:PI X tg iter wi)(k:∀C s H d,PG (aD X (pre++ys) scope cl C s H d) tg g)(j:∀C s H d,PE (aD X (pre++ys) scope cl C s H d) elt te)
  (b:NI scope X.env=pure cl) (S:aV pre ys scope) (e:Clo X cl) (f:(scope.names.all λp=>p.2 != .free || (cl.lookup p.1).isSome)=Lw) (fr:Frees X scope cl ys is) (m:∀v,MW iter X.env v=pure v:=by intro _;rfl):
  PE X (.ListComp elt [⟨tg,iter,[],0⟩] scope pos) (kq pre.length wi is g te):=λc s n H Q a h=>wC i l k j (λ_ _ _ _=>pcN) (Mw _) b S e f fr m c s n H Q a<|goN h
theorem rB (hN:X.N.Nodup)(r:X.N[jz]?=Y z)(c:Loc X.env.scope z)(k:MI (.ListComp elt [⟨tg,iter,[],0⟩] scope pos) (Y<|.Name z pz) spos.line X.env=pure Lw)(l:X.calm=Lw)(o:PI X tg iter wi)(n:∀C s H e,PG (aD X (pre++ys) scope cl C s H e) tg g)(m:∀C s H e,PE (aD X (pre++ys) scope cl C s H e) elt te)
  (b:NI scope X.env=pure cl) (S:aV pre ys scope) (f:Clo X cl) (j:(scope.names.all λp=>p.2 != .free || (cl.lookup p.1).isSome)=Lw) (fr:Frees X scope cl ys is) (t:∀v,MW iter X.env v=pure v:=by intro _;rfl) (i:X.fn z=Lw\/X.env.scope.names.lookup z=Y .local:=by first|exact .inl rfl|exact .inr rfl|assumption):
  PS X (.Assign [.Name z pz] (.ListComp elt [⟨tg,iter,[],0⟩] scope pos) spos) (AL (kq pre.length wi is g te)<|dZ jz):=λd s u H D a h=>sU hN r c k l o n m (λ_ _ _ _=>pcN) (Mw _) b S f j fr t i d s u H D a<|goN h
end
end L3


namespace L3
open PySem PySem.Spec PyProof.Rows L2
theorem dy:∀{a:U I} {b:U B},Vals (a.map V.int) b->RZ b a
|[],_,.nil=>.nil
|n::a,_,.cons ⟨t,e⟩ r=>by cases e;exact .cons n t<|dy r
theorem qq {X:Cx}(D:X.calm=Lw):dN X (.builtin "max") (λd H Q=>∃(a:Rj) (e:U I),d=[.ref a]/\SqL X.K H a (e.map V.int)/\e≠[]/\∀M,M∈e->(∀n∈e,n<=M)->Q (.int M) H):=by
 intro x s σ H d us Q b r h;obtain⟨a,e,rfl,z,k,q⟩:=h;obtain⟨u,rfl,P⟩:=dQ r;cases P;obtain⟨m,Z,p,hz⟩:=b.list z;have o:=dy Z;obtain⟨d,i⟩:=o.allInts.items;have g:numsOf m=e:=o.numsOf;have G:s.heap.IsList a (intItems d):=by rw[<- i];exact p.isList
 have c:numsOf (intItems d).toList=e:=by rw[<- i];exact g
 rw[nums_intItems] at c;have f:d.size=e.length:=by rw[<- c,LB,Mn]
 have l:0<d.size:=by rw[f];exact List.length_pos_iff.mpr k
 refine max_intList (show X.A.handled=J from b.ok.hd D) G l λv h' tk N hk=>?_;obtain⟨t,rfl⟩:=intItems_at N;obtain⟨h1,y⟩:=argBest_gt (numAt d)<|d.size-1;refine⟨.int _,H,b.kept hk,⟨t,rfl⟩,q _ ?_ λn w=>?_⟩
 .rw[<- c,numAt_eq];exact getD_mem<|by rw[LB,Mn];lia
 .rw [<- c] at w;obtain⟨j,F,rfl⟩:=mem_getD w;rw[LB,Mn] at F;rw[<- numAt_eq];exact y j<|by lia
abbrev B7 (h:Rx)(T:Rj)(a b c:B):Prop:=h.get? T=Y {cls:=.type "tuple",data:=.seq #[a,b,c]}
def Z3 (n d e f:O)(i:O)(h:Rx):Prop:=
 IsZip h (n+5) (n+3) (n+4) .none/\B7 h (n+3) (.ref n) (.ref<|n+1) (.ref<|n+2)/\(∃a b c,B7 h (n+4) a b c)/\ItO h Lv n d i/\ItO h Lv (n+1) e i/\ItO h Lv (n+2) f i
end L3

namespace L3
open PySem PySem.Spec PyProof.Rows L2
noncomputable abbrev VE:U B:=[.type "ValueError",.type "Exception",.type "BaseException",.type "object"]
structure Lm (h:Rx)(C N:Rj)(up:U B)(names:Str->L B):Prop where
 obj:∃nm q bs hd sn sub ab col dd k0 k1 k2 k3 k5,h.get? C=Y (excClassObj nm q C N bs up hd sn sub ab col dd k0 k1 k2 k3 k5 "ValueError.__new__")
 ns:h.Ns N names
section
variable {prog:Ro}{w:LA}{h:Rx}{A:LS}{g:RD RW}{d:Drawn}{t:O}{os:R0}{E:B->Lx->Prop}
def Fw:U B->Rl
|.ref _::r=>Fw r
|l=>l==VE
end
def XOk (a C:Rj)(c:L Rj)(n:Rl)(h:Rx):Prop:=∃o b d,h.get? a=Y o/\o.cls=.ref C/\o.dict=c/\o.data=.fields b/\b[0]?=Y (.ref d)/\1<b.size/\(n=Lw->b[1]?=Y .none)
abbrev XO (a C:Rj)(b:L Rj)(n:Rl):HO:=.ext<|XOk a C b n
def Tr (lo:O)(H:Hp)(h:Rx)(a:Rj):Prop:=∃d b,h.get? a=Y d/\d.data=.fields b /\
 (b[1]?=Y .none\/∃T c e,b[1]?=Y (.ref T)/\T≠a/\h.get? T=Y c/\c.data=.fields e/\e[3]?=Y .none/\lo<=T/\H T=J)
structure XC (K:Ly)(C f:Rj)(up:U B):Prop where
 ok:∀h,K.In h->∃N names,Lm h C N up names/\OwnTail h VE up/\names "__init__"=Y (.ref f)
 fn:∀h,K.In h->∃o,h.get? f=Y o/\o.cls=.type "function"
 kp:Nu K (.ref C)=Lw
 sa:Mp K (.ref C) "__setattr__"=Y (Y (.builtin "object.__setattr__"))
 po:(PySem.W.clsIn K C).any (λcd=>Fw cd.mro)=Lw
 hd:OA K C=Lw
def xw (X:Cx)(d:L2.St):VK:=λv H=>∀(b:U<|Rj×Obj) (s:Lx) (a C:Rj) (c:L Rj),v=.ref a->H a=Y (XO a C c Lv)->Inv X b d H s->Tr X.s₀.heap.objs.size H s.heap a->X.xe (.ref a) s
noncomputable abbrev hx (X:Cx)(a:Rj):Cx:={X with A:=X.A.mark<|Y<|.ref a,calm:=Lv,xe:=λ_ _=>RB}
abbrev tx (X:Cx)(E:B->Lx->Prop)(pn:U<|Rj×Obj):Cx:={X with xe:=E,pn:=pn}
section
variable {prog:Ro}{w:LA}{A:LS}{E:B->Lx->Prop}{s:Lx}{K:Ly}
structure XG (K:Ly)(C:Rj):Prop where
 ga:Mp K (.ref C) "__getattribute__"=Y (Y (.builtin "BaseException.__getattribute__"))
 hk:Mp K (.ref C) "__getattr__"=Y J
 sub:Qq K (.ref C) (.type "BaseException")=Y Lw
end
structure XF (K:Ly)(C:Rj):Prop where
 xc:∃f up,XC K C f up/\Fw up=Lw
 xg:XG K C
 hd:OA K C=Lw
 ca:Mp K (.ref C) "__class__"=Y (Y (.builtin "object.__class__"))
 cg:Qd K (.builtin "object.__class__") "__get__"=Y (Y (.builtin "getset_descriptor.__get__"))
 ct:QB K (.builtin "object.__class__")=Y Lw
 mo:Qt K C (.type "object")=Y Lw
def XNm (K:Ly)(c:O)(C:Rj):Prop:=c=C/\XF K C
end L3

namespace L3
open PySem PySem.Spec PyProof.Rows L2
def hT (a:U I):I:=reduceHash<|Builtin.Tuple.tupleHashOf<|a.map hashInt
abbrev KZ:=U I×Rj×B
def DTk (a:Rj)(d:U<|U I)(f e:U V)(h:Rx):Prop:=(a==NJ)=Lv/\∃b:U KZ,b.map (·.1)=d/\b.map (λz=>V.ref z.2.1)=f/\Vals e (b.map (·.2.2))/\∃o c ep,h.get? a=Y o/\o.ExactDict/\o.data=.dict c ep/\c.toList=b.map λz=>⟨hT z.1,.ref z.2.1,z.2.2⟩
abbrev DTO (a:Rj)(b:U<|U I)(d c:U V):HO:=.ext<|DTk a b d c
def KeyR (K:Ly)(H:Hp):U (U I)->U V->Prop
|[],a=>a=[]
|k::c,a=>∃b r,a=.ref b::r/\SqT K H b (k.map V.int)/\KeyR K H c r
theorem KeyR.keep {K:Ly}{H d:Hp}(s:∀b (f:U V),SqT K H b f->SqT K d b f):∀{a:U<|U I} {c:U V},KeyR K H a c->KeyR K d a c
|[],_,h=>h
|k::a,c,⟨b,r,e,q,h⟩=>⟨b,r,e,s b _ q,h.keep s⟩
end L3

namespace M
open PySem (Str)
inductive T where
 |non|bl (b:Rl)|int (i:I)|str (x:Str)|tup (ts:U T)|lst (ts:U T)|dct (ks:U (I ⊕ Str)) (vs:U T)|ins (c:O) (fs:U Str) (vs:U T)|obj (c:O) (fs:U Str) (vs:U T)|dtt (ks:U (U I)) (vs:U T)
 |scr (ns:U I)
 |gone
 deriving RJ
inductive Md where
 |s|d|o (m:Md)
 deriving RO,RJ
noncomputable def Md.kid:Md->Md
|.s=>.s | .d=>.d | .o m=>m
def Md.up:Md->Md
|.d=>.d|m=>.o m
noncomputable def Md.meet:Md->Md->Md
|.s,_=>.s | .d,m=>m | .o _,.s=>.s | .o a,.d=>.o a | .o a,.o b=>.o<|a.meet b
noncomputable def Md.le:Md->Md->Rl
|.s,_=>Lw
|.o a,.o b=>a.le b
|.o _,.d=>Lw
|.d,.d=>Lw
|_,_=>Lv
abbrev W:=Md×T
abbrev Env:=U<|L W
noncomputable def LIM:O:=16777215
noncomputable def T.leaf:T->Rl
|.non | .bl _ | .int _ | .str _ | .scr _=>Lw
|_=>Lv
def T.isG:T->Rl
|.gone=>Lw
|.dtt _ _=>Lw
|_=>Lv
noncomputable def T.isH:T->Rl
|.gone=>Lw
|.dct _ _=>Lw
|.dtt _ _=>Lw
|.ins _ _ _=>Lw
|.obj _ _ _=>Lw
|_=>Lv
def T.isN:T->Rl
|.non=>Lw
|_=>Lv
def leaves (a:U T):Rl:=a.all T.leaf
inductive Op where
 |add|sub|mul|fdiv|mod|pow|neg|eq|ne|lt|le|gt|ge|is|isnot|isin|notin|ix|sl|sl1|sl2
 |len|isI (cs:U Rr)|max1|count|intS|list|tuple|sum|all|any|max|min|int|str|rng|sorted|join|split|abs|dict|get|isnB|lower|leS|catT|lenSet
 |getD
 |strX
 |att (fld:Str)|mk (c:O) (fld:Str) (fk:O)|mkP (c:O) (fs:U Str) (cs:U I)
inductive Ik where
 |seq|rng|zip3|chr|enmT|sq2T
 deriving RO,RJ
inductive E where
 |var (i:O)|mv (i:O)|io (i:O)|cst (t:T)|glb (x:Str) (t:T)
 |tup (es:U E)|lst (h:Rl) (es:U E)|op (o:Op) (h:Rl) (es:U E)
 |and (a b:E)|or (a b:E)|not (a:E)|ifx (c a b:E)|chain (o p:Op) (a b c:E)
 |call (f:O) (es:U E)|comp (h:Rl) (k:Ik) (src:U E) (tg:U O) (cnd:L E) (elt:E)
 |pop (i:O) (es:U E)|lenV (i:O)
 |qx (vs ls:U O) (e:E)|attV (i:O) (fld:Str)|meth (c f i:O)
 |inT (neg:Rl) (ks:U Str) (e:E)|ixT (tab:U (Str×T)) (e:E)|getT (tab:U (Str×T)) (e:E)
 deriving RJ
inductive X where
 |q (vs ls:U O)|l (vs:U O)
 deriving RJ
inductive S where
 |asg (x:X) (i:O) (e:E)|setP (x:X) (i:O) (fld:Str) (e:E)
 |exp (x:X) (e:E)|app (x:X) (i:O) (e:E)|ext (x:X) (i:O) (e:E)
 |ret (vs:U O) (e:E)|ite (x:X) (c:E) (a b:U S)
 |forS (vs ls:U O) (k:Ik) (src:U E) (tg:U O) (body:U S)|whl (x:X) (c:E) (body:U S)
 |brk|pas|stop|tri (body:U S)
 |raise (c:O) (fld:Str) (fk:O) (x:X) (e:E)
 deriving RJ
structure Fn where
 ps:O
 ns:O
 io:U O
 body:U S
inductive Res (α:Type) where
 |ok (a:α)|ex (t:T)|no
def Res.bind {b c:Type}:Res b->(b->Res c)->Res c
|.ok a,f=>f a
|.ex t,_=>.ex t
|.no,_=>.no
def ofO {b:Type}:L b->Res b
|some a=>.ok a
|none=>.no
inductive Fl where
 |nx (η:Env)|rt (w:W) (η:Env)|bk (η:Env)|ex (t:T) (η:Env)|no
noncomputable def truth:T->L Rl
|.non=>Y Lv | .bl b=>Y b | .int i=>Y (i != 0) | .str x=>Y (x.cps.size != 0) | .tup a=>Y (!a.isEmpty) | .lst a=>Y (!a.isEmpty) | .dct _ _=>J | .ins ..=>J | .obj ..=>J | .dtt ..=>J | .scr c=>Y (!c.isEmpty) | .gone=>J
noncomputable def b2i:Rl->I
|true=>1|false=>0
mutual
def eqT:T->T->Rl
|.non,.non=>Lw
|.bl a,.bl b=>a==b
|.bl a,.int i=>b2i a==i
|.int i,.bl a=>i==b2i a
|.int i,.int j=>i==j
|.str x,.str y=>x==y
|.tup ts,.tup us=>eqTs ts us
|.lst ts,.lst us=>eqTs ts us
|_,_=>Lv
def eqTs:U T->U T->Rl
|[],[]=>Lw
|t::ts,u::us=>eqT t u&&eqTs ts us
|_,_=>Lv
end
mutual
def dp:T->O
|.tup ts=>dps ts+1
|.lst ts=>dps ts+1
|.scr _=>1000
|.dct _ _=>1000
|.ins _ _ _=>1000
|.obj _ _ _=>1000
|.dtt _ _=>1000
|.gone=>1000
|_=>0
def dps:U T->O
|[]=>0
|t::ts=>max (dp t)<|dps ts
end
def sOk (x:Str):Rl:=x.cps.all (· < 0x110000)&&decide (x.cps.size<=LIM)
def kOk:I ⊕ Str->Rl
|.inl _=>Lw
|.inr x=>sOk x
noncomputable def HN:T->L (I ⊕ Str)
|.int n=>Y<|.inl n
|.str x=>Y<|.inr x
|_=>J
def BU (q:I ⊕ Str):U (I ⊕ Str)->U T->L T
|y::b,v::a=>if y=q then Y v else BU q b a
|_,_=>J
noncomputable def ixN (n:O)(i:I):L O:=if 0<=i then(if i<n then Y i.toNat else J) else if -(n:I)<=i then Y (i+n).toNat else J
def atI {b:Type}(a:U b)(i:I):L b:=(ixN a.length i).bind λj=>a[j]?
noncomputable def sIx (n d:O):L I->O
|none=>d
|some i=>if i<0 then(i+n).toNat else min i.toNat n
def cut {b:Type}(a:U b)(lo c:L I):U b:=(a.drop<|sIx a.length 0 lo).take<|sIx a.length a.length c-sIx a.length 0 lo
noncomputable def T.ty:T->Rr
|.non=>"NoneType" |.bl _=>"bool" |.int _=>"int" |.str _=>"str" |.tup _=>"tuple" |.lst _=>"list" |.dct ..=>"dict" |.ins ..=>"object" |.obj ..=>"object" |.dtt ..=>"dict" |.scr _=>"list" |.gone=>"gone"
def isOne (c:Rr)(t:T):Rl:=t.ty==c || (t.ty=="bool"&&c=="int")
noncomputable def intsOf:U T->L (U I)
|[]=>Y []
|.int i::a=>(intsOf a).map (i::·)
|_::_=>J
noncomputable def aY:U T->L (U Rl)
|[]=>Y []
|.bl b::a=>(aY a).map (b::·)
|_::_=>J
noncomputable def elems:W->L (U T)
|(_,.tup a)=>Y a
|(_,.lst a)=>Y a
|_=>J
def flatT:T->Rl
|.non | .bl _ | .int _ | .str _=>Lw
|_=>Lv
def HJ (c:O):O:=if 65<=c/\c<=90 then c+32 else c
def maxI:U I->I
|[]=>0
|[n]=>n
|n::a=>max n<|maxI a
noncomputable def FU (x:I):U I->U I
|[]=>[x]
|y::a=>if x<=y then x::y::a else y::FU x a
def Cc:U I->U I
|[]=>[]
|x::a=>FU x<|Cc a
noncomputable def strsOf:U T->L (U Str)
|[]=>Y []
|.str x::a=>(strsOf a).map (x::·)
|_::_=>J
noncomputable def addS (a:U Str)(x:Str):U Str:=if a.contains x then a else a++[x]
def distS (l:U Str):U Str:=l.foldl addS []
noncomputable def spl (c:O):U O->U O->U (U O)
|a,[]=>[a]
|a,x::b=>if x=c then a::spl c [] b else spl c (a++[x]) b
def splS (x:Str):U Str:=(spl 32 [] x.cps.toList).map λl=>⟨l.toArray⟩
noncomputable def sW (l:U O):O:=l.foldl (λa c=>a * 10+(c-48)) 0
def decI (x:Str):I:=match x.cps.toList with
|45::cs=>-((sW cs:O):I)
|cs=>((sW cs:O):I)
noncomputable def strI (i:I):Str:=Str.ofString<|toString i
def newL (h:Rl)(m:Md)(a:U T):L W:=if h then(if leaves a then Y (.d,.lst a) else J) else Y (m.up,.lst a)
def fits (n:O):Rl:=decide (n<=LIM)
mutual
def rOk:T->Rl
|.non | .bl _=>Lw
|.int i=>decide (i.natAbs<10000000000000000000)
|.str x=>decide ((Qu x).length<=100)&&sOk (Qu x)
|.tup ts=>Es ts
|.lst ts=>Es ts
|_=>Lv
def Es:U T->Rl
|[]=>Lw
|t::ts=>rOk t&&Es ts
end
mutual
def szR:T->O
|.tup ts=>Di ts+4
|.lst ts=>Di ts+4
|_=>100
def Di:U T->O
|[]=>0
|t::ts=>szR t+2+Di ts
end
def vh:O->Md->T->Rl
|0,_,.int n=>decide (n.natAbs.log2<1920)
|1,.s,.tup a=>decide (dp (.tup a)<=64)&&rOk (.tup a)&&decide (szR (.tup a)<=1000000)
|2,_,.str _=>Lw
|_,_,_=>Lv
def lfM (t:T):Md:=if t.leaf=Lw then .d else .s
noncomputable def lookF (f:Str):U Str->U T->L T
|g::a,t::b=>if(g==f)=Lw then Y t else lookF f a b
|_,_=>J
noncomputable def d7 (f:Str)(t:T):U Str->U T->L (U T)
|g::b,u::a=>if(g==f)=Lw then Y (t::a) else(d7 f t b a).map (u::·)
|_,_=>J
mutual
def spo:T->T
|.lst ts=>.lst<|spos ts++[.int 7]
|.tup ts=>.tup<|spos ts
|t=>t
def spos:U T->U T
|[]=>[]
|t::ts=>spo t::spos ts
end
def oSem:Op->Rl->U W->L W
|.add,h,[(m,a),(n,b)]=>match a,b with
 |.int i,.int j=>Y (.d,.int<|i+j)
 |.str x,.str y=>if fits (x.cps.size+y.cps.size) then Y (.d,.str<|x++y) else J
 |.lst e,.lst l=>if fits (e.length+l.length) then newL h (m.kid.meet n.kid) (e++l) else J
 |.tup e,.tup l=>if fits (e.length+l.length)&&!e.isEmpty then Y (.s,.tup<|e++l) else J
 |_,_=>J
|.sub,_,[(_,.int i),(_,.int j)]=>Y (.d,.int<|i-j)
|.mul,h,[(m,a),(_,b)]=>match a,b with
 |.int i,.int j=>if(decide (i.natAbs<18446744073709551616)) || (decide (j.natAbs<18446744073709551616)) then Y (.d,.int<|i * j) else J
 |.lst e,.int k=>if decide (k.natAbs<4611686018427387904)&&fits (e.length * k.toNat) then newL h .s (LU k.toNat e).flatten else J
 |_,_=>J
|.fdiv,_,[(_,.int i),(_,.int j)]=>if decide (0<j)&&decide (j<1073741824) then Y (.d,.int<|i / j) else J
|.mod,_,[(_,.int i),(_,.int j)]=>if decide (0<j) then Y (.d,.int<|i % j) else J
|.pow,_,[(_,.int i),(_,.int j)]=>if decide (0<=j)&&decide (j<=1000000)&&decide (i.natAbs<18446744073709551616) then Y (.d,.int<|i ^ j.toNat) else J
|.neg,_,[(_,.int i)]=>Y (.d,.int (-i))
|.eq,_,[(_,a),(_,b)]=>if decide (dp a<=64)&&decide (dp b<=64) then Y (.d,.bl<|eqT a b) else J
|.ne,_,[(_,a),(_,b)]=>if decide (dp a<=64)&&decide (dp b<=64) then Y (.d,.bl<|!eqT a b) else J
|.lt,_,[(_,.int i),(_,.int j)]=>Y (.d,.bl<|decide (i<j))
|.le,_,[(_,.int i),(_,.int j)]=>Y (.d,.bl<|decide (i<=j))
|.gt,_,[(_,.int i),(_,.int j)]=>Y (.d,.bl<|decide (j<i))
|.ge,_,[(_,.int i),(_,.int j)]=>Y (.d,.bl<|decide (j<=i))
|.is,_,[(_,a),(_,.non)]=>if a.isG then J else Y (.d,.bl a.isN)
|.isnot,_,[(_,a),(_,.non)]=>if a.isG then J else Y (.d,.bl<|!a.isN)
|.ix,_,[(m,a),(_,.int i)]=>match a with
 |.lst e=>(atI e i).map λt=>(m.kid,t)
 |.tup e=>(atI e i).map λt=>(m.kid,t)
 |.str x=>(atI x.cps.toList i).map λc=>(.d,.str ⟨#[c]⟩)
 |.scr f=>(atI f i).map λn=>(.d,.int n)
 |_=>J
|.sl,h,[(m,.lst e)]=>newL h m.kid e
|.sl1,h,[(m,.lst e),(_,.int i)]=>newL h m.kid<|cut e (Y i) J
|.sl2,h,[(m,.lst e),(_,.int i)]=>newL h m.kid<|cut e J<|Y i
|.sl2,_,[(_,.scr f),(_,.int i)]=>Y (.d,.lst<|(cut f J<|Y i).map T.int)
|.sl1,_,[(_,.scr f),(_,.int i)]=>Y (.d,.lst<|(cut f (Y i) J).map T.int)
|.sl,_,[(_,.scr f)]=>Y (.d,.lst<|f.map T.int)
|.sl1,_,[(_,.tup e),(_,.int i)]=>Y (.s,.tup<|cut e (Y i) J)
|.sl2,_,[(_,.tup e),(_,.int i)]=>Y (.s,.tup<|cut e J<|Y i)
|.len,_,[(_,a)]=>match a with
 |.lst e=>Y (.d,.int e.length)
 |.tup e=>Y (.d,.int e.length)
 |.str x=>Y (.d,.int x.cps.size)
 |.scr f=>Y (.d,.int f.length)
 |_=>J
|.mkP c fs r,_,u=>if decide (fs.length=u.length+r.length)=Lw then Y (.o .s,.obj c fs<|(u.map λw=>w.2)++r.map T.int) else J
|.att fld,_,[(_,.ins _ [g] [t])]=>if(g==fld)=Lw then Y (lfM t,t) else J
|.mk c fld v,_,[(m,t)]=>if vh v m t=Lw then Y (.s,.ins c [fld] [t]) else J
|.isI r,_,[(_,a)]=>if a.isH then J else Y (.d,.bl<|r.any λc=>isOne c a)
|.list,h,[(m,a)]=>match a with
 |.lst e=>newL h m.kid e
 |.tup e=>newL h m.kid e
 |.scr f=>Y (.d,.lst<|f.map T.int)
 |_=>J
|.tuple,_,[(m,a)]=>match a with
 |.lst e=>Y (m.kid.up,.tup e)
 |.tup e=>Y (m,.tup e)
 |_=>J
|.sum,_,[(_,.lst e)]=>(intsOf e).map λf=>(.d,.int f.sum)
|.all,_,[(_,.lst e)]=>(aY e).map λbs=>(.d,.bl<|bs.all id)
|.any,_,[(_,.lst e)]=>(aY e).map λbs=>(.d,.bl<|bs.any id)
|.max,_,[(_,.int i),(_,.int j)]=>Y (.d,.int<|if j>i then j else i)
|.min,_,[(_,.int i),(_,.int j)]=>Y (.d,.int<|if j<i then j else i)
|.rng,_,[(_,.int i),(_,.int j)]=>if decide (i.natAbs<4611686018427387904)&&decide (j.natAbs<4611686018427387904)&&fits (j-i).toNat then Y (.d,.lst<|(L4 (j-i).toNat).map λ(k:O)=>T.int<|i+k) else J
|.isin,_,[(_,a),(n,b)]=>(elems (n,b)).bind λe=>if flatT a&&e.all flatT then Y (.d,.bl<|e.any λt=>eqT t a) else J
|.notin,_,[(_,a),(n,b)]=>(elems (n,b)).bind λe=>if flatT a&&e.all flatT then Y (.d,.bl<|!e.any λt=>eqT t a) else J
|.int,_,[(_,.int i)]=>Y (.d,.int i)
|.int,_,[(_,.bl b)]=>Y (.d,.int<|b2i b)
|.abs,_,[(_,.int i)]=>Y (.d,.int i.natAbs)
|.max1,_,[(_,.lst e)]=>(intsOf e).bind λf=>if f.isEmpty then J else Y (.d,.int<|maxI f)
|.sorted,_,[(_,.lst e)]=>(intsOf e).bind λf=>if decide (f.length<64) then Y (.d,.lst<|(Cc f).map T.int) else J
|.str,_,[(_,.int i)]=>if decide (i.natAbs<10000000000000000000) then Y (.d,.str<|strI i) else J
|.strX,_,[(_,.int i)]=>if decide (i.natAbs<10000000000000000000) then Y (.d,.str<|strI i) else J
|.strX,_,[(_,.str x)]=>Y (.d,.str x)
|.intS,_,[(_,.str x)]=>if decide ((decI x).natAbs<10000000000000000000)&&(strI (decI x)==x) then Y (.d,.int<|decI x) else J
|.join,_,[(_,.str z),(_,.lst e)]=>(strsOf e).bind λp=>if sOk (Str.join z p)&&decide ((p.map λs=>s.cps.size+z.cps.size).sum<=LIM) then Y (.d,.str<|Str.join z p) else J
|.split,_,[(_,.str z),(_,.str y)]=>if(y==Str.ofString " ")&&decide (z.cps.size+2<=LIM)&&(splS z).all sOk then Y (.d,.lst<|(splS z).map T.str) else J
|.count,_,[(_,.lst e),(_,.bl b)]=>(aY e).map λbs=>(.d,.int<|bs.count b)
|.lower,_,[(_,.str x)]=>if x.cps.toList.all (λc=>decide (c<128)) then Y (.d,.str ⟨x.cps.map HJ⟩) else J
|.catT,_,[(_,.tup e),(_,.tup l)]=>if fits (e.length+l.length) then Y (.s,.tup<|e++l) else J
|.lenSet,_,[(_,.tup e)]=>(strsOf e).bind λp=>if decide (p.length<1000) then Y (.d,.int (distS p).length) else J
|.getD,_,[(.s,.dct A D),(_,k)]=>(HN k).map λq=>(.s,(BU q A D).getD .non)
|.leS,_,[(_,.str x),(_,.str y)]=>Y (.d,.bl<|!decide (y.cps.toList<x.cps.toList))
|.isnB,_,[(_,.bl a),(_,.bl b)]=>Y (.d,.bl<|!(a==b))
|_,_,_=>J
noncomputable def rd:Env->O->L W
|[],_=>J
|o::_,0=>o
|_::a,i+1=>rd a i
noncomputable def wr:Env->O->L W->Env
|[],_,_=>[]
|_::a,0,w=>w::a
|o::a,i+1,w=>o::wr a i w
abbrev put (a:Env)(i:O)(w:W):Env:=wr a i<|Y w
abbrev del (a:Env)(i:O):Env:=wr a i J
def look:W->L W
|(.s,t)=>Y (.s,t)
|(_,t)=>if t.leaf=Lw then Y (.d,t) else J
def toS:L W->L W
|some (_,t)=>Y (.s,t)
|none=>J
def share:U O->Env->Env
|[],a=>a
|i::b,a=>share b<|wr a i<|toS<|rd a i
def lfO:L W->L W
|some (_,t)=>if t.leaf=Lw then Y (.d,t) else J
|none=>J
def blank:Env->Env
|[]=>[]
|_::a=>none::blank a
def nq:U O->Env->Env->Env
|[],_,b=>b
|i::c,a,b=>nq c a<|wr b i<|toS<|rd a i
def hI:U O->Env->Env->Env
|[],_,b=>b
|i::c,a,b=>hI c a<|wr b i<|lfO<|rd a i
def pick (c b:U O)(a:Env):Env:=hI b a<|nq c a<|blank a
def after (m:Md)(b:U O)(a:Env):Env:=match m with
|.d=>a
|_=>share b a
def bC:U O->U W->Env->L Env
|[],[],a=>Y a
|i::b,w::c,a=>bC b c<|put a i w
|_,_,_=>J
noncomputable def eL (m:Md):O->U T->U (U W)
|_,[]=>[]
|i,t::a=>[(.d,.int i),(m,t)]::eL m (i+1) a
noncomputable def pairsT:U T->L (U<|U W)
|[]=>Y []
|.tup [x,y]::a=>(pairsT a).map ([(.s,x),(.s,y)]::·)
|_::_=>J
noncomputable def v3:U T->U T->U T->U (U W)
|t::a,u::b,v::c=>[(.s,t),(.s,u),(.s,v)]::v3 a b c
|_,_,_=>[]
def bO:Ik->U W->L (U<|U W)
|.seq,[(_,.lst a)]=>Y<|a.map λt=>[(.s,t)]
|.seq,[(_,.tup a)]=>Y<|a.map λt=>[(.s,t)]
|.seq,[(_,.scr b)]=>Y<|b.map λn=>[(.d,.int n)]
|.rng,[(_,.int n)]=>if decide (n.natAbs<4611686018427387904)&&fits n.toNat then Y ((L4 n.toNat).map λ(k:O)=>[(.d,.int k)]) else J
|.rng,[(_,.int i),(_,.int j)]=>if decide (i.natAbs<4611686018427387904)&&decide (j.natAbs<4611686018427387904)&&fits (j-i).toNat then Y ((L4 (j-i).toNat).map λ(k:O)=>[(.d,.int<|i+k)]) else J
|.rng,[(_,.int i),(_,.int j),(_,.int c)]=>if decide (i.natAbs<4611686018427387904)&&decide (j.natAbs<4611686018427387904)&&decide (c=-1)&&fits (i-j).toNat then Y ((L4 (i-j).toNat).map λ(k:O)=>[(.d,.int<|i-k)]) else J
|.enmT,[(_,.tup a)]=>Y<|eL .s 0 a
|.sq2T,[(_,.tup a)]=>pairsT a
|.zip3,[(_,.lst a),(_,.lst e),(_,.lst f)]=>Y<|v3 a e f
|.chr,[(_,.str x)]=>Y<|x.cps.toList.map λc=>[(.d,.str ⟨#[c]⟩)]
|_,_=>J
abbrev Call:=O->U W->Res (W×U W)
abbrev RE:=Res<|W×Env
def lf (m:Md)(t:T):Md:=if t.leaf=Lw then .d else m
def g9:U W->Md
|[]=>.d
|w::a=>(lf w.1 w.2).meet<|g9 a
def trees:U W->U T
|[]=>[]
|w::a=>w.2::trees a
def aw:U O->Env->Env
|[],a=>a
|i::b,a=>aw b<|del a i
def ios:U E->U O
|[]=>[]
|.io i::a=>i::ios a
|_::a=>ios a
def putAll:U O->U W->Env->Env
|i::b,w::c,a=>putAll b c<|put a i w
|_,_,a=>a
def jS:W->U W->L (W×W)
|(.s,_),_=>J
|(m,.lst a),[]=>(a.getLast?).map λt=>((m.kid,t),(m,.lst a.dropLast))
|(m,.lst (t::a)),[(_,.int 0)]=>Y ((m.kid,t),(m,.lst a))
|_,_=>J
def iM:W->W->L W
|(.s,_),_=>J
|(m,.lst a),(n,t)=>if a.length<LIM then Y ((m.kid.meet<|lf n t).up,.lst<|a++[t]) else J
|_,_=>J
def iL:W->W->L W
|(.s,_),_=>J
|(m,.lst a),(n,.lst b)=>if a.length+b.length<=LIM then Y ((m.kid.meet n.kid).up,.lst<|a++b) else J
|_,_=>J
noncomputable def zK (k:I ⊕ Str)(t:T):U (I ⊕ Str)->U T->U (I ⊕ Str)×U T
|[],_=>([k],[t])
|y::a,v::b=>if y=k then(y::a,t::b) else((y::(zK k t a b).1),(v::(zK k t a b).2))
|y::a,[]=>(y::a,[])
def Jj:W->W->W->L W
|(.s,_),_,_=>J
|(m,.dct a b),(_,k),(_,t)=>(HN k).bind λq=>if decide (a.length<LIM)&&flatT t then Y (m,.dct (zK q t a b).1 (zK q t a b).2) else J
|_,_,_=>J
def mj:W->W->W->L W
|(.s,_),_,_=>J
|(m,.lst a),(_,.int j),(n,t)=>(ixN a.length j).map λk=>((m.kid.meet<|lf n t).up,.lst<|a.set k t)
|_,_,_=>J
def fT:L W->Res Unit
|some (_,.lst _)=>.ok ()
|_=>.no
def JP:W->L (U W)
|(m,.tup a)=>Y<|a.map λt=>(m.kid,t)
|_=>J
def ret {b:Type}(c:Env)(o:L b):Res (b×Env):=match o with
|some a=>.ok (a,c)
|none=>.no
def onB {a:Type}:T->(Env->Res a)->(Env->Res a)->Env->Res a
|.bl Lw,f,_,b=>f b
|.bl Lv,_,g,b=>g b
|_,_,_,_=>.no
def onT {a:Type}(f g:Env->Res a)(p:W×Env):Res a:=match truth p.1.2 with
|some Lw=>f p.2
|some Lv=>g p.2
|none=>.no
def okW {b:Type}(a:b)(c:Env):Res (b×Env):=.ok (a,c)
def uT (p:U W×Env):RE:=.ok (((g9 p.1).up,.tup<|trees p.1),p.2)
def wK (h:Rl)(p:U W×Env):RE:=.ok ((if h then(g9 p.1).up else .o .s,.lst<|trees p.1),p.2)
def kOp (o:Op)(h:Rl)(p:U W×Env):RE:=ret p.2<|oSem o h p.1
def rC (f:Env->RE)(p:W×Env):RE:=onT f (okW p.1) p
def kOr (f:Env->RE)(p:W×Env):RE:=onT (okW p.1) f p
def wR (p:W×Env):RE:=ret p.2<|(truth p.1.2).map λb=>(.d,.bl<|!b)
def kC3 (q:Op)(y:W)(z:W×Env):RE:=ret z.2<|oSem q Lv [y,z.1]
def then' {a b:Type}(f:Env->Res (a×Env))(k:a×Env->Res b)(c:Env):Res b:=(f c).bind k
def kC2 (o q:Op)(a:Env->RE)(x:W)(y:W×Env):RE:=(ret y.2<|oSem o Lv [x,y.1]).bind λk=>onB k.1.2 (then' a<|kC3 q y.1) (okW (.d,.bl Lv)) k.2
def kC1 (o q:Op)(a b:Env->RE)(x:W×Env):RE:=(a x.2).bind<|kC2 o q b x.1
def kBack (a:U O)(b:Env)(r:W×U W):RE:=.ok (r.1,putAll a r.2 b)
def kCall (C:Call)(f:O)(a:U O)(p:U W×Env):RE:=(C f p.1).bind<|kBack a p.2
def kMeth (C:Call)(f i:O)(a:Env)(w:W):RE:=(C f [w]).bind<|kBack [i]<|del a i
noncomputable def ju (p:W×Env):Res (L W×Env):=.ok (Y p.1,p.2)
def dS (f:Env->RE)(a:Env):Res (L W×Env):=(f a).bind ju
def vL (c f:Env->RE)(a:Env):Res (L W×Env):=(c a).bind<|onT (dS f)<|okW J
def aH (b:U O)(f:Env->Res (L W×Env)):U (U W)->Env->U W->Res (U W×Env)
|[],c,a=>.ok (a,c)
|e::r,c,a=>(ofO<|bC b e c).bind λd=>(f d).bind λp=>aH b f r (aw b p.2)<|a++p.1.toList
def okD (w:W):Rl:=w.1==.d || w.2.leaf
def ll (h:Rl)(q:U W×Env):RE:=ret q.2<|if h then(if q.1.all okD then Y (.d,.lst<|trees q.1) else J) else Y (.o .s,.lst<|trees q.1)
def fK (h:Rl)(k:Ik)(a:U O)(f:Env->Res (L W×Env))(p:U W×Env):RE:=(ret (aw a p.2)<|bO k p.1).bind λt=>(aH a f t.1 t.2 []).bind<|ll h
noncomputable def k9 (f:Env->Res (U W×Env))(a:Env)(k:U W×Env->RE)(_:Unit):RE:=(f a).bind k
def qQ (i:O)(p:U W×Env):RE:=(ofO<|(rd p.2 i).bind λw=>jS w p.1).bind λr=>.ok (r.1,put p.2 i r.2)
def attVT (f:Str):L W->L W
|some (_,.obj _ fs a)=>(lookF f fs a).map λt=>(lfM t,t)
|_=>J
def methT (c:O):L W->L W
|some (m,.obj d fs a)=>if d=c then Y (m,.obj d fs a) else J
|_=>J
def ox (w:W)(q:U W×Env):Res (U W×Env):=.ok (w::q.1,q.2)
def aW (f:Env->Res (U W×Env))(p:W×Env):Res (U W×Env):=(f p.2).bind<|ox p.1
def kTab {b:Type}(tab:U<|Str×b)(f:b->Env->RE)(p:W×Env):RE:=match p.1.2 with
|.str x=>match tab.lookup x with
 |some a=>f a p.2
 |none=>.no
|_=>.no
def kIn (a:Rl)(b:U Str)(p:W×Env):RE:=match p.1.2 with
|.str x=>.ok ((.d,.bl<|b.contains x != a),p.2)
|_=>.no
def okS (t:T)(a:Env):RE:=.ok ((.s,t),a)
def kGet (tab:U<|Str×T)(p:W×Env):RE:=match p.1.2 with
|.str x=>.ok ((.s,(tab.lookup x).getD .non),p.2)
|_=>.no
def kX (a:U O)(b:Env)(p:W×Env):RE:=.ok ((lf p.1.1 p.1.2,p.1.2),after (lf p.1.1 p.1.2) a b)
def kIo (i:O)(p:U W×Env):Res (U W×Env):=(ofO<|rd p.2 i).bind λw=>.ok (w::p.1,del p.2 i)
section
variable (C:Call)
mutual
def evE:E->Env->RE
|.var i,η=>ret η<|(rd η i).bind look
|.mv i,η=>ret (del η i)<|rd η i
|.io i,η=>ret (del η i)<|rd η i
|.cst t,η=>.ok ((.d,t),η)
|.glb _ t,η=>.ok ((.s,t),η)
|.tup es,η=>(evL es η).bind uT
|.lst h es,η=>(evL es η).bind<|wK h
|.op o h es,η=>(evL es η).bind<|kOp o h
|.and a b,η=>(evE a η).bind<|rC<|evE b
|.or a b,η=>(evE a η).bind<|kOr<|evE b
|.not a,η=>(evE a η).bind wR
|.ifx c a b,η=>(evE c η).bind<|onT (evE a)<|evE b
|.chain o q a b c,η=>(evE a η).bind<|kC1 o q (evE b)<|evE c
|.call f es,η=>(evA es η).bind<|kCall C f<|ios es
|.comp h k src tg J elt,η=>(evL src η).bind<|fK h k tg<|dS<|evE elt
|.comp h k src tg (Y c) elt,η=>(evL src η).bind<|fK h k tg<|vL (evE c)<|evE elt
|.pop i es,η=>(fT<|rd η i).bind<|k9 (evL es) η<|qQ i
|.lenV i,η=>ret η<|(rd η i).bind λw=>oSem .len Lv [w]
|.qx vs ls e,η=>(evE e<|pick vs ls η).bind<|kX vs η
|.attV i fld,η=>ret η<|attVT fld<|rd η i
|.meth c f i,η=>(ofO<|methT c<|rd η i).bind<|kMeth C f i η
|.inT neg ks e,η=>(evE e η).bind<|kIn neg ks
|.ixT tab e,η=>(evE e η).bind<|kTab tab okS
|.getT tab e,η=>(evE e η).bind<|kGet tab
def evL:U E->Env->Res (U W×Env)
|[],η=>.ok ([],η)
|e::es,η=>(evE e η).bind<|aW<|evL es
def evA:U E->Env->Res (U W×Env)
|[],η=>.ok ([],η)
|.io i::es,η=>(evA es η).bind<|kIo i
|e::es,η=>(evE e η).bind<|aW<|evA es
end
def kT (a:Env)(p:W×Env):Res (Rl×Env):=ret a<|truth p.1.2
def kT2 (p:W×Env):Res (Rl×Env):=ret p.2<|truth p.1.2
def evX:X->E->Env->RE
|.q a c,e,b=>(evE C e<|pick a c b).bind<|kX a b
|.l a,e,b=>evE C e<|share a b
def evT:X->E->Env->Res (Rl×Env)
|.q b c,e,a=>(evE C e<|pick b c a).bind<|kT a
|.l b,e,a=>(evE C e<|share b a).bind kT2
def Fl.of {b:Type}(c:Env):Res b->(b->Fl)->Fl
|.ok a,f=>f a
|.ex _,_=>.no
|.no,_=>.no
noncomputable def Fl.seq:Fl->(Env->Fl)->Fl
|.nx a,f=>f a
|z,_=>z
noncomputable def Fl.turn:Fl->(Env->Fl)->Fl
|.nx a,f=>f a
|.bk a,_=>.nx a
|z,_=>z
noncomputable def onF:Rl->(Env->Fl)->(Env->Fl)->Env->Fl
|true,f,_,a=>f a
|false,_,g,a=>g a
def bY (c:U O)(f:Env->Fl):U (U W)->Env->Fl
|[],a=>.nx a
|d::r,a=>Fl.of a (ofO<|bC c d a) λb=>Fl.turn (f b)<|bY c f r
def kIf (f g:Env->Fl)(p:Rl×Env):Fl:=onF p.1 f g p.2
def wm (f:Env->Fl)(g:Env->Fl)(a:Env):Fl:=Fl.turn (f a) g
def lR (c:Env->Res (Rl×Env))(f:Env->Fl):O->Env->Fl
|0,_=>.no
|n+1,a=>Fl.of a (c a)<|kIf (wm f<|lR c f n) .nx
def tF:O:=1000000000000
def nxO (a:Env):L Env->Fl
|some a=>.nx a
|none=>.no
def zB (i:O)(p:W×Env):Fl:=.nx<|put p.2 i p.1
def wJ (i:O)(p:W×Env):Fl:=nxO p.2<|((rd p.2 i).bind λw=>iM w p.1).map λw=>put p.2 i w
def xN (i:O)(p:W×Env):Fl:=nxO p.2<|((rd p.2 i).bind λw=>iL w p.1).map λw=>put p.2 i w
def BO (i:O)(x:W)(q:W×Env):Fl:=nxO q.2<|((rd q.2 i).bind λw=>mj w q.1 x).map λw=>put q.2 i w
def tY (i:O)(x:W)(q:W×Env):Fl:=nxO q.2<|((rd q.2 i).bind λw=>Jj w q.1 x).map λw=>put q.2 i w
def F3 (i:O)(f:Env->RE)(a:Env)(p:W×Env):Fl:=Fl.of a (f p.2)<|tY i p.1
def fH (f:Str):W->W->L W
|(.o _,.obj c fs b),(_,t)=>if(t.leaf&&decide (fs.length<1000))=Lw then(d7 f t fs b).map λa=>(.o .s,.obj c fs a) else J
|_,_=>J
def oz (i:O)(f:Str)(p:W×Env):Fl:=nxO p.2<|((rd p.2 i).bind λw=>fH f w p.1).map λw=>put p.2 i w
def Kc (i:O)(f:Env->RE)(a:Env)(p:W×Env):Fl:=Fl.of a (f p.2)<|BO i p.1
noncomputable def mO (f:Env->RE)(a:Env)(k:W×Env->Fl)(_:Unit):Fl:=Fl.of a (f a) k
def kNx (p:W×Env):Fl:=.nx p.2
def kRt (p:W×Env):Fl:=.rt p.1 p.2
def wH (a:U O)(f:Env->Fl)(t:U (U W)×Env):Fl:=bY a f t.1 t.2
def A8 (c:U O)(k:Ik)(b:U O)(f:Env->Fl)(a:Env)(p:U W×Env):Fl:=Fl.of a (ret (share c a)<|bO k p.1)<|wH b f
def zd (k:W->Env->Fl)(a:Env):Res (W×U W)->Fl
|.ok (w,[])=>k w a
|.ex t=>.ex t a
|_=>.no
def kC (f:O)(k:W->Env->Fl)(p:U W×Env):Fl:=zd k p.2<|C f p.1
def HG (i:O)(w:W)(a:Env):Fl:=.nx<|put a i w
def Gx (_:W)(a:Env):Fl:=.nx a
def mQ (c:O)(fld:Str)(a:O)(p:W×Env):Fl:=if vh a p.1.1 p.1.2=Lw then .ex (.ins c [fld] [p.1.2]) p.2 else .no
def Fl.drop (i:O):Fl->Fl
|.nx a=>.nx<|del a i
|.rt w a=>.rt w<|del a i
|_=>.no
def Fl.caught (a:U O)(i:O)(h:Env->Fl):Fl->Fl
|.ex (.ins c fs b) d=>if a.contains c=Lw then Fl.drop i (h<|put d i (.s,.ins c fs b)) else .no
|.ex _ _=>.no
|z=>z
mutual
def evS:S->Env->Fl
|.asg x i e,η=>Fl.of η (evX C x e η)<|zB i
|.setP x i fld e,η=>Fl.of η (evX C x e η)<|oz i fld
|.exp x e,η=>Fl.of η (evX C x e η) kNx
|.app x i e,η=>Fl.of η (fT<|rd η i)<|mO (evX C x e) η<|wJ i
|.ext x i e,η=>Fl.of η (fT<|rd η i)<|mO (evX C x e) η<|xN i
|.ret vs e,η=>Fl.of η (evE C e<|share vs η) kRt
|.ite x c a b,η=>Fl.of η (evT C x c η)<|kIf (evSs a)<|evSs b
|.forS vs ls k src tg body,η=>Fl.of η (evL C src<|pick vs ls η)<|A8 vs k tg (evSs body) η
|.whl x c body,η=>lR (evT C x c) (evSs body) tF η
|.brk,η=>.bk η
|.pas,η=>.nx η
|.stop,_=>.no
|.tri body,η=>evSs body η
|.raise c fld fk x e,η=>Fl.of η (evX C x e η)<|mQ c fld fk
def evSs:U S->Env->Fl
|[],η=>.nx η
|s::r,η=>Fl.seq (evS s η)<|evSs r
end
end
def backs:U O->Env->L (U W)
|[],_=>Y []
|i::b,a=>(rd a i).bind λw=>(backs b a).bind λc=>Y (w::c)
def tw (w:W)(b:U W):Res (W×U W):=.ok (w,b)
def Fl.out (b:U O):Fl->Res (W×U W)
|.nx a=>(ofO<|backs b a).bind<|tw (.d,.non)
|.rt w a=>(ofO<|backs b a).bind<|tw w
|.ex t _=>.ex t
|_=>.no
def runF (C:Call)(f:Fn)(a:U W):Res (W×U W):=
 if a.length=f.ps then Fl.out f.io (evSs C f.body<|a.map Y++LU f.ns J) else .no
abbrev Lj:=U Fn
def FJ (n:O):U W->Res (W×U W)
|[(m,t)]=>if(lf m t==.d&&(decide (dp t<=n)&&decide (dp t<=64)))=Lw then .ok ((.d,.non),[]) else .no
|_=>.no
def BM:U O->U T->U T
|[],_=>[]
|n::b,a=>.lst (a.take n)::BM b (a.drop n)
noncomputable def sR:U T->L (U O)
|[]=>Y []
|.int (.ofNat n)::a=>(sR a).map (n::·)
|_::_=>J
def Iw:U W->Res (W×U W)
|[(_,.lst a),(m,.lst c)]=>(ofO<|sR a).bind λb=>.ok ((m.kid.up.up,.lst<|BM b c),[])
|_=>.no
def callR (P:Lj)(s r:O):O->Call
|0=>λ_ _=>.no
|n+1=>λf a=>if f=s then FJ n a else if f=r then Iw a else(ofO P[f]?).bind λd=>runF (callR P s r n) d a
abbrev zf:Fn:={ps:=0,ns:=0,io:=[],body:=[.stop]}
theorem zf_no (C:Call)(a:U W):runF C zf a=.no:=by cases a<;>rfl
theorem Cy (C:Call)(i:O)(a:Env):evE C (.var i) a=ret a ((rd a i).bind look):=rfl
theorem EI (C:Call)(i:O)(a:Env):evE C (.mv i) a=ret (del a i) (rd a i):=rfl
theorem C9 (C:Call)(i:O)(a:Env):evE C (.io i) a=ret (del a i) (rd a i):=rfl
theorem DQ (C:Call)(t:T)(a:Env):evE C (.cst t) a=.ok ((.d,t),a):=rfl
theorem De (C:Call)(t:T)(b:Str)(a:Env):evE C (.glb b t) a=.ok ((.s,t),a):=rfl
theorem Dh (C:Call)(a:U E)(b:Env):evE C (.tup a) b=(evL C a b).bind uT:=rfl
theorem EJ (C:Call)(h:Rl)(a:U E)(b:Env):evE C (.lst h a) b=(evL C a b).bind (wK h):=rfl
theorem Ea (C:Call)(o:Op)(h:Rl)(a:U E)(b:Env):evE C (.op o h a) b=(evL C a b).bind (kOp o h):=rfl
theorem zh (C:Call)(a:E)(b:E)(c:Env):evE C (.and a b) c=(evE C a c).bind (rC<|evE C b):=rfl
theorem yS (C:Call)(a:E)(b:E)(c:Env):evE C (.or a b) c=(evE C a c).bind (kOr<|evE C b):=rfl
theorem yH (C:Call)(a:E)(b:Env):evE C (.not a) b=(evE C a b).bind wR:=rfl
theorem yV (C:Call)(c:E)(a:E)(b:E)(d:Env):evE C (.ifx c a b) d=(evE C c d).bind (onT (evE C a)<|evE C b):=rfl
theorem yt (C:Call)(o:Op)(q:Op)(a:E)(b:E)(c:E)(d:Env):evE C (.chain o q a b c) d=(evE C a d).bind (kC1 o q (evE C b)<|evE C c):=rfl
theorem zG (C:Call)(f:O)(a:U E)(b:Env):evE C (.call f a) b=(evA C a b).bind (kCall C f<|ios a):=rfl
theorem Af (C:Call)(h:Rl)(k:Ik)(b:U E)(c:U O)(a:E)(d:Env):evE C (.comp h k b c J a) d=(evL C b d).bind (fK h k c<|dS<|evE C a):=rfl
theorem zp (C:Call)(h:Rl)(k:Ik)(b:U E)(d:U O)(c:E)(a:E)(e:Env):evE C (.comp h k b d (Y c) a) e=(evL C b e).bind (fK h k d<|vL (evE C c)<|evE C a):=rfl
theorem yA (C:Call)(i:O)(b:U E)(a:Env):evE C (.pop i b) a=(fT<|rd a i).bind (k9 (evL C b) a<|qQ i):=rfl
theorem uX (C:Call)(a c:U O)(e:E)(b:Env):evE C (.qx a c e) b=(evE C e<|pick a c b).bind (kX a b):=rfl
theorem qO (C:Call)(a:Rl)(b:U Str)(e:E)(c:Env):evE C (.inT a b e) c=(evE C e c).bind (kIn a b):=rfl
theorem qt (C:Call)(tab:U<|Str×T)(e:E)(a:Env):evE C (.ixT tab e) a=(evE C e a).bind (kTab tab okS):=rfl
theorem nU (C:Call)(tab:U<|Str×T)(e:E)(a:Env):evE C (.getT tab e) a=(evE C e a).bind (kGet tab):=rfl
theorem ve (C:Call)(c b:U O)(e:E)(a:U E)(d:Env):evA C (.qx c b e::a) d=(evE C (.qx c b e) d).bind (aW<|evA C a):=rfl
theorem qE (C:Call)(a:Rl)(c:U Str)(e:E)(b:U E)(d:Env):evA C (.inT a c e::b) d=(evE C (.inT a c e) d).bind (aW<|evA C b):=rfl
theorem qa (C:Call)(tab:U<|Str×T)(e:E)(a:U E)(b:Env):evA C (.ixT tab e::a) b=(evE C (.ixT tab e) b).bind (aW<|evA C a):=rfl
theorem oj (C:Call)(tab:U<|Str×T)(e:E)(a:U E)(b:Env):evA C (.getT tab e::a) b=(evE C (.getT tab e) b).bind (aW<|evA C a):=rfl
theorem FD {b:Type}(tab:U<|Str×b)(f:b->Env->RE)(m:Md)(x:Str)(c:Env):kTab tab f ((m,.str x),c)=(match tab.lookup x with|some a=>f a c | none=>.no):=rfl
theorem Cu (h:Rl)(m n:Md)(a:U T)(i:I):oSem .sl2 h [(m,.lst a),(n,.int i)]=newL h m.kid (cut a J<|Y i):=rfl
theorem Ei (h:Rl)(m n:Md)(a:U T)(i:I):oSem .sl1 h [(m,.lst a),(n,.int i)]=newL h m.kid (cut a (Y i) J):=rfl
theorem EW (h:Rl)(m n:Md)(a:U T)(k:I):oSem .mul h [(m,.lst a),(n,.int k)]=if decide (k.natAbs<4611686018427387904)&&fits (a.length * k.toNat) then newL h .s (LU k.toNat a).flatten else none:=rfl
def lkM:Md->Md
|.s=>.s|_=>.d
theorem JA:lkM .s=.s:=rfl
theorem JT:lkM .d=.d:=rfl
theorem Lc (m:Md):lkM (.o m)=.d:=rfl
theorem Ir (m:Md)(i:I):look (m,.int i)=Y (lkM m,.int i):=by cases m<;>rfl
theorem HR (m:Md)(b:Rl):look (m,.bl b)=Y (lkM m,.bl b):=by cases m<;>rfl
theorem F6 (m:Md)(x:Str):look (m,.str x)=Y (lkM m,.str x):=by cases m<;>rfl
theorem GS (m:Md):look (m,.non)=Y (lkM m,.non):=by cases m<;>rfl
theorem Dg (m n k:Md)(a b c:U T):bO .zip3 [(m,.lst a),(n,.lst b),(k,.lst c)]=Y (v3 a b c):=rfl
theorem KH (a:Rl)(b:U Str)(m:Md)(x:Str)(c:Env):kIn a b ((m,.str x),c)=.ok ((.d,.bl<|b.contains x != a),c):=rfl
theorem Io (tab:U<|Str×T)(m:Md)(x:Str)(a:Env):kGet tab ((m,.str x),a)=.ok ((.s,(tab.lookup x).getD .non),a):=rfl
theorem og (C:Call)(i:O)(a:Env):evE C (.lenV i) a=ret a ((rd a i).bind λw=>oSem .len Lv [w]):=rfl
theorem mW (C:Call)(i:O)(a:U E)(b:Env):evA C (.lenV i::a) b=(evE C (.lenV i) b).bind (aW<|evA C a):=rfl
theorem CU (C:Call)(a:Env):evA C [] a=.ok ([],a):=rfl
theorem Ew (C:Call)(i:O)(a:U E)(b:Env):evA C (.io i::a) b=(evA C a b).bind (kIo i):=rfl
theorem rh (C:Call)(i:O)(a:U E)(b:Env):evA C (.var i::a) b=(evE C (.var i) b).bind (aW<|evA C a):=rfl
theorem v5 (C:Call)(i:O)(a:U E)(b:Env):evA C (.mv i::a) b=(evE C (.mv i) b).bind (aW<|evA C a):=rfl
theorem qJ (C:Call)(t:T)(a:U E)(b:Env):evA C (.cst t::a) b=(evE C (.cst t) b).bind (aW<|evA C a):=rfl
theorem qw (C:Call)(x:Str)(t:T)(a:U E)(b:Env):evA C (.glb x t::a) b=(evE C (.glb x t) b).bind (aW<|evA C a):=rfl
theorem qm (C:Call)(l:U E)(a:U E)(b:Env):evA C (.tup l::a) b=(evE C (.tup l) b).bind (aW<|evA C a):=rfl
theorem qX (C:Call)(h:Rl)(l:U E)(a:U E)(b:Env):evA C (.lst h l::a) b=(evE C (.lst h l) b).bind (aW<|evA C a):=rfl
theorem sY (C:Call)(o:Op)(h:Rl)(l:U E)(a:U E)(b:Env):evA C (.op o h l::a) b=(evE C (.op o h l) b).bind (aW<|evA C a):=rfl
theorem q0 (C:Call)(a b:E)(c:U E)(d:Env):evA C (.and a b::c) d=(evE C (.and a b) d).bind (aW<|evA C c):=rfl
theorem vV (C:Call)(a b:E)(c:U E)(d:Env):evA C (.or a b::c) d=(evE C (.or a b) d).bind (aW<|evA C c):=rfl
theorem rf (C:Call)(a:E)(b:U E)(c:Env):evA C (.not a::b) c=(evE C (.not a) c).bind (aW<|evA C b):=rfl
theorem qe (C:Call)(c a b:E)(d:U E)(e:Env):evA C (.ifx c a b::d) e=(evE C (.ifx c a b) e).bind (aW<|evA C d):=rfl
theorem l7 (C:Call)(o p:Op)(a b c:E)(d:U E)(e:Env):evA C (.chain o p a b c::d) e=(evE C (.chain o p a b c) e).bind (aW<|evA C d):=rfl
theorem nF (C:Call)(f:O)(l:U E)(a:U E)(b:Env):evA C (.call f l::a) b=(evE C (.call f l) b).bind (aW<|evA C a):=rfl
theorem nX (C:Call)(h:Rl)(k:Ik)(c:U E)(e:U O)(a:L E)(b:E)(d:U E)(f:Env):evA C (.comp h k c e a b::d) f=(evE C (.comp h k c e a b) f).bind (aW<|evA C d):=rfl
theorem pX (C:Call)(i:O)(l:U E)(a:U E)(b:Env):evA C (.pop i l::a) b=(evE C (.pop i l) b).bind (aW<|evA C a):=rfl
theorem ER {C:Call}{e:E}{a:U E}{b:Env}(c:∀i,e≠.io i):evA C (e::a) b=(evE C e b).bind (aW<|evA C a):=by
 cases e with
 |io i=>exact Rm rfl (c i)
 |_=>rfl
theorem yu (C:Call)(a:Env):evL C ([]) a=.ok ([],a):=rfl
theorem Bq (C:Call)(e:E)(a:U E)(b:Env):evL C (e::a) b=(evE C e b).bind (aW<|evL C a):=rfl
theorem Aa (C:Call)(x:X)(i:O)(e:E)(a:Env):evS C (.asg x i e) a=Fl.of a (evX C x e a) (zB i):=rfl
theorem zX (C:Call)(x:X)(e:E)(a:Env):evS C (.exp x e) a=Fl.of a (evX C x e a) kNx:=rfl
theorem zi (C:Call)(x:X)(i:O)(e:E)(a:Env):evS C (.app x i e) a=Fl.of a (fT<|rd a i) (mO (evX C x e) a<|wJ i):=rfl
theorem zt (C:Call)(x:X)(i:O)(e:E)(a:Env):evS C (.ext x i e) a=Fl.of a (fT<|rd a i) (mO (evX C x e) a<|xN i):=rfl
theorem AR (C:Call)(b:U O)(e:E)(a:Env):evS C (.ret b e) a=Fl.of a (evE C e<|share b a) kRt:=rfl
theorem Bj (C:Call)(x:X)(c:E)(a:U S)(b:U S)(d:Env):evS C (.ite x c a b) d=Fl.of d (evT C x c d) (kIf (evSs C a)<|evSs C b):=rfl
theorem yM (C:Call)(d:U O)(e:U O)(k:Ik)(b:U E)(f:U O)(a:U S)(c:Env):evS C (.forS d e k b f a) c=Fl.of c (evL C b<|pick d e c) (A8 d k f (evSs C a) c):=rfl
theorem Bb (C:Call)(x:X)(c:E)(a:U S)(b:Env):evS C (.whl x c a) b=lR (evT C x c) (evSs C a) tF b:=rfl
theorem Ab (C:Call)(a:Env):evS C (.brk) a=.bk a:=rfl
theorem zq (C:Call)(a:Env):evS C (.pas) a=.nx a:=rfl
theorem wx (C:Call)(a:Env):evSs C ([]) a=.nx a:=rfl
theorem vW (C:Call)(s:S)(r:U S)(a:Env):evSs C (s::r) a=Fl.seq (evS C s a) (evSs C r):=rfl
theorem yE (C:Call)(a:U O)(c:U O)(e:E)(b:Env):evX C (.q a c) e b=(evE C e<|pick a c b).bind (kX a b):=rfl
theorem Bn (C:Call)(a:U O)(e:E)(b:Env):evX C (.l a) e b=evE C e (share a b):=rfl
theorem Bi (C:Call)(c:U O)(b:U O)(e:E)(a:Env):evT C (.q c b) e a=(evE C e<|pick c b a).bind (kT a):=rfl
theorem yx (C:Call)(a:U O)(e:E)(b:Env):evT C (.l a) e b=(evE C e<|share a b).bind kT2:=rfl
theorem Fj {b c:Type}(a:b)(f:b->Res c):(Res.ok a).bind f=f a:=rfl
theorem Ki {b:Type}(c:Env)(a:b)(f:b->Fl):Fl.of c (.ok a) f=f a:=rfl
theorem CK (a:Env)(f:Env->Fl):Fl.seq (.nx a) f=f a:=rfl
theorem Dj (w:W)(a:Env)(f:Env->Fl):Fl.seq (.rt w a) f=.rt w a:=rfl
theorem FE (a:Env)(f:Env->Fl):Fl.seq (.bk a) f=.bk a:=rfl
theorem yL (a:Env)(f:Env->Fl):Fl.turn (.nx a) f=f a:=rfl
theorem y7 (w:W)(a:Env)(f:Env->Fl):Fl.turn (.rt w a) f=.rt w a:=rfl
theorem zM (a:Env)(f:Env->Fl):Fl.turn (.bk a) f=.nx a:=rfl
theorem Dp {b:Type}(f g:Env->Res b)(a:Env):onB (.bl Lw) f g a=f a:=rfl
theorem CS {b:Type}(f g:Env->Res b)(a:Env):onB (.bl Lv) f g a=g a:=rfl
theorem FG {c:Type}(f g:Env->Res c)(m:Md)(b:Rl)(a:Env):onT f g ((m,.bl b),a)=onB (.bl b) f g a:=by cases b<;>rfl
theorem CF {b:Type}(f g:Env->Res b)(m:Md)(a:Env):onT f g ((m,.bl Lw),a)=f a:=rfl
theorem Co {b:Type}(f g:Env->Res b)(m:Md)(a:Env):onT f g ((m,.bl Lv),a)=g a:=rfl
theorem Em (f g:Env->Fl)(a:Env):onF Lw f g a=f a:=rfl
theorem CP (f g:Env->Fl)(a:Env):onF Lv f g a=g a:=rfl
theorem HQ {b:Type}(a:b):ofO (Y a)=.ok a:=rfl
theorem FT {c:Type}(b:Env)(a:c):ret b (Y a)=.ok (a,b):=rfl
theorem IW (o:L W)(a:Env):rd (o::a) 0=o:=rfl
theorem Ha (o:L W)(a:Env)(i:O):rd (o::a) (i+1)=rd a i:=rfl
theorem Hr (o w:L W)(a:Env):wr (o::a) 0 w=w::a:=rfl
theorem IP (o w:L W)(a:Env)(i:O):wr (o::a) (i+1) w=o::wr a i w:=rfl
theorem Ay (t:T):look (.s,t)=Y (.s,t):=rfl
theorem AI (m:Md)(i:I):(look (.d,.int i))=Y (.d,.int i):=rfl
theorem Bc (m:Md)(b:Rl):(look (.d,.bl b))=Y (.d,.bl b):=rfl
theorem Au (x:Str):(look (.d,.str x))=Y (.d,.str x):=rfl
theorem yZ:(look (.d,.non))=Y (.d,.non):=rfl
theorem GL (m:Md)(t:T):toS (Y (m,t))=Y (.s,t):=rfl
theorem Fd:toS J=none:=rfl
theorem xO (a:Env):share [] a=a:=rfl
theorem rO (i:O)(b:U O)(a:Env):share (i::b) a=share b (wr a i<|toS<|rd a i):=rfl
theorem vj:blank []=[]:=rfl
theorem uR (o:L W)(a:Env):blank (o::a)=none::blank a:=rfl
theorem EC (c b:U O)(a:Env):pick c b a=hI b a (nq c a<|blank a):=rfl
theorem Bp (a b:Env):nq [] a b=b:=rfl
theorem yG (i:O)(b:U O)(a c:Env):nq (i::b) a c=nq b a (wr c i<|toS<|rd a i):=rfl
theorem xy (a b:Env):hI [] a b=b:=rfl
theorem uV (i:O)(b:U O)(a c:Env):hI (i::b) a c=hI b a (wr c i<|lfO<|rd a i):=rfl
theorem Ge (m:Md)(i:I):lfO (Y (m,.int i))=Y (.d,.int i):=rfl
theorem Hv (m:Md)(b:Rl):lfO (Y (m,.bl b))=Y (.d,.bl b):=rfl
theorem Jm (m:Md)(x:Str):lfO (Y (m,.str x))=Y (.d,.str x):=rfl
theorem Ju (m:Md):lfO (Y (m,.non))=Y (.d,.non):=rfl
theorem xq (b:U O)(a:Env):after .d b a=a:=rfl
theorem wY (a:U O)(b:Env):after .s a b=share a b:=rfl
theorem wq (m:Md)(a:U O)(b:Env):after (.o m) a b=share a b:=rfl
theorem EZ (m:Md)(i:I):lf m (.int i)=.d:=rfl
theorem EB (m:Md)(b:Rl):lf m (.bl b)=.d:=rfl
theorem C7 (m:Md)(x:Str):lf m (.str x)=.d:=rfl
theorem CB (m:Md):lf m .non=.d:=rfl
theorem CZ (m:Md)(a:U T):lf m (.lst a)=m:=rfl
theorem DR (m:Md)(a:U T):lf m (.tup a)=m:=rfl
theorem Ft (t:T):lf .d t=.d:=by unfold lf;split<;>rfl
theorem EH (m:Md):Md.s.le m=true:=by cases m<;>rfl
theorem zy:Md.d.le .d=true:=rfl
theorem Bt (m:Md):(Md.o m).le .d=true:=rfl
theorem Bw (m n:Md):(Md.o m).le (.o n)=m.le n:=rfl
theorem FC (h:Rl)(m n:Md)(i j:I):oSem .add h [(m,.int i),(n,.int j)]=Y (.d,.int<|i+j):=rfl
theorem ti (h:Rl)(m n:Md)(a b:U T):oSem .add h [(m,.lst a),(n,.lst b)]=if fits (a.length+b.length) then newL h (m.kid.meet n.kid) (a++b) else none:=rfl
theorem uM (h:Rl)(m n:Md)(x y:Str):oSem .add h [(m,.str x),(n,.str y)]=if fits (x.cps.size+y.cps.size) then Y (.d,.str<|x++y) else none:=rfl
theorem xf (h:Rl)(m n:Md)(a b:U T):oSem .add h [(m,.tup a),(n,.tup b)]=if fits (a.length+b.length)&&!a.isEmpty then Y (.s,.tup<|a++b) else none:=rfl
theorem Ho (h:Rl)(m n:Md)(i j:I):oSem .sub h [(m,.int i),(n,.int j)]=Y (.d,.int<|i-j):=rfl
theorem vZ (h:Rl)(m n:Md)(i j:I):oSem .mul h [(m,.int i),(n,.int j)]=if(decide (i.natAbs<18446744073709551616)) || (decide (j.natAbs<18446744073709551616)) then Y (.d,.int<|i * j) else none:=rfl
theorem vF (h:Rl)(m n:Md)(i j:I):oSem .fdiv h [(m,.int i),(n,.int j)]=if decide (0<j)&&decide (j<1073741824) then Y (.d,.int<|i / j) else none:=rfl
theorem BL (h:Rl)(m n:Md)(i j:I):oSem .mod h [(m,.int i),(n,.int j)]=if decide (0<j) then Y (.d,.int<|i % j) else none:=rfl
theorem Bx (h:Rl)(m n:Md)(i j:I):oSem .pow h [(m,.int i),(n,.int j)]=if decide (0<=j)&&decide (j<=1000000)&&decide (i.natAbs<18446744073709551616) then Y (.d,.int<|i ^ j.toNat) else none:=rfl
theorem Gn (h:Rl)(m:Md)(i:I):oSem .neg h [(m,.int i)]=Y (.d,.int (-i)):=rfl
theorem Fm (h:Rl)(m n:Md)(i j:I):oSem .eq h [(m,.int i),(n,.int j)]=Y (.d,.bl<|i==j):=rfl
theorem EG (h:Rl)(m n:Md)(x y:Str):oSem .eq h [(m,.str x),(n,.str y)]=Y (.d,.bl<|x==y):=rfl
theorem Ed (h:Rl)(m n:Md)(a b:Rl):oSem .eq h [(m,.bl a),(n,.bl b)]=Y (.d,.bl<|a==b):=rfl
theorem DK (h:Rl)(m n:Md)(i j:I):oSem .ne h [(m,.int i),(n,.int j)]=Y (.d,.bl<|!(i==j)):=rfl
theorem Dz (h:Rl)(m n:Md)(x y:Str):oSem .ne h [(m,.str x),(n,.str y)]=Y (.d,.bl<|!(x==y)):=rfl
theorem DN (h:Rl)(m n:Md)(a b:Rl):oSem .ne h [(m,.bl a),(n,.bl b)]=Y (.d,.bl<|!(a==b)):=rfl
theorem Kt (h:Rl)(m n:Md)(i j:I):oSem .lt h [(m,.int i),(n,.int j)]=Y (.d,.bl<|decide (i<j)):=rfl
theorem KW (h:Rl)(m n:Md)(i j:I):oSem .le h [(m,.int i),(n,.int j)]=Y (.d,.bl<|decide (i<=j)):=rfl
theorem JD (h:Rl)(m n:Md)(i j:I):oSem .gt h [(m,.int i),(n,.int j)]=Y (.d,.bl<|decide (j<i)):=rfl
theorem K2 (h:Rl)(m n:Md)(i j:I):oSem .ge h [(m,.int i),(n,.int j)]=Y (.d,.bl<|decide (j<=i)):=rfl
theorem KN (h:Rl)(m n:Md)(a:T):oSem .is h [(m,a),(n,.non)]=if a.isG then J else Y (.d,.bl a.isN):=rfl
theorem AG (h:Rl)(m n:Md)(a:T):oSem .isnot h [(m,a),(n,.non)]=if a.isG then J else Y (.d,.bl<|!a.isN):=rfl
theorem Iq (h:Rl)(m n:Md)(a:U T)(i:I):oSem .ix h [(m,.lst a),(n,.int i)]=(atI a i).map λt=>(m.kid,t):=rfl
theorem Iz (h:Rl)(m n:Md)(a:U T)(i:I):oSem .ix h [(m,.tup a),(n,.int i)]=(atI a i).map λt=>(m.kid,t):=rfl
theorem Fy (h:Rl)(m:Md)(a:U T):oSem .len h [(m,.lst a)]=Y (.d,.int a.length):=rfl
theorem Fc (h:Rl)(m:Md)(a:U T):oSem .len h [(m,.tup a)]=Y (.d,.int a.length):=rfl
theorem Cz (h:Rl)(m:Md)(a:U I):oSem .len h [(m,.scr a)]=Y (.d,.int a.length):=rfl
theorem BW (h:Rl)(m n:Md)(a:U I)(i:I):oSem .ix h [(m,.scr a),(n,.int i)]=(atI a i).map λn=>(.d,.int n):=rfl
theorem GZ (h:Rl)(m n:Md)(a:U I)(i:I):oSem .sl2 h [(m,.scr a),(n,.int i)]=Y (.d,.lst<|(cut a J<|Y i).map T.int):=rfl
theorem EU (m:Md)(a:U I):lf m (.scr a)=.d:=rfl
theorem IE (m:Md)(a:U I):lfO (Y (m,.scr a))=Y (.d,.scr a):=rfl
theorem zV (a:U I):look (.d,.scr a)=Y (.d,.scr a):=rfl
theorem Ez (h:Rl)(m:Md)(x:Str):oSem .len h [(m,.str x)]=Y (.d,.int x.cps.size):=rfl
theorem EV (fld g:Str)(c:O)(h:Rl)(m:Md)(a:U T):oSem (.att fld) h [(m,.ins c [g] [.tup a])]=if(g==fld)=Lw then Y (.s,.tup a) else none:=rfl
theorem CY (fld g:Str)(c:O)(h:Rl)(m:Md)(x:Str):oSem (.att fld) h [(m,.ins c [g] [.str x])]=if(g==fld)=Lw then Y (.d,.str x) else none:=rfl
theorem KU (c:O)(fld:Str)(a:O)(h:Rl)(m:Md)(t:T):oSem (.mk c fld a) h [(m,t)]=if vh a m t=Lw then Y (.s,.ins c [fld] [t]) else none:=rfl
theorem Jh (fld g:Str)(c:O)(h:Rl)(m:Md)(n:I):oSem (.att fld) h [(m,.ins c [g] [.int n])]=if(g==fld)=Lw then Y (.d,.int n) else none:=rfl
theorem Hq (b:U Rr)(h:Rl)(m:Md)(a:T):oSem (.isI b) h [(m,a)]=if a.isH then J else Y (.d,.bl<|b.any λc=>isOne c a):=rfl
theorem I0 (c:O)(fs:U Str)(a:U T):T.isG (.ins c fs a)=false:=rfl
theorem Hk (c:O)(fs:U Str)(a:U T):T.isN (.ins c fs a)=false:=rfl
theorem F8:T.isH .non=false:=rfl
theorem JV (b:Rl):T.isH (.bl b)=false:=rfl
theorem Hy (i:I):T.isH (.int i)=false:=rfl
theorem ID (x:Str):T.isH (.str x)=false:=rfl
theorem IQ (a:U T):T.isH (.tup a)=false:=rfl
theorem Ii (a:U T):T.isH (.lst a)=false:=rfl
theorem HI (a:U I):T.isH (.scr a)=false:=rfl
theorem H9:T.isG .non=false:=rfl
theorem JW (b:Rl):T.isG (.bl b)=false:=rfl
theorem Gr (i:I):T.isG (.int i)=false:=rfl
theorem GJ (x:Str):T.isG (.str x)=false:=rfl
theorem F9 (a:U T):T.isG (.tup a)=false:=rfl
theorem Hj (a:U T):T.isG (.lst a)=false:=rfl
theorem Jd (a:U<|I ⊕ Str)(b:U T):T.isG (.dct a b)=false:=rfl
theorem FV (a:U<|I ⊕ Str)(b:U T):T.isN (.dct a b)=false:=rfl
theorem Jl (a:U I):T.isG (.scr a)=false:=rfl
theorem GP:T.isN .non=true:=rfl
theorem JZ (b:Rl):T.isN (.bl b)=false:=rfl
theorem IB (i:I):T.isN (.int i)=false:=rfl
theorem Gi (x:Str):T.isN (.str x)=false:=rfl
theorem IF (a:U T):T.isN (.tup a)=false:=rfl
theorem GU (a:U T):T.isN (.lst a)=false:=rfl
theorem Bm (h:Rl)(m:Md)(a:U T):oSem .list h [(m,.lst a)]=newL h m.kid a:=rfl
theorem Aq (h:Rl)(m:Md)(a:U T):oSem .list h [(m,.tup a)]=newL h m.kid a:=rfl
theorem DC (h:Rl)(m n:Md)(a:T)(b:U T):oSem .isin h [(m,a),(n,.tup b)]=if flatT a&&b.all flatT then Y (.d,.bl<|b.any λt=>eqT t a) else none:=rfl
theorem yp (h:Rl)(m n:Md)(a:T)(b:U T):oSem .isin h [(m,a),(n,.lst b)]=if flatT a&&b.all flatT then Y (.d,.bl<|b.any λt=>eqT t a) else none:=rfl
theorem zj (h:Rl)(m:Md)(x:Str):oSem .lower h [(m,.str x)]=if x.cps.toList.all (λc=>decide (c<128)) then Y (.d,.str ⟨x.cps.map HJ⟩) else none:=rfl
theorem Gz (h:Rl)(m n:Md)(x y:Str):oSem .leS h [(m,.str x),(n,.str y)]=Y (.d,.bl<|!decide (y.cps.toList<x.cps.toList)):=rfl
theorem E2 (h:Rl)(m n:Md)(a b:U T):oSem .catT h [(m,.tup a),(n,.tup b)]=if fits (a.length+b.length) then Y (.s,.tup<|a++b) else none:=rfl
theorem xb (h:Rl)(m:Md)(b:U T):oSem .lenSet h [(m,.tup b)]=(strsOf b).bind λa=>if decide (a.length<1000) then Y (.d,.int (distS a).length) else none:=rfl
theorem nR (C:Call)(i:O)(fld:Str)(a:Env):evE C (.attV i fld) a=ret a (attVT fld<|rd a i):=rfl
theorem oo (C:Call)(i:O)(fld:Str)(a:U E)(b:Env):evA C (.attV i fld::a) b=(evE C (.attV i fld) b).bind (aW<|evA C a):=rfl
theorem mS (C:Call)(c f i:O)(a:Env):evE C (.meth c f i) a=(ofO<|methT c<|rd a i).bind (kMeth C f i a):=rfl
theorem nJ (C:Call)(c f i:O)(a:U E)(b:Env):evA C (.meth c f i::a) b=(evE C (.meth c f i) b).bind (aW<|evA C a):=rfl
theorem Av (f:Str)(m:Md)(c:O)(fs:U Str)(a:U T):attVT f (Y (m,.obj c fs a))=(lookF f fs a).map λt=>(lfM t,t):=rfl
theorem y8 (c:O)(m:Md)(fs:U Str)(a:U T):methT c (Y (m,.obj c fs a))=Y (m,.obj c fs a):=Rk rfl
theorem FL (m:Md)(a:U T):bO .enmT [(m,.tup a)]=Y (eL .s 0 a):=rfl
theorem HE (m:Md)(x:Str):bO .chr [(m,.str x)]=Y (x.cps.toList.map λc=>[(.d,.str ⟨#[c]⟩)]):=rfl
theorem DZ (h:Rl)(m:Md)(b:Rl):oSem .int h [(m,.bl b)]=Y (.d,.int<|b2i b):=rfl
theorem Dd (h:Rl)(m:Md)(i:I):oSem .int h [(m,.int i)]=Y (.d,.int i):=rfl
theorem CI (h:Rl)(m:Md)(b:U T):oSem .max1 h [(m,.lst b)]=(intsOf b).bind λa=>if a.isEmpty then J else Y (.d,.int<|maxI a):=rfl
theorem A6 (h:Rl)(m:Md)(i:I):oSem .strX h [(m,.int i)]=if decide (i.natAbs<10000000000000000000) then Y (.d,.str<|strI i) else none:=rfl
theorem zl (h:Rl)(m:Md)(x:Str):oSem .strX h [(m,.str x)]=Y (.d,.str x):=rfl
theorem EM (h:Rl)(m:Md)(i:I):oSem .str h [(m,.int i)]=if decide (i.natAbs<10000000000000000000) then Y (.d,.str<|strI i) else none:=rfl
theorem Ee (h:Rl)(m:Md)(x:Str):oSem .intS h [(m,.str x)]=if decide ((decI x).natAbs<10000000000000000000)&&(strI (decI x)==x) then Y (.d,.int<|decI x) else none:=rfl
theorem CC (h:Rl)(m n:Md)(z:Str)(b:U T):oSem .join h [(m,.str z),(n,.lst b)]=(strsOf b).bind λa=>if sOk (Str.join z a)&&decide ((a.map λs=>s.cps.size+z.cps.size).sum<=LIM) then Y (.d,.str<|Str.join z a) else none:=rfl
theorem Am (h:Rl)(m n:Md)(z y:Str):oSem .split h [(m,.str z),(n,.str y)]=if(y==Str.ofString " ")&&decide (z.cps.size+2<=LIM)&&(splS z).all sOk then Y (.d,.lst<|(splS z).map T.str) else none:=rfl
theorem lz (C:Call)(c:O)(fld:Str)(b:O)(x:X)(e:E)(a:Env):evS C (.raise c fld b x e) a=Fl.of a (evX C x e a) (mQ c fld b):=rfl
theorem Jy (C:Call)(f:O)(k:W->Env->Fl)(a:U W)(b:Env):kC C f k (a,b)=zd k b (C f a):=rfl
theorem EY (k:W->Env->Fl)(a:Env)(w:W):zd k a (.ok (w,[]))=k w a:=rfl
theorem CG (k:W->Env->Fl)(a:Env)(t:T):zd k a (.ex t)=.ex t a:=rfl
theorem yW (i:O)(w:W)(a:Env):HG i w a=.nx (put a i w):=rfl
theorem yU (w:W)(a:Env):Gx w a=.nx a:=rfl
theorem vQ (c:O)(fld:Str)(m:Md)(n:I)(a:Env):mQ c fld 0 ((m,.int n),a)=if decide (n.natAbs.log2<1920)=Lw then .ex (.ins c [fld] [.int n]) a else .no:=rfl
theorem tR (a:U O)(i:O)(h:Env->Fl)(c:O)(fs:U Str)(b:U T)(d:Env):Fl.caught a i h (.ex (.ins c fs b) d)=if a.contains c=Lw then Fl.drop i (h<|put d i (.s,.ins c fs b)) else .no:=rfl
theorem rg (b:U O)(i:O)(h:Env->Fl)(a:Env):Fl.caught b i h (.nx a)=.nx a:=rfl
theorem qH (b:U O)(i:O)(h:Env->Fl)(w:W)(a:Env):Fl.caught b i h (.rt w a)=.rt w a:=rfl
theorem E5 (i:O)(a:Env):Fl.drop i (.nx a)=.nx (del a i):=rfl
theorem Bg (i:O)(w:W)(a:Env):Fl.drop i (.rt w a)=.rt w (del a i):=rfl
theorem mY (C:Call)(x:X)(i:O)(fld:Str)(e:E)(a:Env):evS C (.setP x i fld e) a=Fl.of a (evX C x e a) (oz i fld):=rfl
theorem IK (c:O)(fs:U Str)(a:U I)(h:Rl)(b:U W):oSem (.mkP c fs a) h b=if decide (fs.length=b.length+a.length)=Lw then Y (.o .s,.obj c fs<|(b.map λw=>w.2)++a.map T.int) else none:=by rfl
theorem AK (f:Str)(m n:Md)(c:O)(fs:U Str)(a:U T)(t:T):fH f (.o m,.obj c fs a) (n,t)=(if(t.leaf&&decide (fs.length<1000))=Lw then(d7 f t fs a).map λb=>(.o .s,.obj c fs b) else J):=rfl
theorem pY (C:Call)(a:U S)(b:Env):evS C (.tri a) b=evSs C a b:=rfl
theorem CQ (h:Rl)(m n:Md)(a b:Rl):oSem .isnB h [(m,.bl a),(n,.bl b)]=Y (.d,.bl<|!(a==b)):=rfl
theorem Ek (m:Md)(a:U T):bO .sq2T [(m,.tup a)]=pairsT a:=rfl
theorem Eo (h:Rl)(m:Md)(a:U T):oSem .tuple h [(m,.lst a)]=Y (m.kid.up,.tup a):=rfl
theorem GA (h:Rl)(m:Md)(a:U T):oSem .all h [(m,.lst a)]=(aY a).map λbs=>(.d,.bl<|bs.all id):=rfl
theorem Fu (m:Md)(a:U T):newL Lw m a=if leaves a then Y (.d,.lst a) else none:=rfl
theorem Fz (m:Md)(a:U T):newL Lv m a=Y (m.up,.lst a):=rfl
theorem E3 (m:Md)(a:U T):bO .seq [(m,.lst a)]=Y (a.map λt=>[(.s,t)]):=rfl
theorem E6 (m:Md)(a:U T):bO .seq [(m,.tup a)]=Y (a.map λt=>[(.s,t)]):=rfl
theorem Ff (m n o:Md)(i j c:I):bO .rng [(m,.int i),(n,.int j),(o,.int c)]=if decide (i.natAbs<4611686018427387904)&&decide (j.natAbs<4611686018427387904)&&decide (c=-1)&&fits (i-j).toNat then Y ((L4 (i-j).toNat).map λ(k:O)=>[(.d,.int<|i-k)]) else none:=rfl
theorem vU (m:Md)(n:I):bO .rng [(m,.int n)]=if decide (n.natAbs<4611686018427387904)&&fits n.toNat then Y ((L4 n.toNat).map λ(k:O)=>[(.d,.int k)]) else none:=rfl
theorem xn (a:Env):bC [] [] a=Y a:=rfl
theorem rV (i:O)(a:U O)(w:W)(b:U W)(c:Env):bC (i::a) (w::b) c=bC a b (put c i w):=rfl
theorem G8 {b c:Type}(f:b->c)(a:b):(Y a).map f=Y (f a):=rfl
theorem tJ (b:Rl):truth (.bl b)=Y b:=rfl
theorem s8 (i:I):truth (.int i)=Y (i != 0):=rfl
theorem As {b c:Type}(a:b)(f:b->L c):(Y a).bind f=f a:=rfl
theorem yR:Md.s.kid=.s:=rfl
theorem zL:Md.d.kid=.d:=rfl
theorem yX (m:Md):(Md.o m).kid=m:=rfl
theorem Fb:Md.s.up=.o .s:=rfl
theorem DX:Md.d.up=.d:=rfl
theorem Cq (m:Md):(Md.o m).up=.o (.o m):=rfl
theorem wu (m:Md):Md.s.meet m=.s:=by cases m<;>rfl
theorem fD (m:Md):Md.d.meet m=m:=by cases m<;>rfl
theorem qU (m:Md):(Md.o m).meet .s=.s:=rfl
theorem qP (m:Md):(Md.o m).meet .d=.o m:=rfl
theorem qg (m n:Md):(Md.o m).meet (.o n)=.o (m.meet n):=rfl
theorem ED (n:Md)(a:U T)(t:T):iM (.d,.lst a) (n,t)=if a.length<LIM then Y ((lf n t).up,.lst<|a++[t]) else none:=by show(if _ then Y ((Md.d.meet _).up,_) else J)=_;rw[fD]
theorem Fh (m n:Md)(a:U T)(t:T):iM (.o m,.lst a) (n,t)=if a.length<LIM then Y ((m.meet<|lf n t).up,.lst<|a++[t]) else none:=rfl
theorem EF (n:Md)(a b:U T):iL (.d,.lst a) (n,.lst b)=if a.length+b.length<=LIM then Y (n.kid.up,.lst<|a++b) else none:=by show(if _ then Y ((Md.d.meet _).up,_) else J)=_;rw[fD]
theorem Dq (m n:Md)(a b:U T):iL (.o m,.lst a) (n,.lst b)=if a.length+b.length<=LIM then Y ((m.meet n.kid).up,.lst<|a++b) else none:=rfl
theorem EX (l n:Md)(a:U T)(t:T)(j:I):mj (.d,.lst a) (l,.int j) (n,t)=(ixN a.length j).map λk=>((lf n t).up,.lst<|a.set k t):=by show((ixN a.length j).map λk=>((Md.d.meet _).up,_))=_;rw[fD]
theorem Ey (m l n:Md)(a:U T)(t:T)(j:I):mj (.o m,.lst a) (l,.int j) (n,t)=(ixN a.length j).map λk=>((m.meet<|lf n t).up,.lst<|a.set k t):=rfl
theorem Fx (m:Md)(a:U T):fT (Y (m,.lst a))=.ok ():=rfl
theorem Fe (m:Md)(a:U T):JP (m,.tup a)=Y (a.map λt=>(m.kid,t)):=rfl
theorem GW (b a:Env):nxO b (Y a)=.nx a:=rfl
theorem xU (a:Env):backs [] a=Y []:=rfl
theorem sA (i:O)(b:U O)(a:Env):backs (i::b) a=(rd a i).bind λw=>(backs b a).bind λc=>Y (w::c):=rfl
theorem DU (a:U O)(b:Env):Fl.out a (.nx b)=(ofO<|backs a b).bind (tw (.d,.non)):=rfl
theorem Cg (a:U O)(w:W)(b:Env):Fl.out a (.rt w b)=(ofO<|backs a b).bind (tw w):=rfl
theorem x_run (C:Call)(f:Fn)(a:U W)(h:a.length=f.ps):runF C f a=Fl.out f.io (evSs C f.body<|a.map Y++LU f.ns J):=Rk h
theorem at0 {b:Type}(a:b)(l:U b):atI (a::l) 0=Y a:=by simp[atI,ixN]
theorem atN {c:Type}{b:U c}{i:I}{n:O}{a:c}(d:i=n)(h:b[n]?=Y a):atI b i=Y a:=by subst d;have:=(Mo.mp h).1;rw[atI,ixN,Rk<|by lia,Rk<|by lia];exact h
theorem at1 {c:Type}(a b:c)(l:U c):atI (a::b::l) 1=Y b:=atN (n:=1) rfl rfl
theorem at2 {d:Type}(a b c:d)(l:U d):atI (a::b::c::l) 2=Y c:=atN (n:=2) rfl rfl
theorem at3 {e:Type}(a b c d:e)(l:U e):atI (a::b::c::d::l) 3=Y d:=atN (n:=3) rfl rfl
theorem at4 {f:Type}(a b c d e:f)(l:U f):atI (a::b::c::d::e::l) 4=Y e:=atN (n:=4) rfl rfl
theorem bh {j:Type}{d:U O}{f:Env->Res (L W×Env)}{i:Env}{g:j->U W}(w:j->W):∀(e:U j) (a:U W),(∀x∈e,∃b c,bC d (g x) i=Y b/\f b=.ok (Y<|w x,c)/\aw d c=i) ->
 aH d f (e.map g) i a=.ok (a++e.map w,i)
|[],a,_=>by rw[Mi,Mi,LW];rfl
|x::e,a,h=>by obtain⟨b,c,k,l,m⟩:=h x LI;rw[LJ,LJ];show(ofO<|bC d (g x) i).bind _=_;rw[k];show(f b).bind _=_;rw[l];show aH d f (e.map g) (aw d c) (a++[w x])=_;rw[m,bh w e _ λy n=>h y<|LO _ n,L6];rfl
end M

namespace MR
open L2 L3 M
open PySem (Addr Str sizeLine)
abbrev Fp:=Rj->Prop
def ScrR (K:Ly)(H:Hp)(a:Rj)(b:U I):Prop:=(∃o,H a=Y (.frz o<|.lst<|b.map V.int))\/SqL K (λ_=>J) a (b.map V.int)
theorem ScrR.sq {K:Ly}{H:Hp}{a:Rj}{b:U I}(h:ScrR K H a b):SqL K H a (b.map V.int):=by
 rcases h with⟨o,h⟩|((h|⟨o,h⟩)|h)
 .exact .inl (.inr ⟨o,h⟩)
 .cases h
 .cases h
 .exact .inr h
theorem ScrR.keep {K:Ly}{H b:Hp}{a:Rj}{c:U I}(s:∀a o u,H a=Y (.frz o u)->b a=Y (.frz o u))(h:ScrR K H a c):ScrR K b a c:=h.imp (λ⟨o,e⟩=>⟨o,s a o _ e⟩) id
def LstR (K:Ly)(Z:Fp)(H:Hp)(G:Fp)(a:Rj)(b:U V):Md->Prop
|.s=>Z a/\H a=Y (.lst b)
|_=>G a/\H a=Y (.lst b)
def mkD (a:U<|I ⊕ Str)(b:U V):U (Key×V):=a.zip b
def DctR (Z:Fp)(H:Hp)(G:Fp)(a:Rj)(o:HO):Md->Prop
|.s=>Z a/\H a=Y o
|_=>G a/\H a=Y o
def InsR (Z:Fp)(H:Hp)(G:Fp)(a b:Rj)(o:HO):Md->Prop
|.s=>Z a/\Z b/\H a=Y o/\H b=Y (.own a)
|_=>G a/\G b/\H a=Y o/\H b=Y (.own a)
def qp (K:Ly)(c:O)(fs:U Str):Prop:=Cls K c/\∀f∈fs,NoAttr K c f
def dmd:Md->Md
|.d=>.d
|_=>.s
mutual
def Rep (K:Ly)(Z:Fp)(H:Hp):Md->T->V->Fp->Prop
|_,.non,v,_=>v=.non
|_,.bl b,v,_=>v=.bl b
|_,.int i,v,_=>v=.int i
|_,.str x,v,_=>v=.str x/\sOk x=Lw
|m,.tup ts,v,G=>∃a xs,v=.ref a/\SqT K H a xs/\xs.length<=LIM/\RepL K Z H m.kid ts xs G
|m,.lst ts,v,G=>∃a xs,v=.ref a/\xs.length<=LIM/\LstR K Z H G a xs m/\RepL K Z H m.kid ts xs (λb=>G b/\b≠a)
|m,.dct ks vs,v,G=>∃a xs,v=.ref a/\ks.length<=LIM/\DctR Z H G a (.dK<|mkD ks xs) m/\(ks.Nodup/\∀k∈ks,kOk k=Lw)/\vs.length=ks.length/\RepL K Z H (dmd m) vs xs (λ_=>RB)
|m,.dtt ks vs,v,_=>m≠.d/\∃a ys xs,v=.ref a/\Z a/\H a=Y (DTO a ks ys xs)/\ks.Nodup/\ks.length<=LIM/\vs.length=ks.length/\KeyR K H ks ys/\RepL K Z H .s vs xs (λ_=>RB)
|m,.ins c fs vs,v,_=>m≠.d/\∃a dx C xs,v=.ref a/\Z a/\Z dx/\H a=Y (XO a C (Y dx) Lv)/\H dx=Y (.xd<|fs.zip xs)/\fs.length=vs.length/\XNm K c C/\RepL K Z H .s vs xs (λ_=>RB)
|m,.obj c fs vs,v,G=>m≠.d/\∃a dx xs,v=.ref a/\InsR Z H G a dx (.ins c dx<|fs.zip xs) m/\qp K c fs/\fs.length=vs.length/\RepL K Z H .s vs xs (λ_=>RB)
|_,.gone,_,_=>R4
|_,.scr ns,v,_=>∃a,v=.ref a/\ns.length<=LIM/\ScrR K H a ns
def RepL (K:Ly)(Z:Fp)(H:Hp):Md->U T->U V->Fp->Prop
|_,[],xs,_=>xs=[]
|m,t::ts,xs,G=>∃x r G1 G2,xs=x::r/\(∀a,G1 a->G a)/\(∀a,G2 a->G a)/\(∀a,G1 a->¬G2 a)/\Rep K Z H m t x G1/\RepL K Z H m ts r G2
end
section
variable {K:Ly}{Z Z':Fp}{H H':Hp}{m:Md}{t:T}{ts:U T}{v:V}{xs:U V}{G G':Fp}
theorem LstR.mono {a:Rj}(w:∀a,G a->G' a)(h:LstR K Z H G a xs m):LstR K Z H G' a xs m:=by
 cases m with
 |s=>exact h
 |d=>exact⟨w _ h.1,h.2⟩
 |o m=>exact⟨w _ h.1,h.2⟩
theorem InsR.mono {a b:Rj}{o:HO}(w:∀a,G a->G' a)(h:InsR Z H G a b o m):InsR Z H G' a b o m:=by
 cases m with
 |s=>exact h
 |d=>exact⟨w _ h.1,w _ h.2.1,h.2.2⟩
 |o m=>exact⟨w _ h.1,w _ h.2.1,h.2.2⟩
theorem DctR.mono {a:Rj}{o:HO}(w:∀a,G a->G' a)(h:DctR Z H G a o m):DctR Z H G' a o m:=by
 cases m with
 |s=>exact h
 |d=>exact⟨w _ h.1,h.2⟩
 |o m=>exact⟨w _ h.1,h.2⟩
mutual
theorem Rep.mono:∀{m:Md} {t:T} {v:V} {G G':Fp},(∀a,G a->G' a)->Rep K Z H m t v G->Rep K Z H m t v G'
|_,.non,_,_,_,_,h=>h
|_,.bl _,_,_,_,_,h=>h
|_,.int _,_,_,_,_,h=>h
|_,.str _,_,_,_,_,h=>h
|m,.tup ts,v,G,G',w,⟨a,xs,e,q,l,r⟩=>⟨a,xs,e,q,l,RepL.mono w r⟩
|m,.lst ts,v,G,G',w,⟨a,xs,e,l,q,r⟩=>⟨a,xs,e,l,q.mono w,RepL.mono (λb hb=>⟨w b hb.1,hb.2⟩) r⟩
|m,.dct ks vs,v,G,G',w,⟨a,xs,e,l,q,n,hl,r⟩=>⟨a,xs,e,l,q.mono w,n,hl,r⟩
|_,.ins _ _ _,_,_,_,_,h=>h
|_,.dtt _ _,_,_,_,_,h=>h
|m,.obj c fs vs,v,G,G',w,⟨ne,a,dx,xs,e,q,r⟩=>⟨ne,a,dx,xs,e,q.mono w,r⟩
|_,.gone,_,_,_,_,h=>h
|_,.scr _,_,_,_,_,h=>h
theorem RepL.mono:∀{m:Md} {ts:U T} {xs:U V} {G G':Fp},(∀a,G a->G' a)->RepL K Z H m ts xs G->RepL K Z H m ts xs G'
|_,[],_,_,_,_,h=>h
|m,t::ts,xs,G,G',w,⟨x,r,G1,G2,e,h1,h2,hd,p,q⟩=>⟨x,r,G1,G2,e,λa ha=>w a<|h1 a ha,λa ha=>w a<|h2 a ha,hd,p,q⟩
end
def Stay (Z:Fp)(H H':Hp):Prop:=(∀a o,Z a->H a=Y o->H' a=Y o)/\(∀a xs,Rd H a (.tup xs)->Rd H' a (.tup xs))/\∀a o u,H a=Y (.frz o u)->H' a=Y (.frz o u)
theorem Stay.sqt (s:Stay Z H H'){a:Rj}(h:SqT K H a xs):SqT K H' a xs:=by
 rcases h with h|h
 .exact .inl (s.2.1 a xs h)
 .exact .inr h
theorem LstR.keep {a:Rj}(s:Stay Z H H')(z:∀a,Z a->Z' a)(g:∀a o,G a->H a=Y o->H' a=Y o)(h:LstR K Z H G a xs m):LstR K Z' H' G a xs m:=by
 cases m with
 |s=>exact⟨z _ h.1,s.1 _ _ h.1 h.2⟩
 |d=>exact⟨h.1,g _ _ h.1 h.2⟩
 |o m=>exact⟨h.1,g _ _ h.1 h.2⟩
theorem InsR.keep {a b:Rj}{o:HO}(s:Stay Z H H')(z:∀a,Z a->Z' a)(g:∀a o,G a->H a=Y o->H' a=Y o)(h:InsR Z H G a b o m):InsR Z' H' G a b o m:=by
 cases m with
 |s=>exact⟨z _ h.1,z _ h.2.1,s.1 _ _ h.1 h.2.2.1,s.1 _ _ h.2.1 h.2.2.2⟩
 |d=>exact⟨h.1,h.2.1,g _ _ h.1 h.2.2.1,g _ _ h.2.1 h.2.2.2⟩
 |o m=>exact⟨h.1,h.2.1,g _ _ h.1 h.2.2.1,g _ _ h.2.1 h.2.2.2⟩
theorem InsR.sh {a b:Rj}{o:HO}(h:InsR Z H G a b o m):InsR (λa=>Z a\/G a) H (λ_=>RB) a b o .s:=by
 cases m with
 |s=>exact⟨.inl h.1,.inl h.2.1,h.2.2⟩
 |d=>exact⟨.inr h.1,.inr h.2.1,h.2.2⟩
 |o m=>exact⟨.inr h.1,.inr h.2.1,h.2.2⟩
theorem DctR.keep {a:Rj}{o:HO}(s:Stay Z H H')(z:∀a,Z a->Z' a)(g:∀a o,G a->H a=Y o->H' a=Y o)(h:DctR Z H G a o m):DctR Z' H' G a o m:=by
 cases m with
 |s=>exact⟨z _ h.1,s.1 _ _ h.1 h.2⟩
 |d=>exact⟨h.1,g _ _ h.1 h.2⟩
 |o m=>exact⟨h.1,g _ _ h.1 h.2⟩
mutual
theorem Rep.keep (s:Stay Z H H')(z:∀a,Z a->Z' a):∀{m:Md} {t:T} {v:V} {G:Fp},(∀a o,G a->H a=Y o->H' a=Y o)->Rep K Z H m t v G->Rep K Z' H' m t v G
|_,.non,_,_,_,h=>h
|_,.bl _,_,_,_,h=>h
|_,.int _,_,_,_,h=>h
|_,.str _,_,_,_,h=>h
|m,.tup ts,v,G,g,⟨a,xs,e,q,l,r⟩=>⟨a,xs,e,s.sqt q,l,RepL.keep s z g r⟩
|m,.lst ts,v,G,g,⟨a,xs,e,l,q,r⟩=>⟨a,xs,e,l,q.keep s z g,RepL.keep s z (λb o hb=>g b o hb.1) r⟩
|m,.dct ks vs,v,G,g,⟨a,xs,e,l,q,n,hl,r⟩=>⟨a,xs,e,l,q.keep s z g,n,hl,RepL.keep s z (λ_ _ hb=>hb.elim) r⟩
|_,.dtt _ _,_,_,_,⟨ne,a,ys,xs,e,z1,h1,n,l,hl,kr,r⟩=>⟨ne,a,ys,xs,e,z _ z1,s.1 _ _ z1 h1,n,l,hl,kr.keep λb xs q=>s.sqt q,RepL.keep s z (λ_ _ hb=>hb.elim) r⟩
|_,.ins _ _ _,_,_,_,⟨ne,a,dx,C,xs,e,z1,z2,h1,h2,l,n,r⟩=>⟨ne,a,dx,C,xs,e,z _ z1,z _ z2,s.1 _ _ z1 h1,s.1 _ _ z2 h2,l,n,RepL.keep s z (λ_ _ hb=>hb.elim) r⟩
|_,.obj _ _ _,_,_,g,⟨ne,a,dx,xs,e,q,n,l,r⟩=>⟨ne,a,dx,xs,e,q.keep s z g,n,l,RepL.keep s z (λ_ _ hb=>hb.elim) r⟩
|_,.gone,_,_,_,h=>h
|_,.scr _,_,_,_,⟨a,e,l,q⟩=>⟨a,e,l,q.keep s.2.2⟩
theorem RepL.keep (s:Stay Z H H')(z:∀a,Z a->Z' a):∀{m:Md} {ts:U T} {xs:U V} {G:Fp},(∀a o,G a->H a=Y o->H' a=Y o)->RepL K Z H m ts xs G->RepL K Z' H' m ts xs G
|_,[],_,_,_,h=>h
|m,t::ts,xs,G,g,⟨x,r,G1,G2,e,h1,h2,hd,p,q⟩=>⟨x,r,G1,G2,e,h1,h2,hd,Rep.keep s z (λa o ha=>g a o<|h1 a ha) p,RepL.keep s z (λa o ha=>g a o<|h2 a ha) q⟩
end
theorem jo (Z:Fp)(H:Hp):Stay Z H H:=⟨λ_ _ _ h=>h,λ_ _ h=>h,λ_ _ _ h=>h⟩
theorem Rep.zmono (z:∀a,Z a->Z' a)(h:Rep K Z H m t v G):Rep K Z' H m t v G:=h.keep (jo Z H) z λ_ _ _ q=>q
theorem RepL.zmono (z:∀a,Z a->Z' a)(h:RepL K Z H m ts xs G):RepL K Z' H m ts xs G:=h.keep (jo Z H) z λ_ _ _ q=>q
theorem RepL.length:∀{ts:U T} {xs:U V} {G:Fp},RepL K Z H m ts xs G->xs.length=ts.length
|[],_,_,h=>by rw[show _=[] from h];rfl
|_::_,_,_,⟨x,r,a,b,e,_,_,_,_,q⟩=>by rw[e,LG,LG,RepL.length q]
theorem RepL.get:∀{ts:U T} {xs:U V} {G:Fp} {i:O} {t:T},RepL K Z H m ts xs G->ts[i]?=Y t->∃x,xs[i]?=Y x/\Rep K Z H m t x G
|[],_,_,_,_,_,e=>by simp at e
|_::_,_,_,0,_,⟨x,r,a,b,e,c,_,_,p,_⟩,e2=>by rw[Ny] at e2;cases e2;exact⟨x,by rw[e];rfl,p.mono c⟩
|_::_,_,_,i+1,_,⟨x,r,a,b,e,_,d,_,_,q⟩,e2=>by rw[MH] at e2;obtain⟨y,f,p⟩:=RepL.get q e2;exact⟨y,by rw[e,MH];exact f,p.mono d⟩
theorem RepL.append:∀{ts g:U T} {xs f:U V} {G1 G2 G:Fp},(∀a,G1 a->G a)->(∀a,G2 a->G a)->(∀a,G1 a->¬G2 a)->RepL K Z H m ts xs G1->RepL K Z H m g f G2->RepL K Z H m (ts++g) (xs++f) G
|[],g,xs,f,G1,G2,G,i,j,d,h,k=>by rw[show xs=[] from h];exact k.mono j
|t::ts,g,xs,f,G1,G2,G,i,j,d,⟨x,r,A,b,e,l,n,hd,p,q⟩,k=>by rw[e];refine⟨x,r++f,A,λa=>b a\/G2 a,rfl,λa c=>i a<|l a c,λa c=>c.elim (λz=>i a<|n a z)<|j a,λa c o=>o.elim (hd a c)<|d a<|l a c,p,?_⟩;exact RepL.append (λa z=>.inl z) (λa z=>.inr z) (λa c=>d a<|n a c) q k
theorem RepL.one {x:V}(p:Rep K Z H m t x G):RepL K Z H m [t] [x] G:=⟨x,[],G,λ_=>RB,rfl,λ_ h=>h,λ_ h=>h.elim,λ_ _ h=>h,p,rfl⟩
theorem RepL.take:∀{ts:U T} {xs:U V} {G:Fp} (n:O),RepL K Z H m ts xs G->RepL K Z H m (ts.take n) (xs.take n) G
|[],_,_,n,h=>by rw[show _=[] from h,Qo,Qo];rfl
|_::_,_,_,0,h=>rfl
|_::_,_,_,n+1,⟨x,r,A,a,e,b,c,hd,p,q⟩=>by rw[e];exact⟨x,r.take n,A,a,rfl,b,c,hd,p,RepL.take n q⟩
theorem RepL.drop:∀{ts:U T} {xs:U V} {G:Fp} (n:O),RepL K Z H m ts xs G->RepL K Z H m (ts.drop n) (xs.drop n) G
|[],_,_,n,h=>by rw[show _=[] from h,Qn,Qn];rfl
|_::_,_,_,0,h=>h
|_::_,_,_,n+1,⟨x,r,A,a,e,c,b,hd,p,q⟩=>by rw[e];exact(RepL.drop n q).mono b
theorem Rep.leaf {m':Md}(c:∀a o u,H a=Y (.frz o u)->H' a=Y (.frz o u))(b:t.leaf=Lw)(h:Rep K Z H m t v G):Rep K Z' H' m' t v G':=by
 cases t with
 |non=>exact h
 |bl _=>exact h
 |int _=>exact h
 |str _=>exact h
 |scr _=>obtain⟨a,e,l,q⟩:=h;exact⟨a,e,l,q.keep c⟩
 |_=>cases b
theorem RepL.leaves {m':Md}(d:∀a o u,H a=Y (.frz o u)->H' a=Y (.frz o u)):∀{ts:U T} {xs:U V} {G G':Fp},leaves ts=Lw->RepL K Z H m ts xs G->RepL K Z' H' m' ts xs G'
|[],_,_,_,_,h=>h
|t::ts,_,_,G',f,⟨x,r,A,b,e,g,i,hd,p,q⟩=>by have c:(t.leaf&&ts.all T.leaf)=true:=f;rw[LQ] at c;exact⟨x,r,λ_=>RB,λ_=>RB,e,λ_ z=>z.elim,λ_ z=>z.elim,λ_ z=>z.elim,p.leaf d c.1,RepL.leaves d c.2 q⟩
noncomputable def no:Fp:=λ_=>RB
mutual
theorem Rep.sh:∀{m:Md} {t:T} {v:V} {G:Fp},Rep K Z H m t v G->Rep K (λa=>Z a\/G a) H .s t v no
|_,.non,_,_,h=>h
|_,.bl _,_,_,h=>h
|_,.int _,_,_,h=>h
|_,.str _,_,_,h=>h
|m,.tup ts,v,G,⟨a,xs,e,q,l,r⟩=>⟨a,xs,e,q,l,RepL.sh r⟩
| m,.lst ts,v,G,⟨a,xs,e,l,q,r⟩=>⟨a,xs,e,l,by
  cases m with
  |s=>exact⟨.inl q.1,q.2⟩
  |d=>exact⟨.inr q.1,q.2⟩
  |o m=>exact⟨.inr q.1,q.2⟩,(RepL.zmono (λb hb=>hb.elim .inl λz=>.inr z.1)<|RepL.sh r).mono λ_ z=>z.elim⟩
| m,.dct ks vs,v,G,⟨a,xs,e,l,q,n,hl,r⟩=>⟨a,xs,e,l,by
  cases m with
  |s=>exact⟨.inl q.1,q.2⟩
  |d=>exact⟨.inr q.1,q.2⟩
  |o m=>exact⟨.inr q.1,q.2⟩,n,hl,RepL.zmono (λb hb=>hb.elim .inl λz=>z.elim)<|RepL.sh r⟩
|_,.dtt _ _,_,_,⟨ne,a,ys,xs,e,z1,h1,n,l,hl,kr,r⟩=>⟨(λz=>by cases z),a,ys,xs,e,.inl z1,h1,n,l,hl,kr,RepL.zmono (λb hb=>hb.elim .inl λz=>z.elim)<|RepL.sh r⟩
|_,.ins _ _ _,_,_,⟨ne,a,dx,C,xs,e,z1,z2,h1,h2,l,n,r⟩=>⟨(λz=>by cases z),a,dx,C,xs,e,.inl z1,.inl z2,h1,h2,l,n,RepL.zmono (λb hb=>hb.elim .inl λz=>z.elim)<|RepL.sh r⟩
|_,.obj _ _ _,_,_,⟨ne,a,dx,xs,e,q,n,l,r⟩=>⟨(λz=>by cases z),a,dx,xs,e,q.sh,n,l,RepL.zmono (λb hb=>hb.elim .inl λz=>z.elim)<|RepL.sh r⟩
|_,.gone,_,_,h=>h
|_,.scr _,_,_,h=>h
theorem RepL.sh:∀{m:Md} {ts:U T} {xs:U V} {G:Fp},RepL K Z H m ts xs G->RepL K (λa=>Z a\/G a) H .s ts xs no
|_,[],_,_,h=>h
|m,t::ts,xs,G,⟨x,r,G1,G2,e,h1,h2,hd,p,q⟩=>⟨x,r,no,no,e,λ_ z=>z,λ_ z=>z,λ_ z _=>z,Rep.zmono (λb hb=>hb.imp id (h1 b))<|Rep.sh p,RepL.zmono (λb hb=>hb.imp id (h2 b))<|RepL.sh q⟩
end
theorem Lf:∀a:Md,a.le .d=Lw
|.s=>rfl | .d=>rfl | .o _=>rfl
theorem ku:∀a:Md,a.le a=Lw
|.s=>rfl | .d=>rfl | .o a=>ku a
theorem l3:∀{a b c:Md},a.le b=Lw->b.le c=Lw->a.le c=Lw
|.s,_,.s,_,_=>rfl
|.s,_,.d,_,_=>rfl
|.s,_,.o _,_,_=>rfl
|.o a,.o b,.o c,h,k=>l3 (a:=a) (b:=b) (c:=c) h k
|.o a,.o b,.d,h,k=>rfl
|.o a,.d,.d,h,k=>rfl
|.d,.d,.d,_,_=>rfl
|.d,.s,_,h,_=>by cases h
|.d,.o _,_,h,_=>by cases h
|.o _,.s,_,h,_=>by cases h
|.o _,.o _,.s,_,k=>by cases k
|.o _,.d,.s,_,k=>by cases k
|.o _,.d,.o _,_,k=>by cases k
|.d,.d,.s,_,k=>by cases k
|.d,.d,.o _,_,k=>by cases k
theorem fj:∀a b:Md,(a.meet b).le a=Lw/\(a.meet b).le b=Lw
|.s,.s=>⟨rfl,rfl⟩
|.s,.d=>⟨rfl,rfl⟩
|.s,.o _=>⟨rfl,rfl⟩
|.d,.s=>⟨rfl,rfl⟩
|.d,.d=>⟨rfl,rfl⟩
|.d,.o b=>⟨rfl,ku b⟩
|.o _,.s=>⟨rfl,rfl⟩
|.o a,.d=>⟨ku a,rfl⟩
|.o a,.o b=>fj a b
theorem wF:∀{a b:Md},a.le b=Lw->a.kid.le b.kid=Lw
|.s,.s,_=>rfl
|.s,.d,_=>rfl
|.s,.o _,_=>by first|rfl|exact(by cases ‹Md›<;>rfl)
|.o a,.o b,h=>h
|.o a,.d,_=>Lf a
|.d,.d,_=>rfl
|.d,.s,h=>by cases h
|.d,.o _,h=>by cases h
|.o _,.s,h=>by cases h
theorem fP:∀a:Md,a.up.kid=a
|.s=>rfl | .d=>rfl | .o _=>rfl
theorem eH (a:Md):a.up≠.s:=by cases a<;>intro h<;>cases h
theorem LstR.own {a:Rj}(b:m≠.s):LstR K Z H G a xs m ↔ G a/\H a=Y (.lst xs):=by
 cases m with
 |s=>exact Rm rfl b
 |d=>exact Iff.rfl
 |o m=>exact Iff.rfl
abbrev dt (Z G G':Fp):Fp:=λa=>Z a\/(G a/\¬G' a)
mutual
theorem Rep.weak:∀{m m':Md} {t:T} {v:V} {G:Fp},m'.le m=Lw->Rep K Z H m t v G->∃G',(∀a,G' a->G a)/\Rep K (dt Z G G') H m' t v G'
|m,m',.non,_,G,_,h=>⟨G,λ_ z=>z,h⟩
|m,m',.bl _,_,G,_,h=>⟨G,λ_ z=>z,h⟩
|m,m',.int _,_,G,_,h=>⟨G,λ_ z=>z,h⟩
|m,m',.str _,_,G,_,h=>⟨G,λ_ z=>z,h⟩
|m,m',.scr _,_,G,_,h=>⟨G,λ_ z=>z,h⟩
|m,m',.tup ts,v,G,hm,⟨a,xs,e,q,l,r⟩=>by obtain⟨G',h1,h2⟩:=RepL.weak (wF hm) r;exact⟨G',h1,a,xs,e,q,l,h2⟩
| m,m',.lst ts,v,G,hm,h=>by
 cases m' with
 |s=>exact⟨no,λ_ z=>z.elim,(Rep.sh h).zmono λa ha=>ha.imp id λz=>⟨z,λq=>q⟩⟩
 |d=>
  cases m with
  |s=>cases hm
  |o _=>cases hm
  |d=>exact⟨G,λ_ z=>z,h.zmono λ_ z=>.inl z⟩
 |o k=>
  have hne:m≠.s:=by rintro rfl;cases hm
  obtain⟨a,xs,e,l,q,r⟩:=h;rw[LstR.own hne] at q;obtain⟨G',h1,h2⟩:=RepL.weak (wF hm) r;refine⟨λb=>G' b\/b=a,λb hb=>hb.elim (λz=>(h1 b z).1) λz=>z ▸ q.1,a,xs,e,l,⟨.inr rfl,q.2⟩,?_⟩;refine(h2.zmono λb hb=>?_).mono λb hb=>⟨.inl hb,(h1 b hb).2⟩;rcases hb with z|⟨⟨z1,z2⟩,z3⟩
  .exact .inl z
  .exact .inr ⟨z1,λq=>q.elim z3 z2⟩
| m,m',.dct ks vs,v,G,hm,h=>by
 cases m' with
 |s=>exact⟨no,λ_ z=>z.elim,(Rep.sh h).zmono λa ha=>ha.imp id λz=>⟨z,λq=>q⟩⟩
 |d=>
  cases m with
  |s=>cases hm
  |o _=>cases hm
  |d=>exact⟨G,λ_ z=>z,h.zmono λ_ z=>.inl z⟩
 |o k=>
  obtain⟨a,xs,e,l,q,n,hl,r⟩:=h;cases m with
  |s=>cases hm
  |d=>exact⟨G,λ_ z=>z,a,xs,e,l,q,n,hl,RepL.zmono (λb hb=>hb.elim .inl λz=>z.elim)<|RepL.sh r⟩
  |o k'=>exact⟨G,λ_ z=>z,a,xs,e,l,q,n,hl,RepL.zmono (λb hb=>.inl hb) r⟩
|m,m',.dtt _ _,v,G,hm,⟨ne,a,ys,xs,e,z1,h1,n,l,hl,kr,r⟩=>⟨G,λ_ z=>z,(λz=>ne<|by subst z;cases m<;>first|rfl|cases hm),a,ys,xs,e,.inl z1,h1,n,l,hl,kr,RepL.zmono (λb hb=>.inl hb) r⟩
|m,m',.ins _ _ _,v,G,hm,⟨ne,a,dx,C,xs,e,z1,z2,h1,h2,l,n,r⟩=>⟨G,λ_ z=>z,(λz=>ne<|by subst z;cases m<;>first|rfl|cases hm),a,dx,C,xs,e,.inl z1,.inl z2,h1,h2,l,n,RepL.zmono (λb hb=>.inl hb) r⟩
| m,m',.obj c fs vs,v,G,hm,h=>by
 cases m' with
 |s=>exact⟨no,λ_ z=>z.elim,(Rep.sh h).zmono λa ha=>ha.imp id λz=>⟨z,λq=>q⟩⟩
 |d=>
  cases m with
  |s=>cases hm
  |o _=>cases hm
  |d=>exact Rm rfl h.1
 |o k=>
  obtain⟨ne,a,dx,xs,e,q,n,l,r⟩:=h;cases m with
  |s=>cases hm
  |d=>exact Rm rfl ne
  |o k'=>exact⟨G,λ_ z=>z,(λz=>by cases z),a,dx,xs,e,q,n,l,RepL.zmono (λb hb=>.inl hb) r⟩
|m,m',.gone,_,G,_,h=>⟨G,λ_ z=>z,h⟩
theorem RepL.weak:∀{m m':Md} {ts:U T} {xs:U V} {G:Fp},m'.le m=Lw->RepL K Z H m ts xs G->∃G',(∀a,G' a->G a)/\RepL K (dt Z G G') H m' ts xs G'
|m,m',[],_,G,_,h=>⟨G,λ_ z=>z,h⟩
|m,m',t::ts,xs,G,hm,⟨x,r,G1,G2,e,h1,h2,hd,p,q⟩=>by
 obtain⟨A,a1,a2⟩:=Rep.weak hm p;obtain⟨B,b1,b2⟩:=RepL.weak hm q;refine⟨λb=>A b\/B b,λb hb=>hb.elim (λz=>h1 b<|a1 b z) λz=>h2 b<|b1 b z,x,r,A,B,e,λ_ z=>.inl z,λ_ z=>.inr z,λb za zb=>hd b (a1 b za)<|b1 b zb,?_,?_⟩
 .refine a2.zmono λb hb=>hb.imp id λz=>⟨h1 b z.1,λq=>q.elim z.2 λw=>hd b z.1<|b1 b w⟩
 .refine b2.zmono λb hb=>hb.imp id λz=>⟨h2 b z.1,λq=>q.elim (λw=>hd b (a1 b w) z.1) z.2⟩
end
def RepW (K:Ly)(Z:Fp)(H:Hp):U W->U V->Fp->Prop
|[],xs,_=>xs=[]
|w::d,xs,G=>∃x r b c,xs=x::r/\(∀a,b a->G a)/\(∀a,c a->G a)/\(∀a,b a->¬c a)/\Rep K Z H w.1 w.2 x b/\RepW K Z H d r c
theorem RepW.length:∀{a:U W} {xs:U V} {G:Fp},RepW K Z H a xs G->xs.length=a.length
|[],_,_,h=>by rw[show _=[] from h];rfl
|_::_,_,_,⟨x,r,b,c,e,_,_,_,_,q⟩=>by rw[e,LG,LG,RepW.length q]
theorem RepW.mono:∀{c:U W} {xs:U V} {G G':Fp},(∀a,G a->G' a)->RepW K Z H c xs G->RepW K Z H c xs G'
|[],_,_,_,_,h=>h
|_::_,_,_,_,w,⟨x,r,d,f,e,g,i,hd,p,q⟩=>⟨x,r,d,f,e,λa b=>w a<|g a b,λa b=>w a<|i a b,hd,p,q⟩
theorem RepW.keep (s:Stay Z H H')(z:∀a,Z a->Z' a):∀{f:U W} {xs:U V} {G:Fp},(∀a o,G a->H a=Y o->H' a=Y o)->RepW K Z H f xs G->RepW K Z' H' f xs G
|[],_,_,_,h=>h
|_::_,_,_,g,⟨x,r,i,j,e,c,d,hd,p,q⟩=>⟨x,r,i,j,e,c,d,hd,p.keep s z λa o b=>g a o<|c a b,RepW.keep s z (λa o b=>g a o<|d a b) q⟩
theorem RepW.append:∀{o g:U W} {xs f:U V} {G1 G2 G:Fp},(∀a,G1 a->G a)->(∀a,G2 a->G a)->(∀a,G1 a->¬G2 a)->RepW K Z H o xs G1->RepW K Z H g f G2->RepW K Z H (o++g) (xs++f) G
|[],g,xs,f,G1,G2,G,i,j,d,h,k=>by rw[show xs=[] from h];exact k.mono j
|t::ts,g,xs,f,G1,G2,G,i,j,d,⟨x,r,A,b,e,l,n,hd,p,q⟩,k=>by rw[e];refine⟨x,r++f,A,λa=>b a\/G2 a,rfl,λa c=>i a<|l a c,λa c=>c.elim (λz=>i a<|n a z)<|j a,λa c s=>s.elim (hd a c)<|d a<|l a c,p,?_⟩;exact RepW.append (λa z=>.inl z) (λa z=>.inr z) (λa c=>d a<|n a c) q k
theorem RepW.one {w:W}{x:V}(p:Rep K Z H w.1 w.2 x G):RepW K Z H [w] [x] G:=⟨x,[],G,no,rfl,λ_ h=>h,λ_ h=>h.elim,λ_ _ h=>h,p,rfl⟩
theorem gN:∀{a:U W} {w:W},w∈a->(g9 a).le (lf w.1 w.2)=Lw
|u::a,w,h=>by
 rcases LK.mp h with z|z
 .subst z;exact(fj _ _).1
 .exact l3 (fj _ _).2 (gN z)
theorem Rep.lf (h:Rep K Z H m t v G):Rep K Z H (M.lf m t) t v G:=by
 unfold M.lf;split
 .rename_i a;exact h.leaf (λ_ _ _ q=>q) a
 .exact h
theorem RepW.to {N:Md}:∀{f:U W} {xs:U V} {G:Fp},(∀w∈f,N.le (M.lf w.1 w.2)=Lw)->RepW K Z H f xs G->∃G',(∀a,G' a->G a)/\RepL K (dt Z G G') H N (trees f) xs G'
|[],_,G,_,h=>⟨G,λ_ z=>z,h⟩
|w::f,xs,G,l,⟨x,r,F,P,e,j,k,hd,p,q⟩=>by
 obtain⟨A,g,n⟩:=Rep.weak (l w LI) p.lf;obtain⟨c,i,o⟩:=RepW.to (λu s=>l u<|LO _ s) q;refine⟨λb=>A b\/c b,λb d=>d.elim (λz=>j b<|g b z) λz=>k b<|i b z,x,r,A,c,e,λ_ z=>.inl z,λ_ z=>.inr z,λb y D=>hd b (g b y)<|i b D,?_,?_⟩
 .refine n.zmono λb d=>d.imp id λz=>⟨j b z.1,λq=>q.elim z.2 λw=>hd b z.1<|i b w⟩
 .refine o.zmono λb d=>d.imp id λz=>⟨k b z.1,λq=>q.elim (λw=>hd b (g b w) z.1) z.2⟩
end
inductive OO where
 |inl (xs:U V)|inr (kvs:U (Key×V))|ins (C dx:Rj) (fs:U (Str×V))|own (x:Rj)
def OO.ho:OO->HO
|.inl c=>.lst c
|.inr a=>.dK a
|.ins C b fs=>.ins C b fs
|.own x=>.own x
def Own (Z:Fp)(H:Hp)(F:Fp):Prop:=∀a,F a->¬Z a/\∃b:OO,H a=Y b.ho
theorem ot {b:U V}{a:OO}(e:Y (HO.tup b)=Y a.ho):RB:=by cases a<;>cases e
theorem iK {o:PySem.Obj}{u:HO}{a:OO}(e:Y (HO.frz o u)=Y a.ho):RB:=by cases a<;>cases e
structure Step (Z:Fp)(H:Hp)(F:Fp)(Z':Fp)(H':Hp)(F':Fp):Prop where
 keep:∀a o,H a=Y o->¬F a->H' a=Y o
 zm:∀a,Z a->Z' a
 zn:∀a,Z' a->Z a\/F a\/H a=J
 fn:∀a,F' a->F a\/H a=J
 al:∀a,H a≠J->H' a≠J
 za:(∀a,Z a->H a≠J)->∀a,Z' a->H' a≠J
section
variable {K:Ly}{Z Z1 Z2 Z':Fp}{H H1 H2 H':Hp}{F F1 F2 F' R G:Fp}
theorem Step.refl (Z:Fp)(H:Hp)(F:Fp):Step Z H F Z H F:=⟨λ_ _ h _=>h,λ_ h=>h,λ_ h=>.inl h,λ_ h=>.inl h,λ_ h=>h,λz=>z⟩
theorem Step.trans (s:Step Z H F Z1 H1 F1)(t:Step Z1 H1 F1 Z2 H2 F2):Step Z H F Z2 H2 F2 where
 keep:=λa o h n=>t.keep a o (s.keep a o h n) λq=>(s.fn a q).elim n λz=>by rw[h] at z;cases z
 zm:=λa h=>t.zm a<|s.zm a h
 zn:=λa h=>by
  rcases t.zn a h with q|q|q
  .exact s.zn a q
  .exact .inr (s.fn a q)
  .exact .inr (.inr (by
    cases e:H a with
    |none=>rfl
    |some o=>exact Rm q<|s.al a<|by rw[e];simp))
 fn:=λa h=>by
  rcases t.fn a h with q|q
  .exact s.fn a q
  .exact .inr (by
    cases e:H a with
    |none=>rfl
    |some o=>exact Rm q<|s.al a<|by rw[e];simp)
 al:=λa h=>t.al a<|s.al a h
 za:=λz=>t.za<|s.za z
theorem Step.frame (R:Fp)(s:Step Z H F Z' H' F'):Step Z H (λa=>F a\/R a) Z' H' (λa=>F' a\/R a) where
 keep:=λa o h n=>s.keep a o h λq=>n<|.inl q
 zm:=s.zm
 zn:=λa h=>(s.zn a h).imp id λq=>q.imp .inl id
 fn:=λa h=>h.elim (λq=>(s.fn a q).imp .inl id) λq=>.inl<|.inr q
 al:=s.al
 za:=s.za
theorem Step.mono (s:Step Z H F Z' H' F')(b:∀a,F a->F1 a)(c:∀a,F2 a->F' a):Step Z H F1 Z' H' F2 where
 keep:=λa o h n=>s.keep a o h λq=>n<|b a q
 zm:=s.zm
 zn:=λa h=>(s.zn a h).imp id λq=>q.imp (b a) id
 fn:=λa h=>(s.fn a<|c a h).imp (b a) id
 al:=s.al
 za:=s.za
theorem Own.stay (o:Own Z H F)(s:Step Z H F Z' H' F'):Stay Z H H':=by
 refine⟨λa u c h=>s.keep a u h λq=>(o a q).1 c,λa d h=>?_,λa u v h=>s.keep a _ h λq=>?_⟩
 .rcases h with h | ⟨u,h⟩
  .refine .inl (s.keep a _ h fun q=>?_);obtain⟨_,b,e⟩:=o a q;rw[h] at e;exact ot e
  .refine .inr ⟨u,s.keep a _ h fun q=>?_⟩;obtain⟨_,b,e⟩:=o a q;rw[h] at e;exact iK e
 .obtain ⟨_,b,e⟩:=o a q;rw[h] at e;exact iK e
theorem Rep.frame {m:Md}{t:T}{v:V}(o:Own Z H F)(s:Step Z H F Z' H' F')(d:∀a,G a->¬F a)(h:Rep K Z H m t v G):Rep K Z' H' m t v G:=h.keep (o.stay s) s.zm λa u b e=>s.keep a u e<|d a b
theorem RepW.frame {b:U W}{c:U V}(o:Own Z H F)(s:Step Z H F Z' H' F')(d:∀a,G a->¬F a)(h:RepW K Z H b c G):RepW K Z' H' b c G:=h.keep (o.stay s) s.zm λa u f e=>s.keep a u e<|d a f
theorem Own.frame (o:Own Z H G)(s:Step Z H F Z' H' F')(d:∀a,G a->¬F a):Own Z' H' G/\∀a,G a->¬F' a:=by
 refine⟨λa b=>?_,λa b q=>?_⟩
 .obtain ⟨c,f,e⟩:=o a b;refine⟨λq=>?_,f,s.keep a _ e (d a b)⟩;rcases s.zn a q with z|z|z
  .exact c z
  .exact d a b z
  .rw[e] at z;cases z
 .obtain ⟨c,f,e⟩:=o a b;rcases s.fn a q with z|z
  .exact d a b z
  .rw[e] at z;cases z
end
abbrev Fps:=O->Fp
def tot (b:Fps):Fp:=λa=>∃i,b i a
structure Gd (Z:Fp)(H:Hp)(Fs:Fps):Prop where
 own:Own Z H (tot Fs)
 dis:∀i j a,Fs i a->Fs j a->i=j
 zal:∀a,Z a->H a≠J
structure Cf where
 sl:O->L O
 pv:O->L V
def Ka (K:Ly)(a:Cf)(Z:Fp)(H:Hp)(c:Env)(d:L2.St)(b:Fps):Prop:=
 ∀i m t,rd c i=Y (m,t)->∃v,Rep K Z H m t v (b i)/\(∀j,a.sl i=Y j->d[j]?=Y (Y v))/\∀u,a.pv i=Y u->v=u
structure At (K:Ly)(sl:Cf)(σ:L2.St)(Z:Fp)(H:Hp)(Fs:Fps)(η:Env)(G:Fp):Prop where
 gd:Gd Z H Fs
 env:Ka K sl Z H η σ Fs
 own:Own Z H G
 dis:∀a,G a->¬tot Fs a
 lk:∀i u j,sl.pv i=Y u->sl.sl i=Y j->σ[j]?=Y (Y u)
 ln:∀i j,sl.sl i=Y j->j < σ.length
section
variable {K:Ly}{sl:Cf}{σ:L2.St}{Z Z':Fp}{H H':Hp}{Fs Fs':Fps}{η η':Env}{G G' R:Fp}
theorem At.frame (a:At K sl σ Z H Fs η R)(b:At K sl σ Z' H' Fs' η' G)(s:Step Z H (tot Fs) Z' H' λc=>tot Fs' c\/G c):
  At K sl σ Z' H' Fs' η' (λc=>R c\/G c)/\Step Z H (λc=>tot Fs c\/R c) Z' H' (λc=>tot Fs' c\/(R c\/G c))/\∀c,R c->¬G c:=by
 have o:=a.own.frame s a.dis;refine⟨⟨b.gd,b.env,λc d=>d.elim (o.1 c)<|b.own c,λc d=>d.elim (λz q=>o.2 c z<|.inl q)<|b.dis c,b.lk,b.ln⟩,(s.frame R).mono (λ_ z=>z) λc d=>?_,λc z q=>o.2 c z<|.inr q⟩;rcases d with z|z|z
 .exact .inl (.inl z)
 .exact .inr z
 .exact .inl (.inr z)
end
section
variable {K:Ly}{sl:Cf}{sf:O->L O}{C:Call}{σ:L2.St}{Z Z' Z1:Fp}{H H' H1:Hp}{Fs Fs' Fs1:Fps}{η η' η1:Env}{G G' R F:Fp}
theorem At.mono (a:At K sl σ Z H Fs η G)(h:∀c,G' c->G c):At K sl σ Z H Fs η G':=⟨a.gd,a.env,λc b=>a.own c<|h c b,λc b=>a.dis c<|h c b,a.lk,a.ln⟩
theorem At.bare (a:At K sl σ Z H Fs η G):At K sl σ Z H Fs η no:=a.mono λ_ z=>z.elim
def wE (K:Ly)(sl:O->L O)(C:Call)(e:E):TE:=λσ H Q=>∃b Z Fs η w η',At K ⟨sl,b⟩ σ Z H Fs η no/\evE C e η=.ok (w,η') /\
 ∀v Z' H' Fs' G,At K ⟨sl,b⟩ σ Z' H' Fs' η' G->Rep K Z' H' w.1 w.2 v G->Step Z H (tot Fs) Z' H' (λa=>tot Fs' a\/G a)->Q v H'
def wL (K:Ly)(sl:O->L O)(C:Call)(e:U E):TA:=λσ H Q=>∃b Z Fs η d η',At K ⟨sl,b⟩ σ Z H Fs η no/\evL C e η=.ok (d,η') /\
 ∀c Z' H' Fs' G,At K ⟨sl,b⟩ σ Z' H' Fs' η' G->RepW K Z' H' d c G->Step Z H (tot Fs) Z' H' (λa=>tot Fs' a\/G a)->Q c H'
theorem gi {e:E}{w:W}{Q:VK}(A:At K sl σ Z H Fs η R)(ev:evE C e η=.ok (w,η'))
  (k:∀ v Z' H' Fs' G,At K sl σ Z' H' Fs' η' (fun c=>R c\/G c)->Rep K Z' H' w.1 w.2 v G->(∀ c,R c->¬ G c)->Step Z H (tot Fs) Z' H' (fun a=>tot Fs' a\/G a) ->
   Step Z H (λc=>tot Fs c\/R c) Z' H' (λc=>tot Fs' c\/(R c\/G c))->Q v H'):wE K sl.sl C e σ H Q:=
 ⟨sl.pv,Z,Fs,η,w,η',A.bare,ev,fun v Z' H' Fs' G b r s=>by
  obtain⟨d,f,g⟩:=A.frame b s;exact k v Z' H' Fs' G d r g s f⟩
theorem Hm {e:U E}{d:U W}{Q:U V->Hp->Prop}(A:At K sl σ Z H Fs η R)(ev:evL C e η=.ok (d,η'))
  (k:∀ f Z' H' Fs' G,At K sl σ Z' H' Fs' η' (fun c=>R c\/G c)->RepW K Z' H' d f G->(∀ c,R c->¬ G c)->Step Z H (tot Fs) Z' H' (fun a=>tot Fs' a\/G a) ->
   Step Z H (λc=>tot Fs c\/R c) Z' H' (λc=>tot Fs' c\/(R c\/G c))->Q f H'):wL K sl.sl C e σ H Q:=
 ⟨sl.pv,Z,Fs,η,d,η',A.bare,ev,fun v Z' H' Fs' G b r s=>by
  obtain⟨g,h,i⟩:=A.frame b s;exact k v Z' H' Fs' G g r i s h⟩
theorem ae {c d:Type}{r:Res c}{f:c->Res d}{b:d}(h:r.bind f=.ok b):∃a,r=.ok a/\f a=.ok b:=by
 cases r with
 |ok a=>exact⟨a,rfl,h⟩
 |ex t=>cases h
 |no=>cases h
theorem aq {c:Type}{η:Env}{o:L c}{b:c×Env}(h:ret η o=.ok b):∃a,o=Y a/\b=(a,η):=by
 cases o with
 |none=>cases h
 |some a=>exact⟨a,rfl,by cases h;rfl⟩
theorem cX {c:Type}{o:L c}{b:c}(h:ofO o=.ok b):o=Y b:=by
 cases o with
 |none=>cases h
 |some a=>cases h;rfl
theorem aE {e:E}{a:U E}{c:U W}(h:evL C (e::a) η=.ok (c,η')):∃w η1 b,evE C e η=.ok (w,η1)/\evL C a η1=.ok (b,η')/\c=w::b:=by obtain⟨⟨w,η1⟩,d,f⟩:=ae<|show(evE C e η).bind (aW<|evL C a)=_ from h;obtain⟨⟨b,j⟩,g,i⟩:=ae<|show(evL C a η1).bind (ox w)=_ from f;cases i;exact⟨w,η1,b,d,g,rfl⟩
theorem gV {e:E}{b:U E}{c:U W}(k:∀i,e≠.io i)(h:evA C (e::b) η=.ok (c,η')):∃w η1 a,evE C e η=.ok (w,η1)/\evA C b η1=.ok (a,η')/\c=w::a:=by rw[ER k] at h;obtain⟨⟨w,η1⟩,d,f⟩:=ae h;obtain⟨⟨a,l⟩,g,j⟩:=ae<|show(evA C b η1).bind (ox w)=_ from f;cases j;exact⟨w,η1,a,d,g,rfl⟩
theorem j8 {i:O}{b:U E}{c:U W}(h:evA C (.io i::b) η=.ok (c,η')):∃a η1 w,evA C b η=.ok (a,η1)/\rd η1 i=Y w/\c=w::a/\η'=del η1 i:=by obtain⟨⟨a,η1⟩,d,e⟩:=ae<|show(evA C b η).bind (kIo i)=_ from h;obtain⟨w,f,g⟩:=ae<|show(ofO<|rd η1 i).bind (λw=>.ok (w::a,del η1 i))=_ from e;cases g;exact⟨a,η1,w,d,cX f,rfl,rfl⟩
theorem Hd (e:E):(∃i,e=.io i)\/∀i,e≠.io i:=by
 cases e with
 |io i=>exact .inl ⟨i,rfl⟩
 |_=>exact .inr λ_ z=>by cases z
theorem Bv {e:E}{f:U E}(σ:L2.St)(H:Hp)(Q:U V->Hp->Prop)(h:wL K sf C (e::f) σ H Q):o8 (wE K sf C e) (wL K sf C f) σ H Q:=by obtain⟨t,Z,Fs,η,v,η',A,ev,k⟩:=h;obtain⟨w,η1,u,o,p,rfl⟩:=aE ev;refine gi A o λx Z1 H1 Fs1 d c r1 _ r _=>?_;have a:=c.mono (G':=d) λ_ z=>.inr z;refine Hm a p λg m l b j i r2 n s2 s=>?_;refine k (x::g) m l b _ i ⟨x,g,d,j,rfl,λ_ z=>.inl z,λ_ z=>.inr z,n,r1.frame c.gd.own s2 a.dis,r2⟩ ?_;exact r.trans s
theorem FF (σ:L2.St)(H:Hp)(Q:U V->Hp->Prop)(h:wL K sf C [] σ H Q):Bl σ H Q:=by obtain⟨c,Z,Fs,η,d,η',A,ev,k⟩:=h;cases ev;exact k [] Z H Fs no A rfl ((Step.refl _ _ _).mono (λ_ z=>z) λa b=>b.elim id λz=>z.elim)
def Out (K:Ly)(Z:Fp)(H:Hp)(G:Fp)(w:W)(Q:VK):Prop:=∀v Z' H' G',Rep K Z' H' w.1 w.2 v G'->Own Z' H' G'->Step Z H G Z' H' G'->Q v H'
theorem At.op (A:At K sl σ Z H Fs η G)(o:Own Z' H' G')(s:Step Z H G Z' H' G'):At K sl σ Z' H' Fs η G'/\Step Z H (λc=>tot Fs c\/G c) Z' H' (λc=>tot Fs c\/G' c):=by
 have d:∀a,tot Fs a->¬G a:=λa h q=>A.dis a q h;have f:=A.gd.own.frame s d;refine⟨⟨⟨f.1,A.gd.dis,s.za A.gd.zal⟩,λi m t e=>?_,o,λa b q=>f.2 a q b,A.lk,A.ln⟩,?_⟩
 .obtain ⟨v,r,g⟩:=A.env i m t e;exact⟨v,r.frame A.own s λa b=>d a ⟨i,b⟩,g⟩
 .refine(s.frame<|tot Fs).mono (λ_ z=>z.symm) λ_ z=>z.symm
theorem df {w:W}{Q:VK}(A:At K sl σ Z1 H1 Fs1 η1 G)(s:Step Z H F Z1 H1 λa=>tot Fs1 a\/G a)
  (k:∀v Z' H' Fs' G,At K sl σ Z' H' Fs' η1 G->Rep K Z' H' w.1 w.2 v G->Step Z H F Z' H' (λa=>tot Fs' a\/G a)->Q v H'):Out K Z1 H1 G w Q:=λv Z' H' G' r o t=>by
 obtain⟨b,u⟩:=A.op o t;exact k v Z' H' Fs1 G' b r<|s.trans u
def Loc (K:Ly)(n:O)(o:Op)(h:Rl)(r:U V->Hp->VK->Prop):Prop:=∀(b:U W) (w:W) (c:U V) (Z:Fp) (H:Hp) (G:Fp) (Q:VK),b.length=n->oSem o h b=Y w->RepW K Z H b c G->Own Z H G->(∀a,Z a->H a≠J)->Out K Z H G w Q->r c H Q
theorem dX {o:Op}{h:Rl}{c:U E}{w:W}(e:evE C (.op o h c) η=.ok (w,η')):∃b,evL C c η=.ok (b,η')/\oSem o h b=Y w:=by obtain⟨⟨b,η1⟩,d,f⟩:=ae<|show(evL C c η).bind (kOp o h)=_ from e;obtain⟨a,g,i⟩:=aq<|show ret η1 (oSem o h b)=_ from f;cases i;exact⟨b,d,g⟩
theorem gJ:∀{a:U E} {η η':Env} {b:U W},evL C a η=.ok (b,η')->b.length=a.length
|[],_,_,_,h=>by cases h;rfl
|e::a,_,_,_,h=>by obtain⟨w,η1,d,_,c,rfl⟩:=aE h;rw[LG,LG,gJ c]
theorem eO {n:O}{o:Op}{h:Rl}{b:U E}{r:U V->Hp->VK->Prop}(l:Loc K n o h r)(f:b.length=n)(σ:L2.St)(H:Hp)(Q:VK)(g:wE K sf C (.op o h b) σ H Q):tCB r (wL K sf C b) σ H Q:=by obtain⟨i,Z,Fs,η,w,η',A,ev,k⟩:=g;obtain⟨d,c,e⟩:=dX ev;exact⟨i,Z,Fs,η,d,η',A,c,λj Z' H' Fs' G a r s=>l d w j Z' H' G Q ((gJ c).trans f) e r a.own a.gd.zal<|df a s k⟩
theorem Eg {o:Op}{h:Rl}{a:E}{r:V->Hp->VK->Prop}(l:Loc K 1 o h λi H Q=>∀x,i=[x]->r x H Q)(σ:L2.St)(H:Hp)(Q:VK)(f:wE K sf C (.op o h [a]) σ H Q):tUn r (wE K sf C a) σ H Q:=by obtain⟨g,Z,Fs,η,w,η',A,ev,k⟩:=f;obtain⟨m,d,e⟩:=dX ev;obtain⟨c,η1,j,e1,e2,rfl⟩:=aE d;cases e2;refine⟨g,Z,Fs,η,c,η',A,e1,λx Z' H' Fs' G b r s=>l [c] w [x] Z' H' G Q rfl e (RepW.one r) b.own b.gd.zal (df b s k) x rfl⟩
theorem aN {o:Op}{h:Rl}{a b:E}{r:R2}(l:Loc K 2 o h λxs H Q=>∀x y,xs=[x,y]->r x y H Q)(σ:L2.St)(H:Hp)(Q:VK)(u:wE K sf C (.op o h [a,b]) σ H Q):tOp r (wE K sf C a) (wE K sf C b) σ H Q:=by obtain⟨pv,Z,Fs,η,w,η',A,ev,k⟩:=u;obtain⟨ws,s,t⟩:=dX ev;obtain⟨N,η1,M,e1,e2,rfl⟩:=aE s;obtain⟨P,η2,M,e3,p,rfl⟩:=aE e2;cases p;refine gi A e1 λx Z1 H1 Fs1 f e r1 _ v _=>?_;have c:=e.mono (G':=f) λ_ z=>.inr z;refine gi c e3 λy m j g i d r2 n s2 D=>?_;exact l [N,P] w [x,y] m j _ Q rfl t ⟨x,[y],f,i,rfl,λ_ z=>.inl z,λ_ z=>.inr z,n,r1.frame e.gd.own s2 c.dis,RepW.one r2⟩ d.own d.gd.zal (df d (v.trans D) k) x y rfl
theorem de:Own Z H no:=λ_ z=>z.elim
theorem Step.drop:Step Z H G Z H no:=(Step.refl Z H G).mono (λ_ z=>z) λ_ z=>z.elim
section
variable {Q:VK}{m:Md}{ts:U T}{xs:U V}
theorem aQ {i:I}(k:Out K Z H G (m,.int i) Q):Q (.int i) H:=k _ Z H no rfl de .drop
theorem cB {b:Rl}(k:Out K Z H G (m,.bl b) Q):Q (.bl b) H:=k _ Z H no rfl de .drop
theorem fB {x:Str}(k:Out K Z H G (m,.str x) Q)(h:sOk x=Lw):Q (.str x) H:=k _ Z H no ⟨rfl,h⟩ de .drop
theorem iE {t:T}{v:V}(o:Own Z H G)(k:Out K Z H G (m,t) Q)(r:Rep K Z H m t v G):Q v H:=k v Z H G r o<|.refl _ _ _
theorem lH {p:Rj}{o:HO}(hp:H p=J):Stay Z H (upd H p o):=by
 have b:∀{a u},H a=Y u->a≠p:=λ{a u} e z=>by subst z;rw[hp] at e;cases e
 refine⟨λa u _ e=>?_,λa xs e=>?_,λa u v e=>?_⟩
 .rw[ah<|b e];exact e
 .rcases e with e | ⟨u,e⟩
  .exact .inl (by rw[ah<|b e];exact e)
  .exact .inr ⟨u,by rw[ah<|b e];exact e⟩
 .rw[ah<|b e];exact e
theorem mx {p:Rj}{o:HO}(hp:H p=J)(j:Own Z H G)(f:∀a,G' a->G a\/a=p)(z:Fp)(g:∀a,Z a->z a)(b:∀a,z a->Z a\/G a):Step Z H G z (upd H p o) G':=by
 have i:∀{a u},H a=Y u->a≠p:=λ{a u} e q=>by subst q;rw[hp] at e;cases e
 have d:∀a,H a≠J->upd H p o a≠none:=λa h=>by
  by_cases e:a=p
  .rw[e,au];simp
  .rw[ah e];exact h
 refine⟨λa u e _=>by rw[ah<|i e];exact e,g,λa h=>(b a h).imp id .inl,λa h=>(f a h).imp id λe=>by rw[e];exact hp,d,λq a h=>d a ?_⟩;rcases b a h with c|c
 .exact q a c
 .obtain ⟨_,xs,e⟩:=j a c;rw[e];simp
theorem cH {p:Rj}(b:Own Z H G)(n:∀a,Z a->H a≠J)(c:∀a,G' a->G a)(g:xs.length<=LIM)(r:RepL K (dt Z G G') H m.kid ts xs G')(i:m≠.s)(k:Out K Z H G (m,.lst ts) Q)(hp:H p=J):Q (.ref p) (upd H p<|.lst xs):=by
 have d:∀{a u},H a=Y u->a≠p:=λ{a u} e q=>by subst q;rw[hp] at e;cases e
 have j:∀a,G' a->a≠p:=λa h=>by obtain⟨_,f,e⟩:=b a<|c a h;exact d e
 refine k _ (dt Z G G') _ (λa=>G' a\/a=p) ⟨p,xs,rfl,g,(LstR.own i).mpr ⟨.inr rfl,au⟩,?_⟩ ?_<|mx hp b (λa h=>h.imp (c a) id) _ (λa h=>.inl h) λa h=>h.imp id Nt
 .refine(r.keep (lH hp) (λ_ z=>z) λa u _ e=>by rw[ah<|d e];exact e).mono λa h=>⟨.inl h,j a h⟩
 .rintro a (h | h)
  .obtain ⟨l,f,e⟩:=b a<|c a h;exact⟨λz=>z.elim l λq=>q.2 h,f,by rw[ah<|d e];exact e⟩
  .subst h;refine⟨λz=>z.elim (λq=>n a q hp) λq=>?_,.inl xs,au⟩;obtain⟨_,f,e⟩:=b a q.1;rw[hp] at e;cases e
theorem oM {p:Rj}(d:Own Z H G)(b:∀a,G' a->G a)(f:xs.length<=LIM)(r:RepL K (dt Z G G') H m.kid ts xs G')(k:Out K Z H G (m,.tup ts) Q)(hp:H p=J):Q (.ref p) (upd H p<|.tup xs):=by
 have c:∀{a u},H a=Y u->a≠p:=λ{a u} e q=>by subst q;rw[hp] at e;cases e
 refine k _ (dt Z G G') _ G' ⟨p,xs,rfl,.inl<|.inl au,f,?_⟩ ?_<|mx hp d (λa h=>.inl<|b a h) _ (λa h=>.inl h) λa h=>h.imp id Nt
 .exact r.keep (lH hp) (λ_ z=>z) λa u _ e=>by rw[ah<|c e];exact e
 .intro a h;obtain⟨g,i,e⟩:=d a<|b a h;exact⟨λz=>z.elim g λq=>q.2 h,i,by rw[ah<|c e];exact e⟩
theorem gX {v:V}{H':Hp}(j:Own Z H G)(i:∀a,G' a->G a)(l:xs.length<=LIM)(r:RepL K (dt Z G G') H m.kid ts xs G')(k:Out K Z H G (m,.tup ts) Q)(d:∀b o,H b=Y o->H' b=Y o)(p:∃c,v=.ref c/\SqT K H' c xs):Q v H':=by
 obtain⟨c,rfl,n⟩:=p
 have g:∀a,H a≠J->H' a≠none:=λa h=>by
  cases e:H a with
  |none=>exact Rm e h
  |some o=>rw[d a o e];simp
 refine k _ (dt Z G G') _ G' ⟨c,xs,rfl,n,l,?_⟩ (λa h=>?_) ⟨λa o e _=>d a o e,λa h=>.inl h,λa h=>h.imp id λq=>.inl q.1,λa h=>.inl<|i a h,g,λq a h=>g a ?_⟩
 .refine r.keep ⟨fun a o _ e=>d a o e,fun a f e=>?_,fun a o u e=>d a _ e⟩ (fun _ z=>z) fun a u _ e=>d a u e;rcases e with e|⟨u,e⟩
  .exact .inl (d a _ e)
  .exact .inr ⟨u,d a _ e⟩
 .obtain ⟨s,f,e⟩:=j a<|i a h;exact⟨λz=>z.elim s λq=>q.2 h,f,d a _ e⟩
 .rcases h with h | h
  .exact q a h
  .obtain ⟨_,f,e⟩:=j a h.1;rw[e];simp
theorem d0 {p:Rj}{h:Rl}{w:W}(g:Own Z H G)(i:∀a,Z a->H a≠J)(f:xs.length<=LIM)(r:∃G',(∀a,G' a->G a)/\RepL K (dt Z G G') H m ts xs G')(b:newL h m ts=Y w)(k:Out K Z H G w Q)(hp:H p=J):Q (.ref p) (upd H p<|.lst xs):=by
 obtain⟨G',j,r⟩:=r;unfold newL at b;split at b
 .split at b
  .rename_i c;cases b;refine cH (m:=.d) (G':=no) g i (λ_ z=>z.elim) f ?_ (by simp) k hp;exact r.leaves (λ_ _ _ e=>e) c
  .cases b
 .cases b;exact cH (m:=m.up) g i j f (by rw[fP];exact r) (eH m) k hp
end
end
section
variable {K:Ly}{h:Rl}
theorem eV {d f:Type}{c:U d}{x y:f}(e:c.length=[x,y].length):∃a b,c=[a,b]:=by
 match c,e with
 |[a,b],_=>exact⟨a,b,rfl⟩
theorem HD {c d:Type}{b:U c}{x:d}(e:b.length=[x].length):∃a,b=[a]:=by
 match b,e with
 |[a],_=>exact⟨a,rfl⟩
theorem cS {Z:Fp}{H:Hp}{G:Fp}{u w:W}{x y:V}(r:RepW K Z H [u,w] [x,y] G):∃b c,(∀a,b a->G a)/\(∀a,c a->G a)/\(∀a,b a->¬c a)/\Rep K Z H u.1 u.2 x b/\Rep K Z H w.1 w.2 y c:=by obtain⟨t,s,b,c,e,j,k,d,p,v,r2,i,m,e2,g,o,n,q,z⟩:=r;cases e;cases e2;exact⟨b,i,j,λa f=>k a<|g a f,λa f l=>d a f<|g a l,p,q⟩
theorem Bz {Z:Fp}{H:Hp}{G:Fp}{w:W}{x:V}(r:RepW K Z H [w] [x] G):Rep K Z H w.1 w.2 x G:=by obtain⟨i,g,b,c,e,a,f,d,p,z⟩:=r;cases e;exact p.mono a
theorem bc {b:U W}{a:U V}{Z:Fp}{H:Hp}{G:Fp}{w:W}(c:b=[w])(r:RepW K Z H b a G):∃x,a=[x]/\Rep K Z H w.1 w.2 x G:=by subst c;obtain⟨x,hx⟩:=HD (x:=())<|show a.length=[()].length from r.length;subst hx;exact⟨x,rfl,Bz r⟩
theorem nu {n:O}(h:n<=LIM):n<sizeLine:=N6 h<|by decide
theorem LIM_le {n:O}(h:n<=LIM):n<=sizeLine:=OX<|nu h
theorem cZ {n:O}(h:fits n=Lw):n<=LIM:=RA h
theorem x4 {o:Op}{C:I->I->Prop}{g:I->I->T}(a:∀{u v w:W},oSem o h [u,v]=Y w->∃m n i j,u=(m,.int i)/\v=(n,.int j)/\C i j/\w=(.d,g i j))(b:I->I->V)(l:∀{Z:Fp} {H:Hp} {G:Fp} {Q:VK} {i j:I},Out K Z H G (.d,g i j) Q->Q (b i j) H):
  Loc K 2 o h λf H Q=>∀x y,f=[x,y]->rI C b x y H Q:=by
 intro A w f Z H G Q t e r z D k x y hx;subst hx;obtain⟨u,v,rfl⟩:=eV r.length.symm;obtain⟨m,n,i,j,rfl,rfl,c,rfl⟩:=a e;obtain⟨p,s,_,_,_,r1,r2⟩:=cS r;exact⟨i,j,r1,r2,c,l k⟩
theorem kD {o:Op}{g:I->I->T}(a:∀{u v w:W},oSem o h [u,v]=Y w->∃m n i j,u=(m,.int i)/\v=(n,.int j)/\w=(.d,g i j))(b:I->I->V)(f:∀{Z:Fp} {H:Hp} {G:Fp} {Q:VK} {i j:I},Out K Z H G (.d,g i j) Q->Q (b i j) H):
  Loc K 2 o h λc H Q=>∀x y,c=[x,y]->rI0 b x y H Q:=by
 intro z w c Z H G Q s e r t A k x y hx;subst hx;obtain⟨u,v,rfl⟩:=eV r.length.symm;obtain⟨m,n,i,j,rfl,rfl,rfl⟩:=a e;obtain⟨l,p,_,_,_,r1,r2⟩:=cS r;exact⟨i,j,r1,r2,f k⟩
theorem AY {u v w:W}(e:oSem .sub h [u,v]=Y w):∃m n i j,u=(m,.int i)/\v=(n,.int j)/\w=(.d,.int<|i-j):=by obtain⟨m,a⟩:=u;obtain⟨n,b⟩:=v;cases a<;>first|(cases e;done)|(cases b<;>first|(cases e;exact⟨_,_,_,_,rfl,rfl,rfl⟩)|cases e)
theorem vp {u v w:W}(e:oSem .lt h [u,v]=Y w):∃m n i j,u=(m,.int i)/\v=(n,.int j)/\w=(.d,.bl<|decide (i<j)):=by obtain⟨m,a⟩:=u;obtain⟨n,b⟩:=v;cases a<;>first|(cases e;done)|(cases b<;>first|(cases e;exact⟨_,_,_,_,rfl,rfl,rfl⟩)|cases e)
theorem fR {u v w:W}(e:oSem .le h [u,v]=Y w):∃m n i j,u=(m,.int i)/\v=(n,.int j)/\w=(.d,.bl<|decide (i<=j)):=by obtain⟨m,a⟩:=u;obtain⟨n,b⟩:=v;cases a<;>first|(cases e;done)|(cases b<;>first|(cases e;exact⟨_,_,_,_,rfl,rfl,rfl⟩)|cases e)
theorem yf {u v w:W}(e:oSem .gt h [u,v]=Y w):∃m n i j,u=(m,.int i)/\v=(n,.int j)/\w=(.d,.bl<|decide (j<i)):=by obtain⟨m,a⟩:=u;obtain⟨n,b⟩:=v;cases a<;>first|(cases e;done)|(cases b<;>first|(cases e;exact⟨_,_,_,_,rfl,rfl,rfl⟩)|cases e)
theorem xJ {u v w:W}(e:oSem .ge h [u,v]=Y w):∃m n i j,u=(m,.int i)/\v=(n,.int j)/\w=(.d,.bl<|decide (j<=i)):=by obtain⟨m,a⟩:=u;obtain⟨n,b⟩:=v;cases a<;>first|(cases e;done)|(cases b<;>first|(cases e;exact⟨_,_,_,_,rfl,rfl,rfl⟩)|cases e)
theorem vi {u v w:W}(e:oSem .fdiv h [u,v]=Y w):∃m n i j,u=(m,.int i)/\v=(n,.int j)/\D8 i j/\w=(.d,.int<|i / j):=by
 obtain⟨m,a⟩:=u;obtain⟨n,b⟩:=v;cases a<;>first|(cases e;done)|(cases b<;>try (cases e;done))
 rename_i i j;rw[vF] at e;split at e
 .rename_i c;rw[LQ,Ru,Ru] at c;cases e;exact⟨_,_,_,_,rfl,rfl,c,rfl⟩
 .cases e
theorem Ao {u v w:W}(e:oSem .mod h [u,v]=Y w):∃m n i j,u=(m,.int i)/\v=(n,.int j)/\(0<j)/\w=(.d,.int<|i % j):=by
 obtain⟨m,a⟩:=u;obtain⟨n,b⟩:=v;cases a<;>first|(cases e;done)|(cases b<;>try (cases e;done))
 rename_i i j;rw[BL] at e;split at e
 .rename_i c;rw[Ru] at c;cases e;exact⟨_,_,_,_,rfl,rfl,c,rfl⟩
 .cases e
theorem y9 {u v w:W}(e:oSem .pow h [u,v]=Y w):∃m n i j,u=(m,.int i)/\v=(n,.int j)/\DV i j/\w=(.d,.int<|i ^ j.toNat):=by
 obtain⟨m,a⟩:=u;obtain⟨n,b⟩:=v;cases a<;>first|(cases e;done)|(cases b<;>try (cases e;done))
 rename_i i j;rw[Bx] at e;split at e
 .rename_i c;rw[LQ,LQ,Ru,Ru,Ru] at c;cases e;exact⟨_,_,_,_,rfl,rfl,⟨c.1.1,c.1.2,c.2⟩,rfl⟩
 .cases e
theorem Aj:Loc K 2 .sub h λa H Q=>∀x y,a=[x,y]->rI0 (λi j=>.int<|i-j) x y H Q:=kD AY _ λk=>aQ k
theorem EO:Loc K 2 .lt h λa H Q=>∀x y,a=[x,y]->rI0 (λi j=>.bl<|decide (i<j)) x y H Q:=kD vp _ λk=>cB k
theorem uD:Loc K 2 .gt h λa H Q=>∀x y,a=[x,y]->rI0 (λi j=>.bl<|decide (j<i)) x y H Q:=kD yf _ λk=>cB k
theorem xj:Loc K 2 .ge h λa H Q=>∀x y,a=[x,y]->rI0 (λi j=>.bl<|decide (j<=i)) x y H Q:=kD xJ _ λk=>cB k
theorem xX:Loc K 2 .fdiv h λa H Q=>∀x y,a=[x,y]->rI D8 (λi j=>.int<|i / j) x y H Q:=x4 vi _ λk=>aQ k
theorem zg:Loc K 2 .mod h λa H Q=>∀x y,a=[x,y]->rI (λ_ j=>0<j) (λi j=>.int<|i % j) x y H Q:=x4 Ao _ λk=>aQ k
theorem AB:Loc K 2 .pow h λa H Q=>∀x y,a=[x,y]->rI DV (λi j=>.int<|i ^ j.toNat) x y H Q:=x4 y9 _ λk=>aQ k
theorem zZ:Loc K 1 .neg h λb H Q=>∀x,b=[x]->rU (λi=>.int (-i)) x H Q:=by intro f w b Z H G Q c e r d g k x hx;subst hx;obtain⟨⟨m,a⟩,rfl⟩:=HD r.length.symm;cases a<;>first|(cases e;exact⟨_,Bz r,aQ k⟩)|cases e
theorem bG {Z:Fp}{H:Hp}{G:Fp}{m:Md}{c:U T}{v:V}(r:Rep K Z H m (.lst c) v G):∃a b,v=.ref a/\H a=Y (.lst b)/\b.length<=LIM/\RepL K Z H m.kid c b G:=by obtain⟨a,b,e,l,q,p⟩:=r;exact⟨a,b,e,by cases m<;>exact q.2,l,p.mono λ_ z=>z.1⟩
theorem cD {Z:Fp}{H:Hp}{G:Fp}{m:Md}{c:U T}{v:V}(r:Rep K Z H m (.tup c) v G):∃a b,v=.ref a/\SqT K H a b/\b.length<=LIM/\RepL K Z H m.kid c b G:=r
theorem gZ {Z:Fp}{H:Hp}{G g i:Fp}{m n:Md}{l o:U T}{s t:U V}(p:∀a,g a->G a)(r:∀a,i a->G a)(d:∀a,g a->¬i a)(r1:RepL K Z H m l s g)(r2:RepL K Z H n o t i):
  ∃f,(∀a,f a->G a)/\RepL K (dt Z G f) H (m.meet n) (l++o) (s++t) f:=by
 obtain⟨A,j,u⟩:=RepL.weak (fj m n).1 r1;obtain⟨c,k,v⟩:=RepL.weak (fj m n).2 r2;refine⟨λb=>A b\/c b,λb e=>e.elim (λz=>p b<|j b z) λz=>r b<|k b z,RepL.append (λ_ z=>.inl z) (λ_ z=>.inr z) (λb x y=>d b (j b x)<|k b y) (u.zmono λb e=>?_)<|v.zmono λb e=>?_⟩
 .exact e.imp id λz=>⟨p b z.1,λq=>q.elim z.2 λw=>d b z.1<|k b w⟩
 .exact e.imp id λz=>⟨r b z.1,λq=>q.elim (λw=>d b (j b w) z.1) z.2⟩
theorem zu {p q:Str}(a:sOk p=Lw)(b:sOk q=Lw)(c:p.cps.size+q.cps.size<=LIM):sOk (p++q)=true:=by
 unfold sOk at *;rw[LQ] at *;refine⟨?_,Ri ?_⟩
 .show Array.all (p.cps++q.cps) _=Lw;rw[Array.all_append,LQ];exact⟨a.1,b.1⟩
 .show (p.cps++q.cps).size<=LIM;rw[Array.size_append];exact c
theorem yy (P:R2)(hT:∀{Z:Fp} {H:Hp} {G:Fp} {Q:VK} {a b:Rj} {c l:U V} {u:U T},SqT K H a c->SqT K H b l->c≠[]->c.length+l.length<=LIM->Own Z H G->(∃v,(∀a,v a->G a)/\RepL K (dt Z G v) H .s u (c++l) v)->Out K Z H G (.s,.tup u) Q->P (.ref a) (.ref b) H Q):
  Loc K 2 .add h λc H Q=>∀x y,c=[x,y]->rI0 (λi j=>.int<|i+j) x y H Q\/(∃i j,x=.str i/\y=.str j/\i.length+j.length<=sizeLine/\Q (.str<|i++j) H)\/Hf x y H Q\/P x y H Q:=by
 intro ws w c Z H G Q hn e r N za k x y hx;subst hx;obtain⟨⟨m,a⟩,⟨n,b⟩,rfl⟩:=eV r.length.symm;obtain⟨G1,G2,w1,w2,d,r1,r2⟩:=cS r;cases a<;>first|(cases e;done)|(cases b<;>try (cases e;done))
 .cases e;exact .inl ⟨_,_,r1,r2,aQ k⟩
 .rename_i p q;rw[uM] at e;split at e
  .rename_i f;cases e;refine .inr<|.inl ⟨p,q,r1.1,r2.1,LIM_le<|cZ f,fB k ?_⟩;exact zu r1.2 r2.2<|cZ f
  .cases e
 .rename_i u us;rw[xf] at e;split at e
  .rename_i f;cases e;rw[LQ] at f;obtain⟨a,c,rfl,M,hl,p⟩:=cD r1;obtain⟨b,l,rfl,g,D,t⟩:=cD r2;have o:=cZ f.1;have e1:=p.length;have e2:=t.length;refine .inr (.inr (.inr (hT M g ?_ (by lia) N ?_ k)))
   .rintro rfl;cases u with
    |nil=>simp at f
    |cons _ _=>simp at e1
   .refine ⟨no,fun _ z=>z.elim,RepL.append (G1:=no) (G2:=no) (fun _ z=>z) (fun _ z=>z) (fun _ z _=>z) ((RepL.sh p).zmono fun b A=>?_) ((RepL.sh t).zmono fun b A=>?_)⟩
    .exact A.imp id λz=>⟨w1 b z,λq=>q⟩
    .exact A.imp id λz=>⟨w2 b z,λq=>q⟩
  .cases e
 .rename_i u us;rw[ti] at e;split at e
  .rename_i f;obtain⟨a,c,rfl,M,hl,p⟩:=bG r1;obtain⟨b,l,rfl,g,D,t⟩:=bG r2;have o:=cZ f;have e1:=p.length;have e2:=t.length;have F:(c++l).length<=LIM:=by rw[LH];lia
   refine .inr<|.inr<|.inl ⟨a,b,c,l,rfl,rfl,M,g,LIM_le<|by lia,λq hq=>?_⟩;exact d0 N za F (gZ w1 w2 d p t) e k hq
  .cases e
theorem zv:Loc K 2 .mul h λg H Q=>∀x y,g=[x,y]->rI CMul (λi j=>.int<|i * j) x y H Q\/IS x y H Q:=by
 intro ws w g Z H G Q hn e r N za k x y hx;subst hx;obtain⟨⟨m,a⟩,⟨n,b⟩,rfl⟩:=eV r.length.symm;obtain⟨G1,G2,P,w2,d,r1,r2⟩:=cS r;cases a<;>first|(cases e;done)|(cases b<;>try (cases e;done))
 .rename_i i j;rw[vZ] at e;split at e
  .rename_i l;cases e;refine .inl ⟨i,j,r1,r2,?_,aQ k⟩;rw[Qy,Ru,Ru] at l;have t:(2:I) ^ 64=18446744073709551616:=by decide
   unfold CMul;rw[t];lia
  .cases e
 .rename_i v j;have o:(if decide (j.natAbs<4611686018427387904)&&fits (v.length * j.toNat) then newL h .s (LU j.toNat v).flatten else J)=Y w:=e;split at o
  .rename_i l;rw[LQ,Ru] at l;obtain⟨a,g,rfl,F,hl,p⟩:=bG r1;have f:=cZ l.2;have e1:=p.length;have u:((LU j.toNat g).flatten).length<=LIM:=by rw[List.length_flatten,List.map_replicate,List.sum_replicate_nat,e1,Qj];exact f
   refine .inr ⟨a,j,g,rfl,r2,F,by lia,by lia,LIM_le<|by rw[e1];exact f,λq D=>?_⟩;refine d0 N za u ⟨no,λ_ z=>z.elim,?_⟩ o k D;have ps:=(RepL.sh p).zmono (Z':=dt Z G no) λb A=>A.imp id λz=>⟨P b z,λq=>q⟩;generalize j.toNat=c;induction c with
   |zero=>exact rfl
   |succ c M=>exact RepL.append (λ_ z=>z) (λ_ z=>z) (λ_ z _=>z) ps M
  .cases o
theorem wy {Z:Fp}{H:Hp}{G:Fp}{m:Md}{a:U T}{b:U V}{i:I}{t:T}(p:RepL K Z H m a b G)(e:M.atI a i=Y t):∃x,L2.atI b i=Y x/\Rep K Z H m t x G:=by
 unfold M.atI at e;have c:M.ixN a.length i=L2.ixN b.length i:=by rw[p.length];rfl
 cases e1:M.ixN a.length i with
 |none=>rw[e1] at e;cases e
 |some j=>rw[e1] at e;obtain⟨x,hx,r⟩:=p.get<|show a[j]?=Y t from e;refine⟨x,?_,r⟩;unfold L2.atI;rw[<- c,e1];exact hx
theorem Al {x:Str}{c:O}(h:sOk x=Lw)(d:c∈x.cps.toList):sOk ⟨#[c]⟩=true:=by
 unfold sOk at *;rw[LQ] at *;refine⟨?_,rfl⟩;have a:=h.1;rw[OC] at a;have b:=a c<|Array.mem_def.mpr d;rw[OC];intro y e;have:y=c:=by simpa using e
 rw[this];exact b
theorem kg {x:Str}(h:sOk x=Lw):x.cps.size<=LIM:=by unfold sOk at h;rw[LQ,Ru] at h;exact h.2
theorem C6:Loc K 2 .ix h λg H Q=>∀x y,g=[x,y]->(∃p g i v,x=.ref p/\y=.int i/\(SqL K H p g\/SqT K H p g)/\L2.atI g i=Y v/\Q v H)\/(∃z i c,x=.str z/\y=.int i/\z.length<=sizeLine/\L2.atI z.cps.toList i=Y c/\Q (.str ⟨#[c]⟩) H):=by
 intro ws w g Z H G Q hn e r D za k x y hx;subst hx;obtain⟨⟨m,a⟩,⟨n,b⟩,rfl⟩:=eV r.length.symm;obtain⟨P,G2,F,w2,d,r1,r2⟩:=cS r;obtain⟨i,rfl⟩:∃i,b=.int i:=by cases b<;>first|exact⟨_,rfl⟩|(cases e;done)|(cases a<;>cases e)
 cases a with
 | lst s =>
  obtain⟨a,g,rfl,o,N,p⟩:=bG r1;have f:(M.atI s i).map (λt=>(m.kid,t))=Y w:=e;cases e1:M.atI s i with
  |none=>rw[e1] at f;cases f
  |some t=>rw[e1] at f;cases f;obtain⟨v,u,A⟩:=wy p e1;exact .inl ⟨a,g,i,v,rfl,r2,.inl<|.inl<|.inl o,u,iE D k<|A.mono F⟩
 | tup s =>
  obtain⟨a,g,rfl,o,N,p⟩:=cD r1;have f:(M.atI s i).map (λt=>(m.kid,t))=Y w:=e;cases e1:M.atI s i with
  |none=>rw[e1] at f;cases f
  |some t=>rw[e1] at f;cases f;obtain⟨v,u,A⟩:=wy p e1;exact .inl ⟨a,g,i,v,rfl,r2,.inr o,u,iE D k<|A.mono F⟩
 | str z =>
  have f:(M.atI z.cps.toList i).map (λc=>((.d,.str ⟨#[c]⟩):W))=Y w:=e;cases e1:M.atI z.cps.toList i with
  |none=>rw[e1] at f;cases f
  |some c=>
   rw[e1] at f;cases f;refine .inr ⟨z,i,c,r1.1,r2,LIM_le<|kg r1.2,e1,fB k<|Al r1.2 ?_⟩;unfold M.atI at e1;cases e2:M.ixN z.cps.toList.length i with
   |none=>rw[e2] at e1;cases e1
   |some j=>rw[e2] at e1;exact NA e1
 | scr l =>
  obtain⟨a,rfl,hL,o⟩:=r1;have f:(M.atI l i).map (λn=>((.d,.int n):W))=Y w:=e;cases e1:M.atI l i with
  |none=>rw[e1] at f;cases f
  | some n =>
   rw[e1] at f;cases f;refine .inl ⟨a,_,i,.int n,rfl,r2,.inl o.sq,?_,aQ k⟩;unfold M.atI at e1;unfold L2.atI;rw[LB];cases e2:M.ixN l.length i with
   |none=>rw[e2] at e1;cases e1
   |some j=>rw[e2] at e1;rw[show L2.ixN l.length i=Y j from e2];show(l.map V.int)[j]?=_;rw[Mr,show l[j]?=Y n from e1];rfl
 |_=>cases e
theorem yN:Loc K 1 .len h λb H Q=>∃x n,b=[x]/\(match x with
  |.str y=>y.length<=sizeLine/\n=y.length
  |.byt y=>y.size<=sizeLine/\n=y.size
  |.ref p=>(∃b,SqL K H p b/\n=b.length)\/∃b,SqT K H p b/\n=b.length
  |_=>RB)/\Q (.int (n:O)) H:=by
 intro j w b Z H G Q g e r o s k
 match j,g with
 | [(m,a)],_ =>
  obtain⟨x,rfl,r1⟩:=bc rfl r;cases a with
  |lst d=>obtain⟨a,b,hx,c,f,p⟩:=bG r1;cases e;refine⟨x,d.length,rfl,?_,aQ k⟩;rw[show x=.ref a from hx];exact .inl ⟨b,.inl<|.inl c,p.length.symm⟩
  |tup d=>obtain⟨a,b,hx,c,f,p⟩:=cD r1;cases e;refine⟨x,d.length,rfl,?_,aQ k⟩;rw[show x=.ref a from hx];exact .inr ⟨b,c,p.length.symm⟩
  |str z=>cases e;refine⟨x,z.length,rfl,?_,aQ k⟩;rw[show x=.str z from r1.1];exact⟨LIM_le<|kg r1.2,rfl⟩
  |scr i=>obtain⟨a,hx,l,c⟩:=r1;cases e;refine⟨x,i.length,rfl,?_,aQ k⟩;rw[show x=.ref a from hx];exact .inl ⟨_,c.sq,by rw[LB]⟩
  |_=>cases e
theorem nE {Z:Fp}{H:Hp}{G:Fp}{m:Md}:∀a:U I,RepL K Z H m (a.map T.int) (a.map V.int) G
|[]=>rfl
|n::a=>⟨.int n,a.map V.int,no,no,rfl,λ_ z=>z.elim,λ_ z=>z.elim,λ_ z=>z.elim,rfl,nE a⟩
theorem xt:Loc K 1 .list h λb H Q=>∃p i,b=[.ref p]/\(SqL K H p i\/SqT K H p i)/\∀l,H l=J->Q (.ref l) (upd H l<|.lst i):=by
 intro u w b Z H G Q o e r g j k
 match u,o with
 | [(m,a)],_ =>
  obtain⟨x,rfl,r1⟩:=bc rfl r;cases a with
  |lst t=>obtain⟨a,b,hx,d,f,p⟩:=bG r1;refine⟨a,b,by rw[hx],.inl<|.inl<|.inl d,λq c=>d0 g j f ⟨G,λ_ z=>z,p.zmono λ_ z=>.inl z⟩ e k c⟩
  |tup t=>obtain⟨a,b,hx,d,f,p⟩:=cD r1;refine⟨a,b,by rw[hx],.inr d,λq c=>d0 g j f ⟨G,λ_ z=>z,p.zmono λ_ z=>.inl z⟩ e k c⟩
  |scr s=>obtain⟨a,hx,n,d⟩:=r1;cases e;refine⟨a,_,by rw[hx],.inl d.sq,λq c=>cH (G':=no) g j (λ_ z=>z.elim) (by rw[LB];exact n) (nE s) (by simp) k c⟩
  |_=>cases e
theorem x8 {Z:Fp}{H:Hp}{G:Fp}{m:Md}:∀{a:U T} {b:U I} {c:U V},intsOf a=Y b->RepL K Z H m a c G->c=b.map V.int:=by
 intro a;induction a generalizing G with
 |nil=>intro b c e r;cases e;exact r
 | cons t a d =>
  intro b c e r;obtain⟨x,k,g,j,rfl,_,_,_,p,q⟩:=r;cases t with
  | int i =>
   cases e1:intsOf a with
   |none=>simp[intsOf,e1] at e
   |some f=>
    have:b=i::f:=by simpa[intsOf,e1] using e.symm
    subst this;rw[LJ,<- d e1 q,show x=.int i from p]
  |_=>cases e
theorem rF {Z:Fp}{H:Hp}{G:Fp}{m:Md}:∀{a:U T} {b:U Rl} {c:U V},aY a=Y b->RepL K Z H m a c G->c=b.map V.bl:=by
 intro a;induction a generalizing G with
 |nil=>intro b c e r;cases e;exact r
 | cons t a d =>
  intro b c e r;obtain⟨x,k,g,j,rfl,_,_,_,p,q⟩:=r;cases t with
  | bl i =>
   cases e1:aY a with
   |none=>simp[aY,e1] at e
   |some f=>
    have:b=i::f:=by simpa[aY,e1] using e.symm
    subst this;rw[LJ,<- d e1 q,show x=.bl i from p]
  |_=>cases e
theorem AN:Loc K 1 .all h λf H Q=>∃(a:Rj) (bs:U Rl),f=[.ref a]/\SqL K H a (bs.map V.bl)/\Q (.bl<|bs.all id) H:=by
 intro l w f Z H G Q j e r o s k
 match l,j with
 | [(m,a)],_ =>
  obtain⟨x,rfl,r1⟩:=bc rfl r;cases a with
  | lst i =>
   obtain⟨a,f,hx,g,n,p⟩:=bG r1;have b:(aY i).map (λc=>((.d,.bl (c.all id)):W))=Y w:=e;cases e1:aY i with
   |none=>rw[e1] at b;cases b
   |some c=>rw[e1] at b;cases b;rw[rF e1 p] at g;exact⟨a,c,by rw[hx],.inl<|.inl g,cB k⟩
  |_=>cases e
end
section
variable {K:Ly}{sl:Cf}{sf:O->L O}{C:Call}{σ:L2.St}{Z Z' Z1:Fp}{H H' H1:Hp}{Fs Fs' Fs1:Fps}{η η' η1:Env}{G G' R F:Fp}
mutual
theorem Rep.sany:∀{t:T} {v:V} {G G':Fp},Rep K Z H .s t v G->Rep K Z H .s t v G'
|.non,_,_,_,h=>h
|.bl _,_,_,_,h=>h
|.int _,_,_,_,h=>h
|.str _,_,_,_,h=>h
|.scr _,_,_,_,h=>h
|.tup ts,_,_,_,⟨a,xs,e,q,l,r⟩=>⟨a,xs,e,q,l,RepL.sany r⟩
|.lst ts,_,_,_,⟨a,xs,e,l,q,r⟩=>⟨a,xs,e,l,q,RepL.sany r⟩
|.dct _ _,_,_,_,⟨a,xs,e,l,q,n,hl,r⟩=>⟨a,xs,e,l,q,n,hl,r⟩
|.ins _ _ _,_,_,_,h=>h
|.dtt _ _,_,_,_,h=>h
|.obj _ _ _,_,_,_,h=>h
|.gone,_,_,_,h=>h
theorem RepL.sany:∀{ts:U T} {xs:U V} {G G':Fp},RepL K Z H .s ts xs G->RepL K Z H .s ts xs G'
|[],_,_,_,h=>h
|t::ts,xs,_,_,⟨x,r,G1,G2,e,h1,h2,hd,p,q⟩=>⟨x,r,no,no,e,λ_ z=>z.elim,λ_ z=>z.elim,λ_ z=>z.elim,Rep.sany p,RepL.sany q⟩
end
theorem bQ:∀(η:Env) (i j:O) (o:L W),rd (wr η i o) j=if j=i/\i < η.length then o else rd η j
|[],i,j,o=>by simp[wr,rd]
|p::η,0,0,o=>by simp[wr,rd]
|p::η,0,j+1,o=>by simp[wr,rd]
|p::η,i+1,0,o=>by simp[wr,rd]
|p::η,i+1,j+1,o=>by show rd (wr η i o) j=_;rw[bQ η i j o];simp[rd]
theorem eN:∀{η:Env} {i:O} {w:W},rd η i=Y w->i < η.length
|[],_,_,h=>by cases h
|_::_,0,_,_=>by simp
|_::η,i+1,_,h=>by have:=eN (η:=η) (i:=i) h;simp;exact this
theorem fW (h:∀a,F a->G a):Step Z H G Z H F:=(Step.refl Z H G).mono (λ_ z=>z) h
theorem CO {i j:O}(f:sf i=Y j)(σ:L2.St)(H:Hp)(Q:VK)(h:wE K sf C (.var i) σ H Q):rK j σ H Q:=by
 obtain⟨l,Z,Fs,η,w,η',A,ev,k⟩:=h;obtain⟨n,e1,e2⟩:=aq<|show ret η ((rd η i).bind look)=_ from ev;cases e2;cases e3:rd η i with
 |none=>rw[e3] at e1;cases e1
 | some u =>
  rw[e3] at e1;obtain⟨m,t⟩:=u;obtain⟨v,r,g⟩:=A.env i m t e3;refine⟨v,g.1 j f,k v Z H Fs no A ?_<|fW λa e=>e.elim id λz=>z.elim⟩;cases m with
  |s=>cases e1;exact r.sany
  |d=>
   have b:(if t.leaf=Lw then Y (Md.d,t) else J)=Y w:=e1;split at b
   .rename_i c;cases b;exact r.leaf (λ_ _ _ q=>q) c
   .cases b
  |o m=>
   have b:(if t.leaf=Lw then Y (Md.d,t) else J)=Y w:=e1;split at b
   .rename_i c;cases b;exact r.leaf (λ_ _ _ q=>q) c
   .cases b
def DL (Fs:Fps)(i:O):Fps:=λj a=>j≠i/\Fs j a
theorem FH {e:E}{i j:O}(o:∀η,evE C e η=ret (del η i) (rd η i))(p:sf i=Y j)(σ:L2.St)(H:Hp)(Q:VK)(h:wE K sf C e σ H Q):rK j σ H Q:=by
 obtain⟨N,Z,Fs,η,w,η',A,ev,k⟩:=h;rw[o] at ev;obtain⟨P,e1,e2⟩:=aq ev;cases e2;obtain⟨m,t⟩:=w;obtain⟨v,r,s⟩:=A.env i m t e1;refine⟨v,s.1 j p,k v Z H (DL Fs i) (Fs i) ⟨⟨λa ⟨l,d,b⟩=>A.gd.own a ⟨l,b⟩,λl u a d b=>A.gd.dis l u a d.2 b.2,A.gd.zal⟩,λl x D e=>?_,λa c=>A.gd.own a ⟨i,c⟩,λa c ⟨l,d,b⟩=>d<|A.gd.dis l i a b c,A.lk,A.ln⟩ r<|fW λa c=>c.elim (λ⟨l,d,b⟩=>⟨l,b⟩) λz=>⟨i,z⟩⟩;rw[bQ] at e;split at e
 .cases e
 .rename_i g;obtain⟨M,y,n⟩:=A.env l x D e;have f:l≠i:=λz=>g ⟨z,eN e1⟩;exact⟨M,y.mono λa c=>⟨f,c⟩,n⟩
theorem iO {t:T}{v:V}(c:∀{Z:Fp} {H:Hp},Rep K Z H .d t v no)(σ:L2.St)(H:Hp)(Q:VK)(h:wE K sf C (.cst t) σ H Q):tC v σ H Q:=by obtain⟨e,Z,Fs,η,w,η',A,ev,k⟩:=h;cases ev;exact k v Z H Fs no A c<|fW λa b=>b.elim id λz=>z.elim
theorem CN {b:U E}(j:b.length<=LIM)(σ:L2.St)(H:Hp)(Q:VK)(h:wE K sf C (.tup b) σ H Q):Gh (wL K sf C b) σ H Q:=by
 obtain⟨n,Z,Fs,η,w,η',A,ev,k⟩:=h;obtain⟨⟨e,η1⟩,c,i⟩:=ae<|show(evL C b η).bind uT=_ from ev;cases i;refine⟨n,Z,Fs,η,e,_,A,c,λo Z' H' Fs' G a r s=>?_⟩;have d:o.length<=LIM:=by rw[r.length,gJ c];exact j
 obtain⟨G',f,g⟩:=RepW.to (λu l=>gN l) r;refine⟨LIM_le d,λp hp=>oM (m:=(g9 e).up) a.own f d (by rw[fP];exact g) (df a s k) hp⟩
theorem En {b:Rl}{c:U E}(n:c.length<=LIM)(σ:L2.St)(H:Hp)(Q:VK)(h:wE K sf C (.lst b c) σ H Q):II (wL K sf C c) σ H Q:=by
 obtain⟨t,Z,Fs,η,w,η',A,ev,k⟩:=h;obtain⟨⟨j,η1⟩,g,l⟩:=ae<|show(evL C c η).bind (wK b)=_ from ev;cases l;refine⟨t,Z,Fs,η,j,_,A,g,λv Z' H' Fs' G a r s=>?_⟩;have f:v.length<=LIM:=by rw[r.length,gJ g];exact n
 refine⟨LIM_le f,λp hp=>?_⟩;cases b with
 |true=>obtain⟨G',d,e⟩:=RepW.to (λu i=>gN i) r;exact cH (m:=(g9 j).up) a.own a.gd.zal d f (by rw[fP];exact e) (eH _) (df a s k) hp
 |false=>obtain⟨G',d,e⟩:=RepW.to (N:=.s) (λu i=>by cases lf u.1 u.2<;>rfl) r;exact cH (m:=.o .s) a.own a.gd.zal d f e (by simp) (df a s k) hp
def wT (K:Ly)(sl:O->L O)(C:Call)(e:E):TT:=λσ H Q=>∃a Z Fs η w η' b,At K ⟨sl,a⟩ σ Z H Fs η no/\evE C e η=.ok (w,η')/\truth w.2=Y b /\
 ∀Z' H' Fs',At K ⟨sl,a⟩ σ Z' H' Fs' η' no->Step Z H (tot Fs) Z' H' (tot Fs')->Q b H'
def TrV (K:Ly)(x:V)(H:Hp)(k:Rl):Prop:=
 match x with
 |.non=>k=Lv
 |.bl b=>k=b
 |.int i=>k=(i != 0)
 |.str y=>y.length<=sizeLine/\k=((y.length:I) != 0)
 |.ref p=>(∃a,SqL K H p a/\k=!a.isEmpty)\/(∃a,SqT K H p a/\k=!a.isEmpty)
 |_=>RB
theorem d9 {c d:Type}{a:U c}{b:U d}(h:a.length=b.length):a.isEmpty=b.isEmpty:=by cases a<;>cases b<;>first|rfl|simp at h
theorem jd {m:Md}{t:T}{v:V}{b:Rl}(e:truth t=Y b)(r:Rep K Z H m t v G):TrV K v H b:=by
 cases t with
 |non=>cases e;rw[show v=_ from r];rfl
 |bl c=>cases e;rw[show v=_ from r];rfl
 |int i=>cases e;rw[show v=_ from r];rfl
 |str x=>
  cases e;rw[show v=_ from r.1];refine⟨LIM_le<|kg r.2,?_⟩;show(x.cps.size != 0)=(((x.cps.size:O):I) != 0);cases x.cps.size with
  |zero=>rfl
  |succ n=>simp;lia
 |tup h=>obtain⟨a,f,rfl,d,g,p⟩:=cD r;cases e;exact .inr ⟨f,d,by rw[d9 p.length]⟩
 |lst h=>obtain⟨a,f,rfl,d,g,p⟩:=bG r;cases e;exact .inl ⟨f,.inl<|.inl d,by rw[d9 p.length]⟩
 |scr k=>obtain⟨a,rfl,j,d⟩:=r;cases e;exact .inl ⟨_,d.sq,by rw[d9<|LB ..]⟩
 |dct _ _=>cases e
 |ins _ _ _=>cases e
 |obj _ _ _=>cases e
 |dtt _ _=>cases e
 |gone=>cases e
theorem qM {e:E}{w:W}{b:Rl}{Q:Rl->Hp->Prop}(A:At K sl σ Z H Fs η no)(ev:evE C e η=.ok (w,η'))(a:truth w.2=Y b)(k:∀Z' H' Fs',At K sl σ Z' H' Fs' η' no->Step Z H (tot Fs) Z' H' (tot Fs')->Q b H'):wT K sl.sl C e σ H Q:=⟨sl.pv,Z,Fs,η,w,η',b,A,ev,a,k⟩
theorem cW {a:Type}{f g:Env->Res a}{p:W×Env}{r:a}(h:onT f g p=.ok r):∃b,truth p.1.2=Y b/\(if b=Lw then f p.2 else g p.2)=.ok r:=by
 unfold onT at h;split at h
 .rename_i e;exact⟨Lw,e,h⟩
 .rename_i e;exact⟨Lv,e,h⟩
 .cases h
theorem Dw {e:E}(σ:L2.St)(H:Hp)(Q:Rl->Hp->Prop)(h:wT K sf C (.not e) σ H Q):Hb (wT K sf C e) σ H Q:=by
 obtain⟨i,Z,Fs,η,w,η',b,A,ev,g,k⟩:=h;obtain⟨⟨u,η1⟩,a,f⟩:=ae<|show(evE C e η).bind wR=_ from ev;obtain⟨j,e1,e2⟩:=aq<|show ret η1 ((truth u.2).map λb=>((.d,.bl<|!b):W))=_ from f;cases e2;cases e3:truth u.2 with
 |none=>rw[e3] at e1;cases e1
 |some c=>
  rw[e3] at e1;cases e1;have:b=!c:=by cases g;rfl
  subst this;exact qM A a e3 k
theorem Dy {a b:E}(σ:L2.St)(H:Hp)(Q:Rl->Hp->Prop)(h:wT K sf C (.and a b) σ H Q):Gs (wT K sf C a) (wT K sf C b) σ H Q:=by
 obtain⟨s,Z,Fs,η,w,η',c,A,ev,j,k⟩:=h;obtain⟨⟨u,η1⟩,p,r⟩:=ae<|show(evE C a η).bind (rC<|evE C b)=_ from ev;obtain⟨d,i,e⟩:=cW<|show onT (evE C b) (okW u) (u,η1)=_ from r;refine qM A p i λZ1 H1 Fs1 g l=>?_;cases d with
 |true=>rw[Rk rfl] at e ⊢;exact qM g e j λo n f m s2=>k o n f m<|l.trans s2
 |false=>rw[Rn LX] at e ⊢;cases e;cases(i.symm.trans j);exact k Z1 H1 Fs1 g l
theorem Jg {a b:E}(σ:L2.St)(H:Hp)(Q:Rl->Hp->Prop)(h:wT K sf C (.or a b) σ H Q):tOr (wT K sf C a) (wT K sf C b) σ H Q:=by
 obtain⟨s,Z,Fs,η,w,η',c,A,ev,j,k⟩:=h;obtain⟨⟨u,η1⟩,p,r⟩:=ae<|show(evE C a η).bind (kOr<|evE C b)=_ from ev;obtain⟨d,i,e⟩:=cW<|show onT (okW u) (evE C b) (u,η1)=_ from r;refine qM A p i λZ1 H1 Fs1 g l=>?_;cases d with
 |false=>rw[Rn LX] at e ⊢;exact qM g e j λo n f m s2=>k o n f m<|l.trans s2
 |true=>rw[Rk rfl] at e ⊢;cases e;cases(i.symm.trans j);exact k Z1 H1 Fs1 g l
theorem E4 {c a b:E}(σ:L2.St)(H:Hp)(Q:VK)(h:wE K sf C (.ifx c a b) σ H Q):tIf (wT K sf C c) (wE K sf C a) (wE K sf C b) σ H Q:=by
 obtain⟨i,Z,Fs,η,w,η',A,ev,k⟩:=h;obtain⟨⟨u,η1⟩,l,m⟩:=ae<|show(evE C c η).bind (onT (evE C a)<|evE C b)=_ from ev;obtain⟨d,n,f⟩:=cW m;refine qM A l n λZ1 H1 Fs1 g j=>?_;cases d with
 |true=>rw[Rk rfl] at f ⊢;exact⟨i,Z1,Fs1,η1,w,η',g,f,λv Z' H' Fs' G e r s=>k v Z' H' Fs' G e r<|j.trans s⟩
 |false=>rw[Rn LX] at f ⊢;exact⟨i,Z1,Fs1,η1,w,η',g,f,λv Z' H' Fs' G e r s=>k v Z' H' Fs' G e r<|j.trans s⟩
theorem E8 {a b:E}(σ:L2.St)(H:Hp)(Q:VK)(h:wE K sf C (.and a b) σ H Q):wE K sf C a σ H λx H1=>∃k,TrV K x H1 k/\if k=Lw then wE K sf C b σ H1 Q else Q x H1:=by
 obtain⟨f,Z,Fs,η,w,η',A,ev,k⟩:=h;obtain⟨⟨u,η1⟩,i,j⟩:=ae<|show(evE C a η).bind (rC<|evE C b)=_ from ev;obtain⟨d,l,e⟩:=cW<|show onT (evE C b) (okW u) (u,η1)=_ from j;refine⟨f,Z,Fs,η,u,η1,A,i,λv Z1 H1 Fs1 G c r s=>⟨d,jd l r,?_⟩⟩;cases d with
 |true=>rw[Rk rfl] at e ⊢;exact⟨f,Z1,Fs1,η1,w,η',c.bare,e,λo Z' H' Fs' G' g m n=>k o Z' H' Fs' G' g m<|(s.mono (λ_ z=>z) λ_ z=>.inl z).trans n⟩
 |false=>rw[Rn LX] at e ⊢;cases e;exact k v Z1 H1 Fs1 G c r s
end
section
variable {K:Ly}{sl:Cf}{sf:O->L O}{C:Call}{σ:L2.St}{Z Z' Z1:Fp}{H H' H1:Hp}{Fs Fs' Fs1:Fps}{η η' η1:Env}{G G' R F:Fp}
structure Wk (K:Ly)(J:It)(Z:Fp)(H0:Hp)(ts:U (U W)):Prop where
 go:∀H i,Stay Z H0 H->i<ts.length->J.go i H
 stop:∀H i,Stay Z H0 H->ts.length<=i->J.stop i H
 len:ts.length<=LIM
def qF (K:Ly)(a:It)(Z:Fp)(c:Hp)(b:U<|U W):Prop:=
 ∀H i x H',Stay Z c H->i<b.length->a.yld i H x H'->H'=H/\∃w,b[i]?=Y [w]/\Rep K Z H w.1 w.2 x no
def Kz (K:Ly)(a:It)(Z:Fp)(d:Hp)(c:U<|U W):Prop:=
 ∀H i x H',Stay Z d H->i<c.length->a.yld i H x H'->∃p y z u w,x=.ref p/\(∀b o,H b=Y o->H' b=Y o)/\SqT K H' p [y,z]/\c[i]?=Y [u,w]/\Rep K Z H u.1 u.2 y no/\Rep K Z H w.1 w.2 z no
theorem lA (c:∀b o,H b=Y o->H' b=Y o):Stay Z H H':=by
 refine⟨λa o _ e=>c a o e,λa d e=>?_,λa o u e=>c a _ e⟩;rcases e with e|⟨u,e⟩
 .exact .inl (c a _ e)
 .exact .inr ⟨u,c a _ e⟩
theorem iw (b:∀a o,H a=Y o->H' a=Y o):Step Z H G Z H' G:=by
 have c:∀a,H a≠J->H' a≠none:=λa h=>by
  cases e:H a with
  |none=>exact Rm e h
  |some o=>rw[b a o e];simp
 exact⟨λa o h _=>b a o h,λ_ h=>h,λ_ h=>.inl h,λ_ h=>.inl h,c,λz a h=>c a<|z a h⟩
theorem DH {p:Rj}{o:HO}(hp:H p=J):∀b u,H b=Y u->upd H p o b=Y u:=λa u e=>by
 have:a≠p:=λq=>by subst q;rw[hp] at e;cases e
 rw[ah this];exact e
def Yld (K:Ly)(a:It)(Z:Fp)(b:Hp)(c:U<|U W):O->Prop
|1=>qF K a Z b c
|2=>Kz K a Z b c
|_=>RB
def wI (K:Ly)(sl:O->L O)(C:Call)(n:O)(k:Ik)(b:U E):TI:=λσ H R=>∃d Z Fs η e η' c,At K ⟨sl,d⟩ σ Z H Fs η no/\evL C b η=.ok (e,η')/\bO k e=Y c /\
 ∀a Z' H' Fs',At K ⟨sl,d⟩ σ Z' H' Fs' η' no->Step Z H (tot Fs) Z' H' (tot Fs')->Wk K a Z' H' c->Yld K a Z' H' c n->R a H'
theorem At.freeze (A:At K sl σ Z H Fs η G):At K sl σ (λa=>Z a\/G a) H Fs η no:=by
 refine⟨⟨λa b=>⟨λz=>z.elim (A.gd.own a b).1 λq=>A.dis a q b,(A.gd.own a b).2⟩,A.gd.dis,λa h=>h.elim (A.gd.zal a) λq=>?_⟩,λi m t e=>?_,de,λ_ z=>z.elim,A.lk,A.ln⟩
 .obtain ⟨_,c,e⟩:=A.own a q;rw[e];simp
 .obtain ⟨v,r,h⟩:=A.env i m t e;exact⟨v,r.zmono λa h=>.inl h,h⟩
theorem a9 (o:Own Z' H' G)(s:Step Z H F Z' H' λa=>F' a\/G a):Step Z H F (λa=>Z' a\/G a) H' F' where
 keep:=s.keep
 zm:=λa h=>.inl<|s.zm a h
 zn:=λa h=>h.elim (s.zn a) λq=>.inr<|s.fn a<|.inr q
 fn:=λa h=>s.fn a<|.inl h
 al:=s.al
 za:=λz a h=>h.elim (s.za z a) λq=>by obtain⟨_,b,e⟩:=o a q;rw[e];simp
theorem kH {a:Rj}{c:U V}{b:Hp}(s:Stay Z b H)(d:Z a)(h:b a=Y (.lst c)):SqL K H a c:=.inl<|.inl<|s.1 a _ d h
theorem zE {a:Rj}{c:U V}{b:U T}(k:c.length<=LIM)(f:Z a)(h:H a=Y (.lst c))(r:RepL K Z H .s b c no):Wk K (Itl K a) Z H (b.map λt=>[(.s,t)])/\qF K (Itl K a) Z H (b.map λt=>[(.s,t)]):=by
 have l:=r.length;refine⟨⟨λH' i s d=>?_,λH' i s d=>?_,by rw[LB];lia⟩,λH' i x g s d y=>?_⟩
 .rw [LB] at d;exact⟨c,c[i]'(by lia),kH s f h,by simp⟩
 .rw [LB] at d;exact⟨c,kH s f h,by lia⟩
 .rw [LB] at d;obtain⟨rfl,y⟩:=y;have hx:=y c<|kH s f h;obtain⟨m,e,j⟩:=r.get (show b[i]?=Y b[i] by simp);rw[hx] at e;cases e;refine⟨rfl,(.s,b[i]),by rw[Mr,show b[i]?=Y b[i] by simp];rfl,j.keep s (λ_ z=>z) λ_ _ z=>z.elim⟩
theorem D4 {a:Rj}{c:U V}{b:U T}(j:c.length<=LIM)(h:SqT K H a c)(r:RepL K Z H .s b c no):Wk K (Itt K a) Z H (b.map λt=>[(.s,t)])/\qF K (Itt K a) Z H (b.map λt=>[(.s,t)]):=by
 have k:=r.length;refine⟨⟨λH' i s d=>?_,λH' i s d=>?_,by rw[LB];lia⟩,λH' i x f s d y=>?_⟩
 .rw [LB] at d;exact⟨c,c[i]'(by lia),s.sqt h,by simp⟩
 .rw [LB] at d;exact⟨c,s.sqt h,by lia⟩
 .rw [LB] at d;obtain⟨rfl,y⟩:=y;have hx:=y c<|s.sqt h;obtain⟨l,e,g⟩:=r.get (show b[i]?=Y b[i] by simp);rw[hx] at e;cases e;refine⟨rfl,(.s,b[i]),by rw[Mr,show b[i]?=Y b[i] by simp];rfl,g.keep s (λ_ z=>z) λ_ _ z=>z.elim⟩
theorem vC {lo:I}{n:O}(c:n<=LIM):Wk K (Itr lo n) Z H ((L4 n).map λ(k:O)=>[(.d,.int<|lo+k)])/\qF K (Itr lo n) Z H ((L4 n).map λ(k:O)=>[(.d,.int<|lo+k)]):=by refine⟨⟨λH' i s a=>by show i<n;simpa using a,λH' i s a=>by show n<=i;simpa using a,by simpa using c⟩,λH' i x b s a y=>?_⟩;obtain⟨rfl,rfl⟩:=y;refine⟨rfl,(.d,.int<|lo+i),?_,rfl⟩;rw[LB,Nd] at a;rw[Mr,Pr a];rfl
theorem nB {a:Rj}{c:U I}{b:Hp}(s:Stay Z b H)(h:ScrR K b a c):SqL K H a (c.map V.int):=(h.keep s.2.2).sq
theorem Ci {a:Rj}{b:U I}(f:b.length<=LIM)(h:ScrR K H a b):Wk K (Itl K a) Z H (b.map λn=>[(.d,.int n)])/\qF K (Itl K a) Z H (b.map λn=>[(.d,.int n)]):=by
 refine⟨⟨λH' i s c=>?_,λH' i s c=>?_,by rw[LB];exact f⟩,λH' i x e s c y=>?_⟩
 .rw [LB] at c;exact⟨_,(b.map V.int)[i]'(by rw[LB];exact c),nB s h,by simp⟩
 .rw [LB] at c;exact⟨_,nB s h,by rw[LB];exact c⟩
 .rw [LB] at c;obtain⟨rfl,y⟩:=y;have hx:=y _<|nB s h;refine⟨rfl,(.d,.int b[i]),by rw[Mr,show b[i]?=Y b[i] by simp];rfl,?_⟩;rw[Mr,show b[i]?=Y b[i] by simp] at hx;exact(Mf hx).symm
theorem CM {e:E}(σ:L2.St)(H:Hp)(R:It->Hp->Prop)(h:wI K sf C 1 .seq [e] σ H R):BC K (wE K sf C e) σ H R\/DG K (wE K sf C e) σ H R:=by
 obtain⟨g,Z,Fs,η,w,η',t,A,ev,f,k⟩:=h;obtain⟨⟨m,a⟩,η1,u,e1,e2,rfl⟩:=aE ev;cases e2;cases a with
 |lst i=>cases f;refine .inl ⟨g,Z,Fs,η,_,_,A,e1,λv Z' H' Fs' G b r s=>?_⟩;obtain⟨a,j,rfl,l,q,p⟩:=Rep.sh r;obtain⟨c,d⟩:=zE l q.1 q.2 p.sany;exact⟨a,rfl,⟨j,.inl<|.inl q.2⟩,k _ _ H' Fs' b.freeze (a9 b.own s) c d⟩
 |tup i=>cases f;refine .inr ⟨g,Z,Fs,η,_,_,A,e1,λv Z' H' Fs' G b r s=>?_⟩;obtain⟨a,j,rfl,q,l,p⟩:=Rep.sh r;obtain⟨c,d⟩:=D4 l q p.sany;exact⟨a,rfl,⟨j,q⟩,k _ _ H' Fs' b.freeze (a9 b.own s) c d⟩
 |scr o=>cases f;refine .inl ⟨g,Z,Fs,η,_,_,A,e1,λv Z' H' Fs' G b r s=>?_⟩;obtain⟨a,rfl,n,q⟩:=r;obtain⟨c,d⟩:=Ci (Z:=λa=>Z' a\/G a) n q;exact⟨a,rfl,⟨_,q.sq⟩,k _ _ H' Fs' b.freeze (a9 b.own s) c d⟩
 |_=>cases f
theorem p62:(2:I) ^ 62=4611686018427387904:=by decide
theorem zO {e:E}(σ:L2.St)(H:Hp)(R:It->Hp->Prop)(h:wI K sf C 1 .rng [e] σ H R):BJ (wL K sf C [e]) σ H R:=by
 obtain⟨j,Z,Fs,η,l,η',o,A,ev,c,k⟩:=h;refine⟨j,Z,Fs,η,l,η',A,ev,λt Z' H' Fs' G b r s=>?_⟩;obtain⟨⟨m,a⟩,η1,p,e1,e2,rfl⟩:=aE ev;cases e2;obtain⟨x,rfl,r1⟩:=bc rfl r;cases a with
 | int n =>
  rw[vU] at c;split at c
  .rename_i d;rw[LQ,Ru] at d;cases c;refine⟨n,by rw[show x=_ from r1],by rw[p62];lia,by rw[p62];lia,?_⟩;obtain⟨f,g⟩:=vC (K:=K) (Z:=λa=>Z' a\/G a) (H:=H') (lo:=0) (n:=n.toNat) (cZ d.2);have i:∀k:O,(0:I)+(k:I)=k:=λk=>by lia
   simp only[i] at f g;exact k _ _ H' Fs' b.freeze (a9 b.own s) f g
  .cases c
 |_=>cases c
theorem AF {e l:E}(σ:L2.St)(H:Hp)(R:It->Hp->Prop)(h:wI K sf C 1 .rng [e,l] σ H R):B5 (wL K sf C [e,l]) σ H R:=by
 obtain⟨u,Z,Fs,η,M,η',v,A,ev,g,k⟩:=h;refine⟨u,Z,Fs,η,M,η',A,ev,λp Z' H' Fs' G c r s=>?_⟩;obtain⟨⟨m,a⟩,η1,w,e1,e2,rfl⟩:=aE ev;obtain⟨⟨n,b⟩,N,w,e3,t,rfl⟩:=aE e2;cases t;obtain⟨x,y,hx⟩:∃x y,p=[x,y]:=eV (x:=()) (y:=())<|show p.length=[(),()].length from r.length;subst hx;obtain⟨P,Q,_,_,_,r1,r2⟩:=cS r;cases a with
 | int i =>
  cases b with
  | int j =>
   have f:(if decide (i.natAbs<4611686018427387904)&&decide (j.natAbs<4611686018427387904)&&fits (j-i).toNat then Y ((L4 (j-i).toNat).map λ(k:O)=>[((.d,.int (i+k)):W)]) else J)=Y v:=g;split at f
   .rename_i o;rw[LQ,LQ,Ru,Ru] at o;cases f;refine⟨i,j,by rw[show x=_ from r1,show y=_ from r2],by rw[p62];lia,?_⟩;obtain⟨z,D⟩:=vC (K:=K) (Z:=λa=>Z' a\/G a) (H:=H') (lo:=i) (n:=(j-i).toNat)<|cZ o.2;exact k _ _ H' Fs' c.freeze (a9 c.own s) z D
   .cases f
  |_=>cases g
 |_=>cases b<;>cases g
theorem jl {m:Md}:∀{ts:U T} {n i:O} {t:T},ts[i]?=Y t->(eL m n ts)[i]?=Y [(.d,.int ((n+i:O):I)),(m,t)]
|t::ts,n,0,_,h=>by cases h;rfl
|t::ts,n,i+1,_,h=>by have:=jl (m:=m) (ts:=ts) (n:=n+1) (i:=i) h;rw[show n+1+i=n+(i+1) by lia] at this;exact this
|[],_,_,_,h=>by simp at h
theorem dz {m:Md}:∀{a:U T} {n:O},(eL m n a).length=a.length
|[],_=>rfl
|t::a,n=>by show(eL m (n+1) a).length+1=a.length+1;rw[dz]
theorem ia:∀{ts:U T} {ps:U<|U W} {i:O} {t:T},pairsT ts=Y ps->ts[i]?=Y t->∃x y,t=.tup [x,y]/\ps[i]?=Y [(.s,x),(.s,y)]
|[],_,_,_,_,h=>by simp at h
| u::ts,ps,i,t,e,h=>by
 match u,e with
 | .tup [x,y],e =>
  have a:(pairsT ts).map ([(.s,x),(.s,y)]::·)=Y ps:=e;cases e1:pairsT ts with
  |none=>rw[e1] at a;cases a
  |some b=>
   rw[e1] at a;cases a;cases i with
   |zero=>cases h;exact⟨x,y,rfl,rfl⟩
   |succ i=>exact ia (ts:=ts) (ps:=b) (i:=i) e1 h
theorem hV:∀{a:U T} {ps:U<|U W},pairsT a=Y ps->ps.length=a.length
|[],_,e=>by cases e;rfl
| u::a,ps,e=>by
 match u,e with
 | .tup [x,y],e =>
  have b:(pairsT a).map ([(.s,x),(.s,y)]::·)=Y ps:=e;cases e1:pairsT a with
  |none=>rw[e1] at b;cases b
  |some c=>rw[e1] at b;cases b;rw[LG,LG,hV e1]
end
section
variable {K:Ly}{sl:Cf}{sf sg:O->L O}{C:Call}{σ σ2:L2.St}{Z Z' Z1:Fp}{H H' H1:Hp}{Fs Fs' Fs1:Fps}{η η' η1:Env}{G G' R F:Fp}{tg is:U O}{pv val:O->L V}
theorem aL:∀(tg:U O) (η:Env) (i:O),rd (aw tg η) i=if i∈tg then J else rd η i
|[],η,i=>by simp[aw]
| t::tg,η,i=>by
 show rd (aw tg<|wr η t J) i=_;rw[aL tg,bQ];by_cases a:i∈tg
 .simp[a]
 .by_cases b:i=t
  .subst b;rw[Rn a,Rk LI];split
   .rfl
   .rename_i c;cases e:rd η i with
    |none=>rfl
    |some w=>exact Rm ⟨rfl,eN e⟩ c
  .rw[Rn a,Rn (show¬i∈t::tg by simp[a,b]),Rn<|show¬(i=t/\t < η.length) fromλh=>b h.1]
def Nn (η η':Env):Prop:=∀i,rd η i=J->rd η' i=J
theorem Nn.refl (η:Env):Nn η η:=λ_ h=>h
theorem Nn.trans {a b c:Env}(h:Nn a b)(k:Nn b c):Nn a c:=λi e=>k i<|h i e
theorem jO (η:Env)(j:O):Nn η (del η j):=λi e=>by
 rw[bQ];split
 .rfl
 .exact e
theorem E7 {η:Env}{j:O}{w:W}(h:rd η j≠J):Nn η (put η j w):=λi e=>by
 rw[bQ];split
 .rename_i a;rw[<- a.1] at h;exact Rm e h
 .exact e
theorem fX:∀{is:U O} {b:U W} {a η:Env},(∀i∈is,rd a i≠J)->Nn a η->Nn a (putAll is b η)
|[],_,_,_,_,h=>h
|_::_,[],_,_,_,h=>h
|i::is,w::b,a,η,c,h=>by
 show Nn a<|putAll is b<|put η i w;refine fX (λj f=>c j<|LO _ f) λj e=>?_;rw[bQ];split
 .rename_i d;rw[d.1] at e;exact Rm e<|c i LI
 .exact h j e
theorem gR {f:Env->Res (L W×Env)}(l:∀{η o η'},f η=.ok (o,η')->Nn η η'):∀{g:U<|U W} {η η':Env} {a k:U W},(∀i∈tg,rd η i=J)->aH tg f g η a=.ok (k,η')->Nn η η'
|[],η,η',a,k,_,h=>by cases h;exact Nn.refl _
| t::g,η,η',a,k,x,h=>by
 obtain⟨η1,m,n⟩:=ae<|show(ofO<|bC tg t η).bind (λη1=>(f η1).bind λp=>aH tg f g (aw tg p.2)<|a++p.1.toList)=_ from h;obtain⟨⟨o,d⟩,r,s⟩:=ae n
 have u:∀{tg:U O} {t:U W} {η η1:Env},bC tg t η=Y η1->∀i,i ∉ tg->rd η1 i=rd η i:=λ{tg}=>by
  induction tg with
  |nil=>intro t η η1 h i c;cases t with
   |nil=>cases h;rfl
   |cons _ _=>cases h
  | cons j tg v=>intro t η η1 h i c; cases t with
   |nil=>cases h
   |cons w t=>have:=v (show bC tg t (put η j w)=Y η1 from h) i λz=>c<|LO _ z;rw[this,bQ,Rn λz=>c<|by rw[z.1];exact LI]
 have e1:=u<|cX m
 have hd:∀i,rd η i=J->rd (aw tg d) i=none:=λi e=>by
  rw[aL];split
  .rfl
  .rename_i c;exact l r i<|by rw[e1 i c];exact e
 exact Nn.trans (b:=aw tg d) hd<|gR l (λi c=>by rw[aL,Rk c]) s
def jA (sf sg:O->L O)(tg:U O)(is:U O):Prop:=
 ∀i j,sg i=Y j->(∃k:O,tg[k]?=Y i/\j=k)\/(i ∉ tg/\∃(k a:O),j=tg.length+k/\is[k]?=Y a/\sf i=Y a)
theorem At.pin (A:At K ⟨sf,pv⟩ σ Z H Fs η G):∃val,(∀i u,pv i=Y u->val i=Y u)/\At K ⟨sf,val⟩ σ Z H Fs η G/\∀i m t,rd η i=Y (m,t)->val i≠none:=by
 have ch:∀i,∃o:L V,(∀u,pv i=Y u->o=Y u)/\(∀u j,o=Y u->sf i=Y j->σ[j]?=Y (Y u))/\∀m t,rd η i=Y (m,t)->∃v,o=Y v/\Rep K Z H m t v (Fs i)/\(∀j,sf i=Y j->σ[j]?=Y (Y v)):=λi=>by
  cases e:rd η i with
  |none=>exact⟨pv i,λ_ h=>h,λu j h c=>A.lk i u j h c,λ_ _ h=>by cases h⟩
  |some w=>obtain⟨m,t⟩:=w;obtain⟨v,r,b,d⟩:=A.env i m t e;refine⟨Y v,λu h=>by rw[d u h],λu j h c=>?_,λg k h=>by cases h;exact⟨v,rfl,r,b⟩⟩;cases h;exact b j c
 obtain⟨val,a⟩:=Classical.axiomOfChoice ch;refine⟨val,λi u h=>(a i).1 u h,⟨A.gd,λi m t e=>?_,A.own,A.dis,λi u j h c=>(a i).2.1 u j h c,A.ln⟩,λi m t e=>?_⟩
 .obtain ⟨v,b,r,d⟩:=(a i).2.2 m t e;exact⟨v,r,d,λu f=>by rw[show val i=Y u from f] at b;cases b;rfl⟩
 .obtain ⟨v,b,r,d⟩:=(a i).2.2 m t e;rw[b];simp
theorem At.unpin (h:∀i u,pv i=Y u->val i=Y u)(A:At K ⟨sf,val⟩ σ Z H Fs η G):At K ⟨sf,pv⟩ σ Z H Fs η G:=
 ⟨A.gd,λi m t e=>let ⟨v,r,b,c⟩:=A.env i m t e;⟨v,r,b,λu a=>c u<|h i u a⟩,A.own,A.dis,λi u j a d=>A.lk i u j (h i u a) d,A.ln⟩
noncomputable def inV (val:O->L V)(tg:U O):O->L V:=λi=>if i∈tg then J else val i
theorem At.into (a:jA sf sg tg is)(x:∀i∈tg,rd η i=J)(l:∀(k c:O) (v:V),is[k]?=Y c->σ[c]?=Y (Y v)->σ2[tg.length+k]?=Y (Y v))(w:∀i j,sg i=Y j->j < σ2.length)(A:At K ⟨sf,val⟩ σ Z H Fs η G):At K ⟨sg,inV val tg⟩ σ2 Z H Fs η G:=by
 refine⟨A.gd,λi m t e=>?_,A.own,A.dis,λi u j n g=>?_,w⟩
 .have f:i ∉ tg:=fun h=>by rw [x i h] at e; cases e
  obtain⟨v,r,o,p⟩:=A.env i m t e;refine⟨v,r,λj s=>?_,λu n=>p u (by have d:inV val tg i=Y u:=n;unfold inV at d;rw[Rn f] at d;exact d)⟩;rcases a i j s with⟨k,hk,_⟩|⟨_,k,c,rfl,hk,g⟩
  .exact Rm (NA hk) f
  .exact l k c v hk (o c g)
 .have f:i ∉ tg:=fun h=>by have b:inV val tg i=Y u:=n;unfold inV at b;rw[Rk h] at b;cases b
  have b:val i=Y u:=by have d:inV val tg i=Y u:=n;unfold inV at d;rw[Rn f] at d;exact d
  rcases a i j g with⟨k,hk,_⟩|⟨_,k,c,rfl,hk,g⟩
  .exact Rm (NA hk) f
  .exact l k c u hk (A.lk i u c b g)
theorem At.outof (g:∀i∈tg,rd η i=J)(k:∀i m t,rd η i=Y (m,t)->val i≠J)(lk:∀i u j,val i=Y u->sf i=Y j->σ[j]?=Y (Y u))(l:∀i j,sf i=Y j->j < σ.length)(A:At K ⟨sg,inV val tg⟩ σ2 Z H Fs η G):At K ⟨sf,val⟩ σ Z H Fs η G:=by
 refine⟨A.gd,λi m t e=>?_,A.own,A.dis,lk,l⟩;have d:i ∉ tg:=λh=>by rw[g i h] at e;cases e
 obtain⟨v,r,o,c⟩:=A.env i m t e;cases a:val i with
 |none=>exact Rm a<|k i m t e
 |some u=>have:v=u:=c u (by show inV val tg i=Y u;unfold inV;rw[Rn d];exact a);subst this;exact⟨v,r,λj f=>lk i v j a f,λn b=>by rw[show val i=Y n from b] at a;cases a;rfl⟩
end
section
variable {C:Call}
theorem iD:∀(c:U O) (a:Env),Nn a<|M.share c a
|[],a=>λ_ e=>e
| v::c,a=>Nn.trans (b:=wr a v (toS (rd a v))) (fun i e=>by
  rw[bQ];split
  .rename_i d;rw[<- d.1,e];rfl
  .exact e) (iD c _)
theorem uA (m:Md)(b:U O)(a:Env):Nn a (after m b a):=by
 cases m with
 |d=>exactλ_ e=>e
 |s=>exact iD b a
 |o _=>exact iD b a
theorem l6 {b:Type}{tab:U<|Str×b}{f:b->Env->RE}{p:W×Env}{r:W×Env}(h:kTab tab f p=.ok r):∃x a,p.1.2=.str x/\tab.lookup x=Y a/\f a p.2=.ok r:=by
 unfold kTab at h;split at h
 .rename_i x hx;split at h
  .rename_i a c;exact⟨x,a,hx,c,h⟩
  .cases h
 .cases h
theorem jI {a:Rl}{b:U Str}{p r:W×Env}(h:kIn a b p=.ok r):∃x,p.1.2=.str x/\r.2=p.2/\r.1=(.d,.bl<|b.contains x != a):=by
 unfold kIn at h;split at h
 .rename_i x hx;cases h;exact⟨x,hx,rfl,rfl⟩
 .cases h
theorem mH {tab:U<|Str×T}{p r:W×Env}(h:kGet tab p=.ok r):∃x,p.1.2=.str x/\r.2=p.2/\r.1=(.s,(tab.lookup x).getD .non):=by
 unfold kGet at h;split at h
 .rename_i x hx;cases h;exact⟨x,hx,rfl,rfl⟩
 .cases h
mutual
theorem aG:∀(e:E) {η η':Env} {w:W},evE C e η=.ok (w,η')->Nn η η'
|.var i,η,η',w,h=>by obtain⟨_,_,e⟩:=aq<|show ret η ((rd η i).bind look)=_ from h;cases e;exact Nn.refl _
|.mv i,η,η',w,h=>by obtain⟨_,_,e⟩:=aq<|show ret (del η i) (rd η i)=_ from h;cases e;exact jO _ _
|.io i,η,η',w,h=>by obtain⟨_,_,e⟩:=aq<|show ret (del η i) (rd η i)=_ from h;cases e;exact jO _ _
|.cst t,η,η',w,h=>by cases h;exact Nn.refl _
|.glb _ t,η,η',w,h=>by cases h;exact Nn.refl _
|.tup es,η,η',w,h=>by obtain⟨⟨ws,η1⟩,h1,h2⟩:=ae<|show(evL C es η).bind uT=_ from h;cases h2;exact eR es h1
|.lst b es,η,η',w,h=>by obtain⟨⟨ws,η1⟩,h1,h2⟩:=ae<|show(evL C es η).bind (wK b)=_ from h;cases h2;exact eR es h1
|.op o b es,η,η',w,h=>by obtain⟨ws,h1,h2⟩:=dX h;exact eR es h1
|.and a b,η,η',w,h=>by
 obtain⟨⟨u,η1⟩,h1,h2⟩:=ae<|show(evE C a η).bind (rC<|evE C b)=_ from h;obtain⟨d,h3,h4⟩:=cW<|show onT (evE C b) (okW u) (u,η1)=_ from h2;cases d with
 |true=>rw[Rk rfl] at h4;exact(aG a h1).trans<|aG b h4
 |false=>rw[Rn LX] at h4;cases h4;exact aG a h1
|.or a b,η,η',w,h=>by
 obtain⟨⟨u,η1⟩,h1,h2⟩:=ae<|show(evE C a η).bind (kOr<|evE C b)=_ from h;obtain⟨d,h3,h4⟩:=cW<|show onT (okW u) (evE C b) (u,η1)=_ from h2;cases d with
 |false=>rw[Rn LX] at h4;exact(aG a h1).trans<|aG b h4
 |true=>rw[Rk rfl] at h4;cases h4;exact aG a h1
|.not a,η,η',w,h=>by obtain⟨⟨u,η1⟩,h1,h2⟩:=ae<|show(evE C a η).bind wR=_ from h;obtain⟨_,_,e3⟩:=aq<|show ret η1 _=_ from h2;cases e3;exact aG a h1
|.ifx c a b,η,η',w,h=>by
 obtain⟨⟨u,η1⟩,h1,h2⟩:=ae<|show(evE C c η).bind (onT (evE C a)<|evE C b)=_ from h;obtain⟨d,h3,h4⟩:=cW h2;cases d with
 |true=>rw[Rk rfl] at h4;exact(aG c h1).trans<|aG a h4
 |false=>rw[Rn LX] at h4;exact(aG c h1).trans<|aG b h4
| .chain o q a b c,η,η',w,h=>by
 obtain⟨⟨x,η1⟩,h1,h2⟩:=ae<|show(evE C a η).bind (kC1 o q (evE C b)<|evE C c)=_ from h;obtain⟨⟨y,η2⟩,h3,h4⟩:=ae<|show(evE C b η1).bind (kC2 o q (evE C c) x)=_ from h2;obtain⟨⟨k,η3⟩,h5,h6⟩:=ae<|show(ret η2<|oSem o Lv [x,y]).bind (λk=>onB k.1.2 (then' (evE C c)<|kC3 q y) (okW (.d,.bl Lv)) k.2)=_ from h4;obtain⟨k',_,e5⟩:=aq h5;have e6:η3=η2:=Rw M7 e5;have n2:=(aG a h1).trans<|aG b h3;have h6':onB k.2 (then' (evE C c) (kC3 q y)) (okW (.d,.bl Lv)) η2=.ok (w,η'):=by rw[<- e6];exact h6
 generalize k.2=kk at h6';cases kk with
 | bl b =>
  cases b with
  |true=>obtain⟨⟨z,η4⟩,h7,h8⟩:=ae<|show(evE C c η2).bind (kC3 q y)=_ from h6';obtain⟨z',_,e8⟩:=aq<|show ret η4 (oSem q Lv [y,z])=_ from h8;have e9:η'=η4:=Rw M7 e8;rw[e9];exact n2.trans<|aG c h7
  |false=>cases h6';exact n2
 |_=>cases h6'
|.call f es,η,η',w,h=>by obtain⟨⟨ws,η1⟩,h1,h2⟩:=ae<|show(evA C es η).bind (kCall C f<|ios es)=_ from h;obtain⟨⟨u,us⟩,h3,h4⟩:=ae<|show(C f ws).bind (kBack (ios es) η1)=_ from h2;cases h4;exact fX (jW es h1)<|ib es h1
|.comp b k src tg J elt,η,η',w,h=>by obtain⟨⟨ws,η1⟩,h1,h2⟩:=ae<|show(evL C src η).bind (fK b k tg<|dS<|evE C elt)=_ from h;obtain⟨⟨ts,η2⟩,h3,h4⟩:=ae<|show(ret (aw tg η1)<|bO k ws).bind (λt=>(aH tg (dS<|evE C elt) t.1 t.2 []).bind<|ll b)=_ from h2;obtain⟨_,_,e3⟩:=aq h3;have e4:η2=aw tg η1:=Rw M7 e3;subst e4;obtain⟨⟨us,η3⟩,h5,h6⟩:=ae<|show(aH tg (dS<|evE C elt) ts (aw tg η1) []).bind (ll b)=_ from h4;obtain⟨_,_,e6⟩:=aq<|show ret η3 _=_ from h6;have e7:η'=η3:=Rw M7 e6;subst e7;refine(eR src h1).trans<|Nn.trans (b:=aw tg η1) (λi e=>by rw[aL];split<;>first|rfl|exact e)<|gR (λ{η o η'} hf=>?_) (λi hi=>by rw[aL,Rk hi]) h5;obtain⟨⟨u,η4⟩,h7,h8⟩:=ae<|show(evE C elt η).bind ju=_ from hf;cases h8;exact aG elt h7
| .comp b k src tg (Y c) elt,η,η',w,h=>by
 obtain⟨⟨ws,η1⟩,h1,h2⟩:=ae<|show(evL C src η).bind (fK b k tg<|vL (evE C c)<|evE C elt)=_ from h;obtain⟨⟨ts,η2⟩,h3,h4⟩:=ae<|show(ret (aw tg η1)<|bO k ws).bind (λt=>(aH tg (vL (evE C c)<|evE C elt) t.1 t.2 []).bind<|ll b)=_ from h2;obtain⟨_,_,e3⟩:=aq h3;have e4:η2=aw tg η1:=Rw M7 e3;subst e4;obtain⟨⟨us,η3⟩,h5,h6⟩:=ae<|show(aH tg (vL (evE C c)<|evE C elt) ts (aw tg η1) []).bind (ll b)=_ from h4;obtain⟨_,_,e6⟩:=aq<|show ret η3 _=_ from h6;have e7:η'=η3:=Rw M7 e6;subst e7;refine(eR src h1).trans<|Nn.trans (b:=aw tg η1) (λi e=>by rw[aL];split<;>first|rfl|exact e)<|gR (λ{η o η'} hf=>?_) (λi hi=>by rw[aL,Rk hi]) h5;obtain⟨⟨u,η4⟩,h7,h8⟩:=ae<|show(evE C c η).bind (onT (dS<|evE C elt)<|okW J)=_ from hf;obtain⟨d,h9,h10⟩:=cW h8;cases d with
 |true=>rw[Rk rfl] at h10;obtain⟨⟨u2,η5⟩,h11,h12⟩:=ae<|show(evE C elt η4).bind ju=_ from h10;cases h12;exact(aG c h7).trans<|aG elt h11
 |false=>rw[Rn LX] at h10;cases h10;exact aG c h7
|.pop i es,η,η',w,h=>by obtain⟨_,_,h0⟩:=ae<|show(fT<|rd η i).bind (k9 (evL C es) η<|qQ i)=_ from h;obtain⟨⟨ws,η1⟩,h1,h2⟩:=ae<|show(evL C es η).bind (qQ i)=_ from h0;obtain⟨r,h3,h4⟩:=ae<|show(ofO<|(rd η1 i).bind λw=>jS w ws).bind (λr=>.ok (r.1,put η1 i r.2))=_ from h2;cases h4;refine(eR es h1).trans<|E7 ?_;have:=cX h3;intro e;rw[e] at this;cases this
|.lenV i,η,η',w,h=>by obtain⟨_,_,e⟩:=aq<|show ret η ((rd η i).bind λw=>oSem .len Lv [w])=_ from h;cases e;exact Nn.refl _
|.qx vs ls e,η,η',w,h=>by obtain⟨⟨u,η1⟩,h1,h2⟩:=ae<|show(evE C e<|pick vs ls η).bind (kX vs η)=_ from h;cases h2;exact uA _ vs η
|.attV i fld,η,η',w,h=>by obtain⟨_,_,e2⟩:=aq<|show ret η (attVT fld<|rd η i)=_ from h;cases e2;exactλ_ e=>e
|.meth c f i,η,η',w,h=>by obtain⟨u,h1,h2⟩:=ae<|show(ofO<|methT c<|rd η i).bind (kMeth C f i η)=_ from h;obtain⟨⟨r,bs⟩,h3,h4⟩:=ae<|show(C f [u]).bind (kBack [i]<|del η i)=_ from h2;cases h4;refine fX (λj hj e=>?_)<|jO _ _;obtain rfl:j=i:=LR.mp hj;have h6:=cX h1;rw[e] at h6;cases h6
|.inT neg ks e,η,η',w,h=>by obtain⟨⟨u,η1⟩,h1,h2⟩:=ae<|show(evE C e η).bind (kIn neg ks)=_ from h;obtain⟨x,_,e2,_⟩:=jI h2;cases e2;exact aG e h1
|.ixT tab e,η,η',w,h=>by obtain⟨⟨u,η1⟩,h1,h2⟩:=ae<|show(evE C e η).bind (kTab tab okS)=_ from h;obtain⟨x,j,_,_,h3⟩:=l6 h2;cases h3;exact aG e h1
|.getT tab e,η,η',w,h=>by obtain⟨⟨u,η1⟩,h1,h2⟩:=ae<|show(evE C e η).bind (kGet tab)=_ from h;obtain⟨x,_,e2,_⟩:=mH h2;cases e2;exact aG e h1
theorem eR:∀(es:U E) {η η':Env} {ws:U W},evL C es η=.ok (ws,η')->Nn η η'
|[],η,η',ws,h=>by cases h;exact Nn.refl _
|e::es,η,η',ws,h=>by obtain⟨w,η1,us,h1,h2,_⟩:=aE h;exact(aG e h1).trans<|eR es h2
theorem ib:∀(es:U E) {η η':Env} {ws:U W},evA C es η=.ok (ws,η')->Nn η η'
|[],η,η',ws,h=>by cases h;exact Nn.refl _
| e::es,η,η',ws,h=>by
 rcases Hd e with⟨i,hi⟩|he
 .subst hi;obtain⟨us,η1,w,h1,_,_,h4⟩:=j8 h;rw[h4];exact(ib es h1).trans<|jO _ _
 .obtain ⟨w,η1,us,h1,h2,_⟩:=gV he h;exact(aG e h1).trans<|ib es h2
theorem jW:∀(es:U E) {η η':Env} {ws:U W},evA C es η=.ok (ws,η')->∀i∈ios es,rd η i≠J
|[],_,_,_,_,i,hi=>by simp[ios] at hi
| e::es,η,η',ws,h,i,hi=>by
 rcases Hd e with⟨j,hj⟩|he
 .subst hj;obtain⟨us,η1,w,h1,h2,_,_⟩:=j8 h;rcases LK.mp (show i∈j::ios es from hi) with z|z
  .subst z;exactλz=>by rw[ib es h1 i z] at h2;cases h2
  .exact jW es h1 i z
 .obtain ⟨w,η1,us,h1,h2,_⟩:=gV he h
  have hi':i∈ios es:=by
   cases e with
   |io j=>exact Rm rfl (he j)
   |_=>exact hi
  exactλz=>jW es h2 i hi'<|aG e h1 i z
end
end
section
variable {K:Ly}{sl:Cf}{sf sg:O->L O}{C:Call}{σ σ2:L2.St}{Z Z' Z1:Fp}{H H' H1:Hp}{Fs Fs' Fs1:Fps}{η η' η1 ηb:Env}{G G' R F:Fp}{tg is:U O}{pv val:O->L V}
def gT (K:Ly):O->TG
|1=>dZ 0
|2=>Eu K 2<|lS (dZ 0)<|lS (dZ 1) D5
|_=>λ_ _ _ _=>RB
theorem At.put1 {i:O}{w:W}{x:V}(A:At K sl σ Z H Fs η G)(r:Rep K Z H w.1 w.2 x<|Fs i)(c:∀j,sl.sl i=Y j->σ[j]?=Y (Y x))(hp:sl.pv i=J):At K sl σ Z H Fs (put η i w) G:=by
 refine⟨A.gd,λj m t e=>?_,A.own,A.dis,A.lk,A.ln⟩;rw[bQ] at e;split at e
 .rename_i b;cases e;obtain⟨rfl,_⟩:=b;exact⟨x,r,c,λu a=>by rw[hp] at a;cases a⟩
 .exact A.env j m t e
theorem lh {k a:O}{v:V}(b:is[k]?=Y a)(c:σ[a]?=Y (Y v)):(da σ is)[k]?=Y (Y v):=by unfold da;rw[Mr,b];show Y ((σ[a]?).join)=_;rw[c];rfl
theorem jh (a:jA sf sg tg is)(h:σ2.length=tg.length+is.length):∀i j,sg i=Y j->j < σ2.length:=λi j b=>by
 rcases a i j b with⟨k,hk,rfl⟩|⟨_,k,c,rfl,hk,_⟩
 .have:=(Mo.mp hk).1;lia
 .have:=(Mo.mp hk).1;lia
theorem rk {n i:O}{d:It}{ts:U<|U W}{ws:U W}{x:V}{Q:L2.St->Hp->Prop}(hn:tg.length=n)(nd:tg.Nodup)(c:jA sf sg tg is)(hz:∀a,Z1 a->Z a)(st:Stay Z1 H1 H)(o:Yld K d Z1 H1 ts n)(A:At K ⟨sf,val⟩ σ Z H Fs η G)
  (ht:∀i∈tg,rd η i=J) (hw:ts[i]?=Y ws) (hb:bC tg ws η=Y ηb) (y:d.yld i H x H')
  (k:∀σ2 M,At K ⟨sg,inV val tg⟩ σ2 Z M Fs ηb G->Step Z H no Z M no->(σ2.length=n+(da σ is).length/\σ2.drop n=da σ is)->Q σ2 M):gT K n x (LU n J++da σ is) H' Q:=by
 have hi:i<ts.length:=(Mo.mp hw).1;have g:∀{t:O},t∈tg->inV val tg t=none:=λ{t} h=>Rk h
 match n,o with
 | 1,o =>
  obtain⟨e0,w,f,r⟩:=o H i x H' st hi y;rw[e0];rw[hw] at f;cases f
  match tg,hn with
  | [t],_ =>
   cases hb;have r':Rep K Z H w.1 w.2 x (Fs t):=(r.zmono hz).mono λ_ z=>z.elim;refine k _ H ?_ (Step.refl _ _ _) ⟨by simp[OW],rfl⟩;refine(A.into (σ2:=Y x::da σ is) c ht (λk j0 v N P=>?_)<|jh c<|by simp[da,OW]).put1 r' (λj l=>?_)<|g<|by simp
   .rw[L0,OW,MH];exact lh N P
   .rcases c t j l with ⟨k,hk,rfl⟩ | ⟨h,_⟩
    .cases j with
     |zero=>rfl
     |succ _=>simp at hk
    .exact Rm (LR.mpr rfl) h
 | 2,o =>
  obtain⟨p,y1,z1,u,w,rfl,s,hq,f,r1,r2⟩:=o H i x H' st hi y;rw[hw] at f;cases f
  match tg,hn with
  | [t,D],_ =>
   cases hb;have m:t≠D:=λz=>by simp[z] at nd
   have s1:Step Z H G Z H' G:=iw s;have o1:Own Z H' G:=λa ha=>by obtain⟨nz,ys,e⟩:=A.own a ha;exact⟨nz,ys,s _ _ e⟩
   obtain⟨A1,_⟩:=A.op o1 s1;have sn:Stay Z H H':=lA s;have r1':Rep K Z H' u.1 u.2 y1 (Fs t):=((r1.zmono hz).keep sn (λ_ z=>z) λ_ _ z=>z.elim).mono λ_ z=>z.elim;have r2':Rep K Z H' w.1 w.2 z1 (Fs D):=((r2.zmono hz).keep sn (λ_ z=>z) λ_ _ z=>z.elim).mono λ_ z=>z.elim;have s0:Step Z H no Z H' no:=iw s;refine⟨p,[y1,z1],rfl,hq,rfl,y1,[z1],rfl,z1,[],rfl,rfl,k (Y y1::Y z1::da σ is) _ ?_ s0 ⟨by simp;lia,rfl⟩⟩;refine((A1.into (σ2:=Y y1::Y z1::da σ is) c ht (λk j0 v N P=>?_)<|jh c<|by simp[da];lia).put1 r1' (λj l=>?_)<|g<|by simp).put1 r2' (λj l=>?_)<|g<|by simp
   .rw[show[t,D].length+k=k+1+1 by simp;lia,MH,MH];exact lh N P
   .rcases c t j l with ⟨k,hk,rfl⟩ | ⟨h,_⟩
    .match j,hk with
     |0,_=>rfl
     |1,hk=>exact Rm (Mf hk).symm m
    .exact Rm (by simp) h
   .rcases c D j l with ⟨k,hk,rfl⟩ | ⟨h,_⟩
    .match j,hk with
     |0,hk=>exact Rm (Mf hk) m
     |1,_=>rfl
    .exact Rm (by simp) h
def gp (Fs:Fps)(tg:U O):Fps:=λj a=>j ∉ tg/\Fs j a
theorem dm {a:Rj}(h:tot (gp Fs tg) a):tot Fs a:=let ⟨j,_,b⟩:=h;⟨j,b⟩
theorem At.dels (A:At K sl σ Z H Fs η G):At K sl σ Z H (gp Fs tg) (aw tg η) G:=by
 refine⟨⟨λa h=>A.gd.own a<|dm h,λi j a b c=>A.gd.dis i j a b.2 c.2,A.gd.zal⟩,λi m t e=>?_,A.own,λa h q=>A.dis a h<|dm q,A.lk,A.ln⟩;rw[aL] at e;split at e
 .cases e
 .rename_i f;obtain⟨v,r,h⟩:=A.env i m t e;exact⟨v,r.mono λa d=>⟨f,d⟩,h⟩
theorem gP:∀{tg:U O} {t:U W} {η η1:Env},bC tg t η=Y η1->∀i,i ∉ tg->rd η1 i=rd η i
|[],[],η,η1,h,i,_=>by cases h;rfl
|[],_::_,_,_,h,_,_=>by cases h
|_::_,[],_,_,h,_,_=>by cases h
|j::tg,w::t,η,η1,h,i,a=>by rw[gP (show bC tg t (put η j w)=Y η1 from h) i λz=>a<|LO _ z,bQ,Rn λz=>a<|by rw[z.1];exact LI]
structure CSt (K:Ly)(sf:O->L O)(val:O->L V)(σ:L2.St)(tg:U O)(f:Env->Res (L W×Env))(ts:U (U W))(η0:Env)(us:U W)(η3:Env)(Z1:Fp)(H1:Hp)(F1:Fp)(i:O)(ys:U V)(H:Hp):Prop where
 ex:∃(Z:Fp) (Fs:Fps) (η:Env) (acc:U W) (G:Fp),At K ⟨sf,val⟩ σ Z H Fs η G/\RepW K Z H acc ys G/\aH tg f (ts.drop i) η acc=.ok (us,η3)/\(∀j∈tg,rd η j=J)/\(∀j∈tg,∀a,¬Fs j a)/\Nn η0 η/\Step Z1 H1 F1 Z H (λa=>tot Fs a\/G a)
 len:ys.length<=i
theorem uY {h:Rl}{c:U W}{i:U V}{w:W}{Q:VK}(o:Own Z H G)(t:∀a,Z a->H a≠J)(r:RepW K Z H c i G)(l:i.length<=LIM)(b:(if h then(if c.all okD then Y ((.d,.lst<|trees c):W) else J) else Y (.o .s,.lst<|trees c))=Y w)(k:Out K Z H G w Q):∀p,H p=J->Q (.ref p) (upd H p<|.lst i):=by
 intro p hp;cases h with
 | true =>
  rw[Rk rfl] at b;split at b
  .rename_i j;cases b;rw[MN] at j
   obtain⟨G',e,f⟩:=RepW.to (N:=.d) (λu n=>by
    have:=j u n;unfold okD at this;rw[Qy] at this;unfold M.lf;split
    .rfl
    .rename_i g;rcases this with z|z
     .rw[eq_of_beq z];rfl
     .exact Rm z g) r
   exact cH (m:=.d) o t e l f (by simp) k hp
  .cases b
 |false=>rw[Rn LX] at b;cases b;obtain⟨G',e,f⟩:=RepW.to (N:=.s) (λu n=>by cases M.lf u.1 u.2<;>rfl) r;exact cH (m:=.o .s) o t e l f (by simp) k hp
end
section
variable {K:Ly}{sf sg:O->L O}{C:Call}{tg is:U O}
theorem jx {b:Type}{l:U b}{i:O}{a:b}(h:l[i]?=Y a):l.drop i=a::l.drop (i+1):=by obtain⟨c,d⟩:=Mo.mp h;rw[QI c,d]
theorem xl {h:Rl}{k:Ik}{f:Env->Res (L W×Env)}{p:U W×Env}{w:W}{b:Env}(e:fK h k tg f p=.ok (w,b)):∃c a,bO k p.1=Y c/\aH tg f c (aw tg p.2) []=.ok (a,b)/\(if h then(if a.all okD then Y ((.d,.lst<|trees a):W) else J) else Y (.o .s,.lst<|trees a))=Y w:=by obtain⟨⟨c,j⟩,v,x⟩:=ae<|show(ret (aw tg p.2)<|bO k p.1).bind (λt=>(aH tg f t.1 t.2 []).bind<|ll h)=_ from e;obtain⟨i,A,e3⟩:=aq v;have m:c=i:=Rw Nr e3;have n:j=aw tg p.2:=Rw M7 e3;subst m n;obtain⟨⟨a,g⟩,y,z⟩:=ae<|show(aH tg f c (aw tg p.2) []).bind (ll h)=_ from x;obtain⟨F,D,l⟩:=aq<|show ret g (if h then(if a.all okD then Y ((.d,.lst<|trees a):W) else J) else Y (.o .s,.lst<|trees a))=_ from z;have r:w=F:=Rw Nr l;have u:b=g:=Rw M7 l;subst r u;exact⟨c,a,A,y,D⟩
theorem mN {f:Env->Res (L W×Env)}{t:U W}{j:U<|U W}{k g:Env}{a m:U W}(e:aH tg f (t::j) k a=.ok (m,g)):∃h o i,bC tg t k=Y h/\f h=.ok (o,i)/\aH tg f j (aw tg i) (a++o.toList)=.ok (m,g):=by obtain⟨d,n,r⟩:=ae<|show(ofO<|bC tg t k).bind (λd=>(f d).bind λp=>aH tg f j (aw tg p.2)<|a++p.1.toList)=_ from e;obtain⟨⟨o,l⟩,s,u⟩:=ae r;exact⟨d,o,l,cX n,s,u⟩
theorem pU {n:O}{h:Rl}{k:Ik}{src:U E}{f:Env->Res (L W×Env)}{te:L2.St->Hp->(L V->Hp->Prop)->Prop}(hn:tg.length=n)(nd:tg.Nodup)(d:jA sf sg tg is)
  (hf:∀{P o η'},f P=.ok (o,η')->Nn P η')
  (hte:∀ {val:O->L V} {l:L2.St} {Z:Fp} {H:Hp} {Fs:Fps} {P M:Env} {R:Fp} {o:L W} {Q:L V->Hp->Prop},At K ⟨sg,val⟩ l Z H Fs P R->f P=.ok (o,M) ->
   (∀oy Z' H' Fs' G,At K ⟨sg,val⟩ l Z' H' Fs' M (λc=>R c\/G c)->(match o,oy with|some w,Y y=>Rep K Z' H' w.1 w.2 y G|none,J=>R4|_,_=>RB)->(∀c,R c->¬G c)->Step Z H (tot Fs) Z' H' (λa=>tot Fs' a\/G a)->Q oy H')->te l H Q)
  {e:E} (he:∀P,evE C e P=(evL C src P).bind (fK h k tg f)) (σ:L2.St) (H:Hp) (Q:VK) (hw:wE K sf C e σ H Q):
  wI K sf C n k src σ H λg H1=>∃W:O->O->U V->Hp->Prop,(∃m,W 0 m [] H1)/\∀i m D H,W i m D H ->
   (g.stop i H/\D.length<=sizeLine/\∀p,H p=J->Q (.ref p) (upd H p<|.lst D)) \/
   (g.go i H/\D.length<sizeLine/\∀x H',g.yld i H x H'->gT K n x (LU n J++da σ is) H' λl H2=>(l.length=n+(da σ is).length/\l.drop n=da σ is)/\te l H2 λoy H3=>∃m',m'<m/\W (i+1) m' (D++oy.toList) H3):=by
 obtain⟨pv,Z,Fs,P,w,η',A,ev,kk⟩:=hw;rw[he] at ev;obtain⟨⟨ws,F⟩,h1,h2⟩:=ae ev;obtain⟨N,us,ht,h3,h4⟩:=xl h2;refine⟨pv,Z,Fs,P,ws,F,N,A,h1,ht,λg Z1 H1 Fs1 A1 s1 wk yl=>?_⟩;obtain⟨val,v1,A2,v2⟩:=(A1.dels (tg:=tg)).pin;have s1':Step Z H (tot Fs) Z1 H1 (tot (gp Fs1 tg)):=s1.mono (λ_ z=>z) λ_ z=>dm z;refine⟨λi m D H=>m=N.length-i/\i<=N.length/\CSt K sf val σ tg f N (aw tg F) us η' Z1 H1 (tot<|gp Fs1 tg) i D H,⟨N.length,by simp,Mw _,⟨⟨Z1,gp Fs1 tg,aw tg F,[],no,A2,rfl,h3,λj s=>by rw[aL,Rk s],λj s a v=>v.1 s,Nn.refl _,(Step.refl _ _ _).mono (λ_ z=>z) λa v=>v.elim id λz=>z.elim⟩,LM _⟩⟩,?_⟩;rintro i m D H0 ⟨rfl,hi,⟨⟨Zi,Fsi,ηi,acc,Ga,Ai,ra,hc,htg,hfp,hnn,si⟩,r⟩⟩;have st:Stay Z1 H1 H0:=A2.gd.own.stay si;have hL:=wk.len;by_cases hlt:i<N.length
 .right;refine⟨wk.go H0 i st hlt,N6 (LL r hi) (nu hL),λx H2 y=>?_⟩;have hw:N[i]?=Y N[i]:=by simp[hlt]
  rw[jx hw] at hc;obtain⟨ηb,o,M,hb,hfe,hc2⟩:=mN hc;refine rk hn nd d si.zm st yl Ai htg hw hb y λl H3 A3 s3 hσ=>⟨hσ,?_⟩;refine hte A3 hfe λoy Z4 H4 Fs4 G4 A4 r4 d4 s4=>⟨N.length-(i+1),by lia,rfl,hlt,⟨?_,?_⟩⟩
  .have ra3:RepW K Zi H3 acc D Ga:=ra.frame de s3 fun _ _ z=>z;have ra4:RepW K Z4 H4 acc D Ga:=ra3.frame A3.gd.own s4 A3.dis
   have vv:∀j m t,rd (aw tg M) j=Y (m,t)->val j≠none:=λj m t e=>by
    rw[aL] at e;split at e
    .cases e
    .rename_i s;have n1:rd ηb j≠none:=λz=>by rw[hf hfe j z] at e;cases e
     rw[gP hb j s] at n1;have n2:rd (aw tg F) j≠none:=λz=>n1<|hnn j z;cases e2:rd (aw tg F) j with
     |none=>exact Rm e2 n2
     |some u=>exact v2 j u.1 u.2 e2
   have A5:=(A4.dels (tg:=tg)).outof (sf:=sf) (σ:=σ) (val:=val) (λj s=>by rw[aL,Rk s]) vv Ai.lk Ai.ln
   have s5:Step Z1 H1 (tot (gp Fs1 tg)) Z4 H4 (λa=>tot (gp Fs4 tg) a\/(Ga a\/G4 a)):=by
    refine(si.trans<|((s3.frame λa=>tot Fsi a\/Ga a).mono (λa v=>v.elim (λz=>z.elim) id) λa v=>.inr v).trans<|s4.frame Ga).mono (λ_ z=>z) λa v=>?_;rcases v with z|z|z
    .exact .inl (.inl<|dm z)
    .exact .inr z
    .exact .inl (.inr z)
   refine⟨Z4,gp Fs4 tg,aw tg M,acc++o.toList,λc=>Ga c\/G4 c,A5,?_,hc2,λj s=>by rw[aL,Rk s],λj s a v=>v.1 s,λj e=>?_,s5⟩
   .cases o with
    |none=>
     cases oy with
     |none=>rw[Qi,Qi,LW,LW];exact ra4.mono λ_ z=>.inl z
     |some _=>exact r4.elim
    |some w4=>
     cases oy with
     |none=>exact r4.elim
     |some y4=>exact RepW.append (λ_ z=>.inl z) (λ_ z=>.inr z) d4 ra4<|RepW.one r4
   .have e':=hnn j e;rw[aL];split
    .rfl
    .rename_i s;exact hf hfe j<|by rw[gP hb j s];exact e'
  .have:D.length<=i:=r;cases oy<;>simp<;>lia
 .left;have hi':i=N.length:=by lia
  subst hi';rw[P6] at hc;cases hc;refine⟨wk.stop H0 _ st<|LM _,LIM_le<|LL r hL,uY Ai.own Ai.gd.zal ra (LL r hL) h4<|df (Ai.unpin v1) (s1'.trans si) kk⟩
theorem lG {n:O}{h:Rl}{k:Ik}{f:U E}{e:E}(D:tg.length=n)(M:tg.Nodup)(b:jA sf sg tg is)(x:L2.St)(H:Hp)(Q:VK)(F:wE K sf C (.comp h k f tg J e) x H Q):kq n (wI K sf C n k f) is (gT K n) (wE K sg C e) x H Q:=by
 refine pU (te:=λg H Q=>wE K sg C e g H λy l=>Q (Y y) l) D M b (λ{i o P} t=>?_) (λ{N g Z H Fs i ηc R o Q} A t k=>?_) (λi=>rfl) x H Q F
 .obtain ⟨⟨u,w⟩,m,p⟩:=ae<|show (evE C e i).bind ju=_ from t;cases p;exact aG e m
 .obtain ⟨⟨u,w⟩,m,p⟩:=ae<|show (evE C e i).bind ju=_ from t;cases p;exact gi A m λv z l j G a r d s _=>k (Y v) z l j G a r d s
end
section
variable {K:Ly}{sl:Cf}{sf sg:O->L O}{C:Call}{σ σ2:L2.St}{Z Z' Z1:Fp}{H H' H1:Hp}{Fs Fs' Fs1:Fps}{η η' η1 ηb:Env}{G G' G1 R F:Fp}{tg is:U O}{pv val:O->L V}
noncomputable def qZ (Fs:Fps)(i:O)(G:Fp):Fps:=λj a=>(j=i/\G a)\/(j≠i/\Fs j a)
theorem cK {i:O}{a:Rj}(h:tot (qZ Fs i G) a):tot Fs a\/G a:=by
 obtain⟨j,h|h⟩:=h
 .exact .inr h.2
 .exact .inl ⟨j,h.2⟩
theorem At.put {i:O}{w:W}{x:V}(A:At K sl σ Z H Fs η G)(r:Rep K Z H w.1 w.2 x G1)(c:∀a,G1 a->G a)(f:∀a,R a->G a)(hd:∀a,R a->¬G1 a)(l:∀j,sl.sl i=Y j->σ[j]?=Y (Y x))(hp:∀u,sl.pv i=Y u->x=u):
  At K sl σ Z H (qZ Fs i G1) (M.put η i w) R:=by
 refine⟨⟨λa h=>(cK h).elim (A.gd.own a) λq=>A.own a<|c a q,λj k a b hk=>?_,A.gd.zal⟩,λj m t e=>?_,λa h=>A.own a<|f a h,λa h q=>(cK q).elim (A.dis a<|f a h)<|hd a h,A.lk,A.ln⟩
 .rcases b with ⟨rfl,b⟩ | ⟨p,b⟩
  .rcases hk with ⟨rfl,_⟩ | ⟨n,hk⟩
   .rfl
   .exact Rm ⟨k,hk⟩ (A.dis a<|c a b)
  .rcases hk with ⟨rfl,hk⟩ | ⟨n,hk⟩
   .exact Rm ⟨j,b⟩ (A.dis a<|c a hk)
   .exact A.gd.dis j k a b hk
 .rw [bQ] at e;split at e
  .rename_i d;cases e;obtain⟨rfl,_⟩:=d;exact⟨x,r.mono λa h=>.inl ⟨rfl,h⟩,l,hp⟩
  .rename_i d;obtain⟨v,o,g⟩:=A.env j m t e;by_cases b:j=i
   .subst b;exact Rm ⟨rfl,eN e⟩ d
   .exact⟨v,o.mono λa h=>.inr ⟨b,h⟩,g⟩
def wA (K:Ly)(sl:O->L O)(C:Call)(c:U E):TA:=λσ H Q=>∃pv Z Fs η d η',At K ⟨sl,pv⟩ σ Z H Fs η no/\evA C c η=.ok (d,η') /\
 ∀b Z' H' Fs' G,At K ⟨sl,pv⟩ σ Z' H' Fs' η' G->RepW K Z' H' d b G->Step Z H (tot Fs) Z' H' (λa=>tot Fs' a\/G a)->(∀(k i:O) (u:V),c[k]?=Y (.io i)->pv i=Y u->b[k]?=Y u)->Q b H'
theorem vg (σ:L2.St)(H:Hp)(Q:U V->Hp->Prop)(h:wA K sf C [] σ H Q):Bl σ H Q:=by obtain⟨pv,Z,Fs,η,c,η',A,ev,k⟩:=h;cases ev;exact k [] Z H Fs no A rfl ((Step.refl _ _ _).mono (λ_ z=>z) λa b=>b.elim id λz=>z.elim) λk i u h _=>by simp at h
theorem JJ {d:U E}{g:U W}{Q:U V->Hp->Prop}(A:At K sl σ Z H Fs η R)(ev:evA C d η=.ok (g,η'))
  (k:∀ f Z' H' Fs' G,At K sl σ Z' H' Fs' η' (fun c=>R c\/G c)->RepW K Z' H' g f G->(∀ c,R c->¬ G c)->Step Z H (tot Fs) Z' H' (fun a=>tot Fs' a\/G a) ->
   Step Z H (λc=>tot Fs c\/R c) Z' H' (λc=>tot Fs' c\/(R c\/G c))->(∀(k i:O) (u:V),d[k]?=Y (.io i)->sl.pv i=Y u->f[k]?=Y u)->Q f H'):wA K sl.sl C d σ H Q:=
 ⟨sl.pv,Z,Fs,η,g,η',A.bare,ev,fun v Z' H' Fs' G b r s e=>by
  obtain⟨h,j,l⟩:=A.frame b s;exact k v Z' H' Fs' G h r l s j e⟩
theorem yb {e:E}{f:U E}(g:∀i,e≠.io i)(σ:L2.St)(H:Hp)(Q:U V->Hp->Prop)(h:wA K sf C (e::f) σ H Q):o8 (wE K sf C e) (wA K sf C f) σ H Q:=by
 obtain⟨pv,Z,Fs,η,M,η',A,ev,k⟩:=h;obtain⟨w,η1,D,r,s,rfl⟩:=gV g ev;refine gi A r λx Z1 H1 Fs1 G1 d r1 _ v _=>?_;have a:=d.mono (G':=G1) λ_ z=>.inr z;refine JJ a s λj o n b m l r2 p s2 y c=>?_;refine k (x::j) o n b _ l ⟨x,j,G1,m,rfl,λ_ z=>.inl z,λ_ z=>.inr z,p,r1.frame d.gd.own s2 a.dis,r2⟩ (v.trans y) λk i u h t=>?_;cases k with
 |zero=>exact Rm (Mf h)<|g i
 |succ k=>exact c k i u h t
theorem jC {i j:O}{p:U E}(N:sf i=Y j)(σ:L2.St)(H:Hp)(Q:U V->Hp->Prop)(h:wA K sf C (.io i::p) σ H Q):o8 (rK j) (wA K sf C p) σ H Q:=by
 obtain⟨pv,Z,Fs,η,ws,η',A,ev,k⟩:=h;obtain⟨us,η1,w,f,c,rfl,rfl⟩:=j8 ev;obtain⟨m,t⟩:=w;cases e0:rd η i with
 |none=>rw[ib p f i e0] at c;cases c
 | some w0 =>
  obtain⟨v,_,hv⟩:=A.env i w0.1 w0.2 e0;refine⟨v,hv.1 j N,pv,Z,Fs,η,us,η1,A,f,λxs Z2 H2 d G2 b r2 s2 x=>?_⟩;obtain⟨P,r,n⟩:=b.env i m t c;have s:P=v:=by have e1:=hv.1 j N;rw[n.1 j N] at e1;exact Mf<|Mf e1
  subst s
  have A3:At K ⟨sf,pv⟩ σ Z2 H2 (DL d i) (del η1 i) (λa=>d i a\/G2 a):=by
   refine⟨⟨λa ⟨l,f,c⟩=>b.gd.own a ⟨l,c⟩,λl l' a f c=>b.gd.dis l l' a f.2 c.2,b.gd.zal⟩,λl m' t' e=>?_,λa g=>g.elim (λz=>b.gd.own a ⟨i,z⟩)<|b.own a,λa g ⟨l,f,c⟩=>g.elim (λz=>f<|b.gd.dis l i a c z) λz=>b.dis a z ⟨l,c⟩,b.lk,b.ln⟩;rw[bQ] at e;split at e
   .cases e
   .rename_i M;obtain⟨v'',r',o⟩:=b.env l m' t' e;have D:l≠i:=λz=>M ⟨z,eN c⟩;exact⟨v'',r'.mono λa g=>⟨D,g⟩,o⟩
  refine k (P::xs) Z2 H2 (DL d i) _ A3 ⟨P,xs,d i,G2,rfl,λ_ z=>.inl z,λ_ z=>.inr z,λa z y=>b.dis a y ⟨i,z⟩,r,r2⟩ (s2.mono (λ_ z=>z) λa g=>?_) λk i' u h hu=>?_
  .rcases g with ⟨l,_,z⟩ | z | z
   .exact .inl ⟨l,z⟩
   .exact .inl ⟨i,z⟩
   .exact .inr z
  .cases k with
   |zero=>cases h;rw[<- n.2 u hu];rfl
   |succ k=>exact x k i' u h hu
def atV (a:U O)(b:U V):U V:=a.filterMap λi=>b[i]?
def spC (K:Ly)(C:Call)(f:O)(e:U O):U V->Hp->VK->Prop:=λc H Q=>∃Z d G w bs,RepW K Z H d c G/\Own Z H G/\(∀a,Z a->H a≠J)/\C f d=.ok (w,bs) /\
 ∀v Z' H' G1 b,Rep K Z' H' w.1 w.2 v G1->RepW K Z' H' bs (atV e c) b->(∀a,G1 a->¬b a)->Own Z' H' (λa=>G1 a\/b a)->Step Z H G Z' H' (λa=>G1 a\/b a)->Q v H'
noncomputable def il:U E->O->U O
|[],_=>[]
|.io _::a,n=>n::il a (n+1)
|_::a,n=>il a<|n+1
theorem Cd {vs:U V}:∀{es:U E} {n:O},(∀(k i:O) (u:V),es[k]?=Y (.io i)->pv i=Y u->vs[n+k]?=Y u)->(∀i∈ios es,pv i≠J)->(ios es).filterMap pv=atV (il es n) vs
|[],_,_,_=>rfl
| e::es,n,h,c=>by
 have rest:(∀i∈ios es,pv i≠J)->(ios es).filterMap pv=atV (il es (n+1)) vs:=λq=>Cd (λk i u hk a=>by have:=h (k+1) i u hk a;rw[show n+(k+1)=n+1+k by lia] at this;exact this) q;cases e with
 | io i =>
  cases a:pv i with
  |none=>exact Rm a<|c i<|by simp[ios]
  |some u=>have d:=h 0 i u rfl a;rw[Nat.add_zero] at d;show(i::ios es).filterMap pv=(n::il es (n+1)).filterMap λi=>vs[i]?;rw[NT,NT,a,d];exact Rw (u::·)<|rest λj b=>c j<|by simp[ios,b]
 |_=>exact rest λj b=>c j b
theorem At.putAll:∀{is:U O} {bs:U W} {Fs:Fps} {η:Env} {d:Fp},At K ⟨sf,val⟩ σ Z H Fs η (λa=>R a\/d a)->(∀a,R a->¬d a)->RepW K Z H bs (is.filterMap val) d->(∀i∈is,val i≠J)->∃Fs',At K ⟨sf,val⟩ σ Z H Fs' (M.putAll is bs η) R/\∀a,tot Fs' a->tot Fs a\/d a
|[],bs,Fs,η,d,A,_,_,_=>⟨Fs,A.mono λ_ z=>.inl z,λ_ z=>.inl z⟩
|i::is,[],Fs,η,d,A,_,_,_=>⟨Fs,A.mono λ_ z=>.inl z,λ_ z=>.inl z⟩
| i::is,b::bs,Fs,η,d,A,hd,r,n=>by
 cases f:val i with
 |none=>exact Rm f<|n i LI
 |some u=>rw[NT,f] at r;obtain⟨x,y,o,s,e,g,k,ad,p,q⟩:=r;cases e;have c:=At.put (i:=i) (R:=λa=>R a\/s a) (G1:=o) A p (λa h=>.inr<|g a h) (λa h=>h.imp id (k a)) (λa h q=>h.elim (λz=>hd a z<|g a q) λz=>ad a q z) (λj l=>A.lk i u j f l) (λw m=>by rw[show val i=Y w from m] at f;cases f;rfl);obtain⟨Fs',t,v⟩:=At.putAll (is:=is) (bs:=bs) c (λa h q=>hd a h<|k a q) q λj l=>n j<|LO _ l;exact⟨Fs',t,λa h=>(v a h).elim (λz=>(cK z).imp id (g a)) λz=>.inr<|k a z⟩
theorem oC {f:O}{es:U E}{io:U O}(j:il es 0=io\/ios es=[])(σ:L2.St)(H:Hp)(Q:VK)(h:wE K sf C (.call f es) σ H Q):wA K sf C es σ H λvs H1=>spC K C f io vs H1 Q:=by
 obtain⟨pv,Z,Fs,η,w,η',A,ev,k⟩:=h;obtain⟨⟨l,η1⟩,x,P⟩:=ae<|show(evA C es η).bind (kCall C f<|ios es)=_ from ev;obtain⟨⟨u,bs⟩,h3,h4⟩:=ae<|show(C f l).bind (kBack (ios es) η1)=_ from P;cases h4;obtain⟨val,v1,y,v2⟩:=A.pin
 have c:∀i∈ios es,val i≠none:=λi hi=>by
  cases e:rd η i with
  |none=>exact Rm e<|jW es x i hi
  |some q=>exact v2 i q.1 q.2 e
 refine⟨val,Z,Fs,η,l,η1,y,x,λvs Z1 H1 Fs1 G b r s hv=>?_⟩;refine⟨Z1,l,G,u,bs,r,b.own,b.gd.zal,h3,λv t p G1 N r1 r2 d o st=>?_⟩;obtain⟨m,s2⟩:=b.op o st
 have g:∃Fs',At K ⟨sf,val⟩ σ t p Fs' (M.putAll (ios es) bs η1) G1/\∀a,tot Fs' a->tot Fs1 a\/N a:=by
  rcases j with e|e
  .have e2:=Cd (pv:=val) (es:=es) (n:=0) (vs:=vs) (fun k i u' hk hu=>by rw [MY]; exact hv k i u' hk hu) c;rw[e] at e2;rw[<- e2] at r2;exact At.putAll m d r2 c
  .rw [e];exact⟨Fs1,m.mono λ_ z=>.inl z,λ_ z=>.inl z⟩
 obtain⟨Fs',D,hF⟩:=g;refine k v t p Fs' G1 (D.unpin v1) r1<|(s.trans s2).mono (λ_ z=>z) λa ha=>?_;rcases ha with z|z
 .exact(hF a z).imp id .inr
 .exact .inr (.inl z)
end
section
variable {K:Ly}{sl:Cf}{sf sg:O->L O}{C:Call}{σ σ2:L2.St}{Z Z' Z1:Fp}{H H' H1:Hp}{Fs Fs' Fs1:Fps}{η η' η1 ηb:Env}{G G' G1 R F F':Fp}{tg is vs ls:U O}{pv val:O->L V}
theorem rW (o:L W):toS (toS o)=toS o:=by
 cases o with
 |none=>rfl
 |some w=>rfl
theorem lP:∀(vs:U O) (η:Env) (i:O),rd (share vs η) i=if i∈vs then toS (rd η i) else rd η i
|[],η,i=>by simp[share]
| v::vs,η,i=>by
 show rd (share vs<|wr η v<|toS<|rd η v) i=_;rw[lP vs,bQ];by_cases b:i=v
 .subst b;rw[Rk (show i∈i::vs from LI)];by_cases c:i < η.length
  .rw [Rk (show i=i/\i < η.length from ⟨rfl,c⟩)];split
   .exact rW _
   .rfl
  .have e:rd η i=none:=by
    cases e:rd η i with
    |none=>rfl
    |some w=>exact Rm (eN e) c
   rw[Rn<|show¬(i=i/\i < η.length) fromλh=>c h.2,e];split<;>rfl
 .rw [Rn (show ¬ (i=v/\v < η.length) from fun h=>b h.1)];by_cases a:i∈vs
  .rw[Rk a,Rk<|LO _ a]
  .rw[Rn a,Rn<|by simp[a,b]]
theorem k6:∀(η:Env) (i:O),rd (blank η) i=J
|[],_=>rfl
|_::_,0=>rfl
|_::η,i+1=>k6 η i
theorem oX:∀(vs:U O) (a η:Env) (i:O) (w:W),rd (nq vs a η) i=Y w->rd η i=Y w\/(i∈vs/\toS (rd a i)=Y w)
|[],_,_,_,_,h=>.inl h
| v::vs,a,η,i,w,h=>by
 rcases oX vs a (wr η v<|toS<|rd a v) i w h with e|e
 .rw [bQ] at e;split at e
  .rename_i b;obtain⟨rfl,_⟩:=b;exact .inr ⟨LI,e⟩
  .exact .inl e
 .exact .inr ⟨LO _ e.1,e.2⟩
theorem lQ:∀(vs:U O) (a η:Env) (i:O) (w:W),rd (hI vs a η) i=Y w->rd η i=Y w\/lfO (rd a i)=Y w
|[],_,_,_,_,h=>.inl h
| v::vs,a,η,i,w,h=>by
 rcases lQ vs a (wr η v<|lfO<|rd a v) i w h with e|e
 .rw [bQ] at e;split at e
  .rename_i b;obtain⟨rfl,_⟩:=b;exact .inr e
  .exact .inl e
 .exact .inr e
theorem yz {i:O}{w:W}(h:rd (pick vs ls η) i=Y w):∃m t,rd η i=Y (m,t)/\((i∈vs/\w=(.s,t))\/(t.leaf=Lw/\w=(.d,t))):=by
 rcases lQ ls η _ i w h with e|e
 .rcases oX vs η _ i w e with e | ⟨hi,e⟩
  .rw[k6] at e;cases e
  .cases q:rd η i with
   |none=>rw[q] at e;cases e
   |some u=>rw[q] at e;cases e;exact⟨u.1,u.2,rfl,.inl ⟨hi,rfl⟩⟩
 .cases q:rd η i with
  |none=>rw[q] at e;cases e
  |some u=>
   rw[q] at e;obtain⟨m,t⟩:=u;have a:(if t.leaf=Lw then Y ((.d,t):W) else J)=Y w:=e;split at a
   .rename_i b;cases a;exact⟨m,t,rfl,.inr ⟨b,rfl⟩⟩
   .cases a
def dB (Fs:Fps)(vs:U O):Fp:=λa=>∃i,i∈vs/\Fs i a
def vM:Fps:=λ_ _=>RB
theorem dj {a:Rj}(h:dB Fs vs a):tot Fs a:=let ⟨i,_,h⟩:=h;⟨i,h⟩
theorem ke {a:Rj}(h:tot vM a):RB:=let ⟨_,h⟩:=h;h
theorem At.quiet (A:At K sl σ Z H Fs η no):At K sl σ (λa=>Z a\/dB Fs vs a) H vM (pick vs ls η) no:=by
 refine⟨⟨λa h=>(ke h).elim,λ_ _ _ h=>h.elim,λa h=>h.elim (A.gd.zal a) λq=>?_⟩,λi m t e=>?_,de,λ_ z=>z.elim,A.lk,A.ln⟩
 .obtain ⟨_,g,e⟩:=A.gd.own a<|dj q;rw[e];simp
 .obtain ⟨d,f,e1,e2⟩:=yz e;obtain⟨v,r,h⟩:=A.env i d f e1;rcases e2 with⟨b,e2⟩|⟨c,e2⟩
  .cases e2;exact⟨v,(r.sh.zmono λa h=>h.imp id λq=>⟨i,b,q⟩).sany,h⟩
  .cases e2;exact⟨v,r.leaf (λ_ _ _ q=>q) c,h⟩
mutual
theorem Rep.dany:∀{t:T} {v:V} {G:Fp},Rep K Z H .d t v G->Rep K Z' H .d t v G
|.non,_,_,h=>h
|.bl _,_,_,h=>h
|.int _,_,_,h=>h
|.str _,_,_,h=>h
|.scr _,_,_,h=>h
|.tup ts,_,_,⟨a,xs,e,q,l,r⟩=>⟨a,xs,e,q,l,RepL.dany r⟩
|.lst ts,_,_,⟨a,xs,e,l,q,r⟩=>⟨a,xs,e,l,q,RepL.dany r⟩
|.dct _ _,_,_,⟨a,xs,e,l,q,n,hl,r⟩=>⟨a,xs,e,l,q,n,hl,RepL.dany r⟩
|.ins _ _ _,_,_,h=>Rm rfl h.1
|.dtt _ _,_,_,h=>Rm rfl h.1
|.obj _ _ _,_,_,h=>Rm rfl h.1
|.gone,_,_,h=>h
theorem RepL.dany:∀{ts:U T} {xs:U V} {G:Fp},RepL K Z H .d ts xs G->RepL K Z' H .d ts xs G
|[],_,_,h=>h
|t::ts,xs,_,⟨x,r,G1,G2,e,h1,h2,hd,p,q⟩=>⟨x,r,G1,G2,e,h1,h2,hd,Rep.dany p,RepL.dany q⟩
end
theorem eT (A:At K sl σ Z H Fs η no)(b:Own Z' H' G)(d:∀a,Z' a->H' a≠J)(s:Step (λa=>Z a\/dB Fs vs a) H F Z' H' λa=>F' a\/G a)(c:∀a,¬F a):
  At K sl σ (λa=>Z' a/\¬dB Fs vs a) H' Fs η G/\Step Z H (tot Fs) (λa=>Z' a/\¬dB Fs vs a) H' (λa=>tot Fs a\/G a):=by
 have keep:∀a o,H a=Y o->H' a=Y o:=λa o e=>s.keep a o e<|c a;have j:∀a,Z a->Z' a/\¬dB Fs vs a:=λa h=>⟨s.zm a<|.inl h,λq=>(A.gd.own a<|dj q).1 h⟩
 have g:∀a,tot Fs a->¬(Z' a/\¬dB Fs vs a):=λa h q=>by
  obtain⟨g,f,e⟩:=A.gd.own a h;rcases s.zn a q.1 with z|z|z
  .exact z.elim g q.2
  .exact c a z
  .rw[e] at z;cases z
 have k:∀a,G a->¬tot Fs a:=λa h q=>by
  obtain⟨_,f,e⟩:=A.gd.own a q;rcases s.fn a (.inr h) with z|z
  .exact c a z
  .rw[e] at z;cases z
 refine⟨⟨⟨λa h=>?_,A.gd.dis,λa h=>d a h.1⟩,λi m t e=>?_,λa h=>⟨λq=>(b a h).1 q.1,(b a h).2⟩,k,A.lk,A.ln⟩,⟨λa o e _=>keep a o e,j,λa h=>?_,λa h=>?_,s.al,λ_ a h=>d a h.1⟩⟩
 .obtain ⟨_,f,e⟩:=A.gd.own a h;exact⟨g a h,f,keep a _ e⟩
 .obtain ⟨v,r,h⟩:=A.env i m t e;refine⟨v,r.keep ⟨λa o _ e=>keep a o e,λa f e=>?_,λa o u e=>keep a _ e⟩ j λa o _ e=>keep a o e,h⟩;rcases e with e|⟨u,e⟩
  .exact .inl (keep a _ e)
  .exact .inr ⟨u,keep a _ e⟩
 .rcases s.zn a h.1 with z | z | z
  .exact z.elim .inl λq=>Rm q h.2
  .exact(c a z).elim
  .exact .inr (.inr z)
 .rcases h with h | h
  .exact .inl h
  .exact(s.fn a<|.inr h).elim (λz=>(c a z).elim) .inr
theorem At.share (A:At K sl σ Z H Fs η G):At K sl σ (λa=>Z a\/dB Fs vs a) H (gp Fs vs) (M.share vs η) G/\∀{f d c},Step f d c Z H (λa=>tot Fs a\/G a)->Step f d c (λa=>Z a\/dB Fs vs a) H (λa=>tot (gp Fs vs) a\/G a):=by
 refine⟨⟨⟨λa h=>?_,λi j a l n=>A.gd.dis i j a l.2 n.2,λa h=>h.elim (A.gd.zal a) λq=>?_⟩,λi m t e=>?_,λa h=>⟨λz=>z.elim (A.own a h).1 λq=>A.dis a h<|dj q,(A.own a h).2⟩,λa h q=>A.dis a h<|dm q,A.lk,A.ln⟩,λ{f d c} s=>⟨s.keep,λa h=>.inl<|s.zm a h,λa h=>h.elim (s.zn a) λq=>.inr<|s.fn a<|.inl<|dj q,λa h=>s.fn a<|h.imp dm id,s.al,λz a h=>h.elim (s.za z a) λq=>?_⟩⟩
 .obtain ⟨i,b,k⟩:=h;obtain⟨p,g,e⟩:=A.gd.own a ⟨i,k⟩;exact⟨λz=>z.elim p λ⟨j,o,q⟩=>b<|A.gd.dis i j a k q ▸ o,g,e⟩
 .obtain ⟨_,g,e⟩:=A.gd.own a<|dj q;rw[e];simp
 .rw [lP] at e;split at e
  .rename_i b;cases q:rd η i with
   |none=>rw[q] at e;cases e
   |some u=>rw[q] at e;cases e;obtain⟨v,r,h⟩:=A.env i u.1 u.2 q;exact⟨v,(r.sh.zmono λa h=>h.imp id λq=>⟨i,b,q⟩).sany,h⟩
  .rename_i b;obtain⟨v,r,h⟩:=A.env i m t e;exact⟨v,(r.zmono λa h=>.inl h).mono λa h=>⟨b,h⟩,h⟩
 .obtain ⟨_,g,e⟩:=A.gd.own a<|dj q;rw[e];simp
theorem mR {x:X}{e:E}{w:W}{Q:VK}(A:At K sl σ Z H Fs η no)(ev:evX C x e η=.ok (w,η'))(k:∀v Z' H' Fs' G,At K sl σ Z' H' Fs' η' G->Rep K Z' H' w.1 w.2 v G->Step Z H (tot Fs) Z' H' (λa=>tot Fs' a\/G a)->Q v H'):wE K sl.sl C e σ H Q:=by
 cases x with
 | q vs ls =>
  obtain⟨⟨u,n⟩,D,N⟩:=ae<|show(evE C e<|pick vs ls η).bind (kX vs η)=_ from ev;cases N;generalize i:M.lf u.1 u.2=m0 at k;refine⟨sl.pv,_,vM,_,_,n,A.quiet (vs:=vs) (ls:=ls),D,λv Z' H' Fs' G b r0 s=>?_⟩;have r:=r0.lf;rw[i] at r;obtain⟨p,f⟩:=eT A b.own b.gd.zal s λa h=>ke h
  have c:Q v H'\/m0=.d:=by
   by_cases hd:m0=.d
   .exact .inr hd
   .refine .inl ?_
    have g:after m0 vs η=share vs η:=by
     cases P:m0 with
     |d=>exact Rm P hd
     |s=>rfl
     |o m=>rfl
    obtain⟨y,s2⟩:=p.share (vs:=vs);have zz:∀a,(Z' a/\¬dB Fs vs a)\/dB Fs vs a->Z' a:=λa h=>h.elim Nt λq=>s.zm a<|.inr q;have j:∀a,Z' a->(Z' a/\¬dB Fs vs a)\/dB Fs vs a:=λa h=>(QH<|dB Fs vs a).elim .inr λq=>.inl ⟨h,q⟩;exact k v _ H' _ G (g ▸ y) (r.zmono j)<|s2 f
  rcases c with q|hd
  .exact q
  .have g:after m0 vs η=η:=by rw [hd]; rfl
   refine k v _ H' Fs G (g.symm ▸ p) ?_ f;subst hd;exact r.dany
 |l vs=>obtain⟨b,s0⟩:=A.share (vs:=vs);have f:=s0<|(Step.refl Z H<|tot Fs).mono (F2:=λa=>tot Fs a\/no a) (λ_ z=>z) λa h=>h.elim id λz=>z.elim;refine⟨sl.pv,_,_,_,w,η',b,ev,λv Z' H' Fs' G t r s=>k v Z' H' Fs' G t r<|(f.mono (λ_ z=>z) λa h=>.inl h).trans s⟩
theorem Gv {x:X}{e:E}{b:Rl}{Q:Rl->Hp->Prop}(A:At K sl σ Z H Fs η no)(ev:evT C x e η=.ok (b,η'))(k:∀Z' H' Fs',At K sl σ Z' H' Fs' η' no->Step Z H (tot Fs) Z' H' (tot Fs')->Q b H'):wT K sl.sl C e σ H Q:=by
 cases x with
 |q vs ls=>obtain⟨⟨u,d⟩,f,g⟩:=ae<|show(evE C e<|pick vs ls η).bind (kT η)=_ from ev;obtain⟨o,i,e3⟩:=aq<|show ret η (truth u.2)=_ from g;cases e3;refine⟨sl.pv,_,vM,_,u,d,b,A.quiet (vs:=vs) (ls:=ls),f,i,λZ' H' Fs' c s=>?_⟩;obtain⟨n,j⟩:=eT (G:=no) A de c.gd.zal (s.mono (F2:=λa=>tot Fs' a\/no a) (λ_ z=>z) λa h=>h.elim id λz=>z.elim) λa h=>ke h;exact k _ H' Fs n<|j.mono (λ_ z=>z) λa h=>.inl h
 |l vs=>obtain⟨⟨u,d⟩,f,g⟩:=ae<|show(evE C e<|M.share vs η).bind kT2=_ from ev;obtain⟨o,i,e3⟩:=aq<|show ret d (truth u.2)=_ from g;cases e3;obtain⟨c,s0⟩:=A.share (vs:=vs);have j:=s0<|(Step.refl Z H<|tot Fs).mono (F2:=λa=>tot Fs a\/no a) (λ_ z=>z) λa h=>h.elim id λz=>z.elim;exact⟨sl.pv,_,_,_,u,_,b,c,f,i,λZ' H' Fs' m s=>k Z' H' Fs' m<|(j.mono (λ_ z=>z) λa h=>.inl h).trans s⟩
end
section
variable {K:Ly}{Wx:L2.St->VK}{sl:Cf}{sf sg:O->L O}{C:Call}{σ σ2:L2.St}{Z Z' Z1:Fp}{H H' H1:Hp}{Fs Fs' Fs1:Fps}{η η' η1 ηb:Env}{G G' G1 R F F':Fp}{tg is vs ls io:U O}{pv val:O->L V}{D:cO}
def Fin (K:Ly)(Wx:L2.St->VK)(sl:Cf)(Z:Fp)(H:Hp)(F:Fp)(D:cO):Fl->Prop
|.nx η'=>∀b Z' H' Fs',At K sl b Z' H' Fs' η' no->Step Z H F Z' H' (tot Fs')->D.nx b H'
|.rt w η'=>∀v b Z' H' Fs' G,At K sl b Z' H' Fs' η' G->Rep K Z' H' w.1 w.2 v G->Step Z H F Z' H' (λa=>tot Fs' a\/G a)->D.rt v H'
|.bk η'=>∀b Z' H' Fs',At K sl b Z' H' Fs' η' no->Step Z H F Z' H' (tot Fs')->D.bk b H'
|.ex t η'=>∀v b Z' H' Fs',At K sl b Z' H' Fs' η' no->Rep K Z' H' .s t v no->Step Z H F Z' H' (tot Fs')->Wx b v H'
|_=>RB
theorem Fin.step {fl:Fl}(s:Step Z H F Z1 H1 F')(h:Fin K Wx sl Z H F D fl):Fin K Wx sl Z1 H1 F' D fl:=by
 cases fl with
 |nx η=>exactλa Z' H' Fs' A t=>h a Z' H' Fs' A<|s.trans t
 |rt w η=>exactλv a Z' H' Fs' G A r t=>h v a Z' H' Fs' G A r<|s.trans t
 |bk η=>exactλa Z' H' Fs' A t=>h a Z' H' Fs' A<|s.trans t
 |ex t η=>exactλv a Z' H' Fs' A r t=>h v a Z' H' Fs' A r<|s.trans t
 |_=>exact h.elim
structure sj (sf:O->L O)(io:U O)(pv:O->L V):Prop where
 inj:∀i i' j,sf i=Y j->sf i'=Y j->i=i'
 io:∀i,i ∉ io->pv i=J
def wS (K:Ly)(Wx:L2.St->VK)(sf:O->L O)(io:U O)(C:Call)(a:S):TS:=λD σ H=>∃pv Z Fs η,sj sf io pv/\At K ⟨sf,pv⟩ σ Z H Fs η no/\Fin K Wx ⟨sf,pv⟩ Z H (tot Fs) D (evS C a η)
def wSs (K:Ly)(Wx:L2.St->VK)(sf:O->L O)(io:U O)(C:Call)(a:U S):TS:=λD σ H=>∃pv Z Fs η,sj sf io pv/\At K ⟨sf,pv⟩ σ Z H Fs η no/\Fin K Wx ⟨sf,pv⟩ Z H (tot Fs) D (evSs C a η)
theorem AZ (D:cO)(σ:L2.St)(H:Hp)(h:wSs K Wx sf io C [] D σ H):B8 D σ H:=by obtain⟨pv,Z,Fs,η,N,A,f⟩:=h;exact f σ Z H Fs A<|Step.refl _ _ _
theorem rN {s:S}{r:U S}(D:cO)(σ:L2.St)(H:Hp)(h:wSs K Wx sf io C (s::r) D σ H):IH (wS K Wx sf io C s) (wSs K Wx sf io C r) D σ H:=by
 obtain⟨pv,Z,Fs,η,N,A,f⟩:=h;refine⟨pv,Z,Fs,η,N,A,?_⟩;have a:Fin K Wx ⟨sf,pv⟩ Z H (tot Fs) D (Fl.seq (evS C s η) (evSs C r)):=f;cases e:evS C s η with
 |nx η1=>rw[e] at a;exactλc Z' H' Fs' b t=>⟨pv,Z',Fs',η1,N,b,a.step t⟩
 |rt w η1=>rw[e] at a;exact a
 |bk η1=>rw[e] at a;exact a
 |ex t η1=>rw[e] at a;exact a
 |no=>rw[e] at a;exact a.elim
theorem AE {s:S}(D:cO)(σ:L2.St)(H:Hp)(h:wSs K Wx sf io C [s] D σ H):wS K Wx sf io C s D σ H:=by
 obtain⟨pv,Z,Fs,η,N,A,f⟩:=h;refine⟨pv,Z,Fs,η,N,A,?_⟩;have a:Fin K Wx ⟨sf,pv⟩ Z H (tot Fs) D (Fl.seq (evS C s η) (evSs C [])):=f;cases e:evS C s η with
 |nx η1=>rw[e] at a;exact a
 |rt w η1=>rw[e] at a;exact a
 |bk η1=>rw[e] at a;exact a
 |ex t η1=>rw[e] at a;exact a
 |no=>rw[e] at a;exact a.elim
theorem b4 {b:Type}{r:Res b}{g:b->Fl}(f:Fin K Wx sl Z H F D<|Fl.of η r g):∃a,r=.ok a/\Fin K Wx sl Z H F D (g a):=by
 cases r with
 |ok a=>exact⟨a,rfl,f⟩
 |ex t=>exact f.elim
 |no=>exact f.elim
theorem jG {o:L Env}(f:Fin K Wx sl Z H F D<|nxO η o):∃η',o=Y η'/\Fin K Wx sl Z H F D (.nx η'):=by
 cases o with
 |some a=>exact⟨a,rfl,f⟩
 |none=>exact f.elim
theorem At.setR {i j:O}{w:W}{x:V}(N:sj sf io pv)(P:i ∉ io)(s:sf i=Y j)(A:At K ⟨sf,pv⟩ σ Z H Fs η G)(r:Rep K Z H w.1 w.2 x G1)(q1:∀a,G1 a->G a)(q2:∀a,R a->G a)(q3:∀a,R a->¬G1 a):At K ⟨sf,pv⟩ (σ.set j<|Y x) Z H (qZ Fs i G1) (M.put η i w) R:=by
 have hj:j < σ.length:=A.ln i j s
 have c:At K ⟨λk=>if k=i then J else sf k,pv⟩ (σ.set j (Y x)) Z H Fs (M.del η i) G:=by
  refine⟨A.gd,λl m t e=>?_,A.own,A.dis,λl u k g hk=>?_,λl k hk=>?_⟩
  .rw [bQ] at e;split at e
   .cases e
   .rename_i hne;obtain⟨v,r',Q,h2⟩:=A.env l m t e;have f:l≠i:=λz=>hne ⟨z,by rw[<- z];exact eN e⟩;refine⟨v,r',λk hk=>?_,h2⟩;have d:sf l=Y k:=by have:(if l=i then J else sf l)=Y k:=hk;rw[Rn f] at this;exact this
    have n:j≠k:=λz=>f (N.inj l i k d<|by rw[<- z];exact s);rw[O2 n];exact Q k d
  .have f:l≠i:=fun z=>by have y:pv l=Y u:=g;rw[z,N.io i P] at y;cases y
   have d:sf l=Y k:=by have:(if l=i then J else sf l)=Y k:=hk;rw[Rn f] at this;exact this
   have n:j≠k:=λz=>f (N.inj l i k d<|by rw[<- z];exact s);rw[O2 n];exact A.lk l u k g d
  .have d:sf l=Y k:=by
    have:(if l=i then J else sf l)=Y k:=hk;split at this
    .cases this
    .exact this
   rw[Qx];exact A.ln l k d
 have p:=At.put (i:=i) (w:=w) (G1:=G1) (R:=R) c r q1 q2 q3 (λk hk=>by have d:(if i=i then J else sf i)=Y k:=hk;rw[Rk rfl] at d;cases d) (λu g=>by have:=N.io i P;rw[show pv i=Y u from g] at this;cases this)
 have e1:M.put (M.del η i) i w=M.put η i w:=by
  have:∀(η:Env) (i:O) (a b:L W),wr (wr η i a) i b=wr η i b:=λη=>by
   induction η with
   |nil=>intro i a b;rfl
   |cons o η ih=>intro i a b;cases i with
    |zero=>rfl
    |succ i=>show o::wr (wr η i a) i b=o::wr η i b;rw[ih]
  exact this η i J<|Y w
 rw[e1] at p;refine⟨p.gd,λl m t e=>?_,p.own,p.dis,λl u k g hk=>?_,λl k hk=>by rw[Qx];exact A.ln l k hk⟩
 .obtain ⟨v,r',Q,h2⟩:=p.env l m t e;by_cases f:l=i
  .subst f;rw[bQ] at e;split at e
   .cases e;refine⟨x,r.mono λa h=>.inl ⟨rfl,h⟩,λk hk=>?_,λu g=>by have:=N.io l P;rw[show pv l=Y u from g] at this;cases this⟩;have:k=j:=by rw[show sf l=Y k from hk] at s;cases s;rfl
    subst this;rw[PX hj]
   .rename_i hc;exact Rm ⟨rfl,eN e⟩ hc
  .refine ⟨v,r',fun k hk=>Q k ?_,h2⟩;show(if l=i then J else sf l)=Y k;rw[Rn f];exact hk
 .by_cases f:l=i
  .subst f;have:=N.io l P;rw[show pv l=Y u from g] at this;cases this
  .exact p.lk l u k g (show(if l=i then J else sf l)=Y k by rw[Rn f];exact hk)
theorem At.set {i j:O}{w:W}{x:V}(N:sj sf io pv)(a:i ∉ io)(b:sf i=Y j)(A:At K ⟨sf,pv⟩ σ Z H Fs η G)(r:Rep K Z H w.1 w.2 x G):At K ⟨sf,pv⟩ (σ.set j<|Y x) Z H (qZ Fs i G) (M.put η i w) no:=At.setR N a b A r (λ_ h=>h) (λ_ z=>z.elim) λ_ z=>z.elim
theorem tQ {x:X}{i j:O}{e:E}(k:i ∉ io)(l:sf i=Y j)(D:cO)(σ:L2.St)(H:Hp)(h:wS K Wx sf io C (.asg x i e) D σ H):AL (wE K sf C e) (dZ j) D σ H:=by obtain⟨pv,Z,Fs,η,N,A,f⟩:=h;obtain⟨⟨w,η1⟩,c,d⟩:=b4<|show Fin K Wx ⟨sf,pv⟩ Z H (tot Fs) D (Fl.of η (evX C x e η)<|zB i) from f;refine mR (sl:=⟨sf,pv⟩) A c λv Z' H' Fs' G b r s=>?_;exact d _ Z' H' _ (At.set N k l b r)<|s.mono (λ_ z=>z) λa g=>cK g
theorem Cm {x:X}{e:E}(D:cO)(σ:L2.St)(H:Hp)(h:wS K Wx sf io C (.exp x e) D σ H):BR (wE K sf C e) D σ H:=by obtain⟨pv,Z,Fs,η,N,A,f⟩:=h;obtain⟨⟨w,η1⟩,c,d⟩:=b4<|show Fin K Wx ⟨sf,pv⟩ Z H (tot Fs) D (Fl.of η (evX C x e η) kNx) from f;exact mR (sl:=⟨sf,pv⟩) A c λv Z' H' Fs' G b r s=>d σ Z' H' Fs' b.bare<|s.mono (λ_ z=>z) λa g=>.inl g
theorem DJ {e:E}(D:cO)(σ:L2.St)(H:Hp)(h:wS K Wx sf io C (.ret vs e) D σ H):F4 (wE K sf C e) D σ H:=by obtain⟨pv,Z,Fs,η,N,A,f⟩:=h;obtain⟨⟨w,η1⟩,b,c⟩:=b4<|show Fin K Wx ⟨sf,pv⟩ Z H (tot Fs) D (Fl.of η (evE C e<|M.share vs η) kRt) from f;exact mR (sl:=⟨sf,pv⟩) (x:=.l vs) A b λv Z' H' Fs' G a r s=>c v σ Z' H' Fs' G a r s
theorem Fi {x:X}{c:E}{a b:U S}(D:cO)(σ:L2.St)(H:Hp)(h:wS K Wx sf io C (.ite x c a b) D σ H):HF (wT K sf C c) (wSs K Wx sf io C a) (wSs K Wx sf io C b) D σ H:=by
 obtain⟨pv,Z,Fs,η,N,A,f⟩:=h;obtain⟨⟨k,η1⟩,g,e⟩:=b4<|show Fin K Wx ⟨sf,pv⟩ Z H (tot Fs) D (Fl.of η (evT C x c η)<|kIf (evSs C a)<|evSs C b) from f;refine Gv (sl:=⟨sf,pv⟩) A g λZ' H' Fs' d s=>?_;cases k with
 |true=>rw[Rk rfl];exact⟨pv,Z',Fs',η1,N,d,Fin.step s e⟩
 |false=>rw[Rn LX];exact⟨pv,Z',Fs',η1,N,d,Fin.step s e⟩
theorem pO {m:Md}{d:U T}{v:V}(f:m≠.s)(r:Rep K Z H m (.lst d) v G):∃a c,v=.ref a/\c.length<=LIM/\G a/\H a=Y (.lst c)/\RepL K Z H m.kid d c (λb=>G b/\b≠a):=by obtain⟨a,c,e,l,q,p⟩:=r;rw[LstR.own f] at q;exact⟨a,c,e,l,q.1,q.2,p⟩
theorem pG {i:O}{a:Rj}{ts':U T}{d:U V}{m':Md}(hm:m'≠.s)(A:At K ⟨sf,pv⟩ σ Z H Fs η G){w0:W}(hi:rd η i=Y w0)(ha:Fs i a)(hx:∀j,sf i=Y j->σ[j]?=Y (Y<|.ref a))(hl:d.length<=LIM)(hpv:∀u,pv i=Y u->V.ref a=u)
  (hg:∀b,G' b->(Fs i b\/G b)/\b≠a) (hR:∀b,R b->(Fs i b\/G b)/\b≠a) (hRG:∀b,R b->¬G' b) (p:RepL K (λb=>Z b\/((Fs i b\/G b)/\b≠a/\¬G' b/\¬R b)) H m'.kid ts' d G') {Q:Hp->Prop}
  (k:∀Z' Fs',At K ⟨sf,pv⟩ σ Z' (upd H a<|.lst d) Fs' (M.put η i (m',.lst ts')) R->Step Z H (λb=>tot Fs b\/G b) Z' (upd H a<|.lst d) (λb=>tot Fs' b\/R b)->(∀{m t v},Rep K (λb=>Z b\/((Fs i b\/G b)/\b≠a/\¬G' b/\¬R b)) H m t v R->Rep K Z' (upd H a<|.lst d) m t v R)->Q (upd H a<|.lst d)):Q (upd H a<|.lst d):=by
 have x:tot Fs a:=⟨i,ha⟩;obtain⟨nza,ys,hya⟩:=A.gd.own a x;have nGa:¬G a:=λq=>A.dis a q x
 have w:∀b,(Z b\/((Fs i b\/G b)/\b≠a/\¬G' b/\¬R b))->b≠a:=λb h z=>by
  subst z;rcases h with h|h
  .exact nza h
  .exact h.2.1 rfl
 have keep:∀b o,H b=Y o->b≠a->upd H a (.lst d) b=Y o:=λb o e f=>by rw[ah f];exact e
 have neT:∀b xs,H b=Y (.tup xs)->b≠a:=λb xs e z=>by rw[z,hya] at e;exact ot e.symm
 have neF:∀b o u,H b=Y (.frz o u)->b≠a:=λb o u e z=>by rw[z,hya] at e;exact iK e.symm
 have stay:∀{c:Fp},(∀b,c b->b≠a)->Stay c H (upd H a (.lst d)):=λ{c} hY=>⟨λb o f e=>keep b o e<|hY b f,λb xs e=>by
  rcases e with e|⟨u,e⟩
  .exact .inl (keep b _ e<|neT b xs e)
  .exact .inr ⟨u,keep b _ e<|neF b u _ e⟩,λb o u e=>keep b _ e<|neF b o u e⟩
 have al:∀b,H b≠J->upd H a (.lst d) b≠none:=λb h=>by
  by_cases e:b=a
  .rw[e,au];simp
  .rw[ah e];exact h
 have N:∀b,(Z b\/((Fs i b\/G b)/\b≠a/\¬G' b/\¬R b))->H b≠none:=λb h=>by
  rcases h with h|⟨h|h,_⟩
  .exact A.gd.zal b h
  .obtain⟨_,P,e⟩:=A.gd.own b ⟨i,h⟩;rw[e];simp
  .obtain⟨_,P,e⟩:=A.own b h;rw[e];simp
 have listAt:∀b,(tot Fs b\/G b)->∃P:OO,upd H a (.lst d) b=Y P.ho:=λb h=>by
  by_cases e:b=a
  .exact⟨.inl d,by rw[e,au];rfl⟩
  .rcases h with h | h
   .obtain⟨_,P,q⟩:=A.gd.own b h;exact⟨P,by rw[ah e];exact q⟩
   .obtain⟨_,P,q⟩:=A.own b h;exact⟨P,by rw[ah e];exact q⟩
 have nZ:∀b,(Fs i b\/G b)->¬Z b:=λb h z=>h.elim (λy=>(A.gd.own b ⟨i,y⟩).1 z) λy=>(A.own b y).1 z
 have mj:∀b,tot (qZ Fs i λb=>G' b\/b=a) b->(∃j,j≠i/\Fs j b)\/G' b\/b=a:=λb h=>by
  obtain⟨j,h|h⟩:=h
  .exact .inr h.2
  .exact .inl ⟨j,h⟩
 refine k (λb=>Z b\/((Fs i b\/G b)/\b≠a/\¬G' b/\¬R b)) (qZ Fs i λb=>G' b\/b=a) ⟨⟨λb h=>⟨λz=>?_,?_⟩,λj l b g hk=>?_,λb h=>al b<|N b h⟩,λl m t e=>?_,λb h=>⟨λz=>?_,listAt b<|(hR b h).1.imp (λz=>⟨i,z⟩) id⟩,λb h q=>?_,A.lk,A.ln⟩ ⟨λb o e n=>keep b o e λz=>n<|.inl<|z ▸ x,λb h=>.inl h,λb h=>h.imp id λq=>.inl<|q.1.imp (λz=>⟨i,z⟩) id,λb h=>?_,al,λ_ b h=>al b<|N b h⟩ λ{m t v} r=>r.keep (stay w) (λ_ z=>z) λb o f e=>keep b o e (hR b f).2
 .rcases mj b h with ⟨j,g,q⟩ | q | q
  .rcases z with z | ⟨z | z,_⟩
   .exact(A.gd.own b ⟨j,q⟩).1 z
   .exact g (A.gd.dis j i b q z)
   .exact A.dis b z ⟨j,q⟩
  .rcases z with z | z
   .exact nZ b (hg b q).1 z
   .exact z.2.2.1 q
  .exact w b z q
 .rcases mj b h with ⟨j,g,q⟩ | q | q
  .exact listAt b (.inl ⟨j,q⟩)
  .exact listAt b ((hg b q).1.imp (λz=>⟨i,z⟩) id)
  .exact⟨.inl d,by rw[q,au];rfl⟩
 .have key:∀ {j:O},(G' b\/b=a)->Fs j b->j=i:=fun {j} h q=>by
   rcases h with h|h
   .rcases (hg b h).1 with y | y
    .exact A.gd.dis j i b q y
    .exact Rm ⟨j,q⟩ (A.dis b y)
   .rw[h] at q;exact A.gd.dis j i a q ha
  rcases g with⟨rfl,g⟩|⟨nj,g⟩
  .rcases hk with ⟨rfl,_⟩ | ⟨nk,hk⟩
   .rfl
   .exact Rm (key g hk) nk
  .rcases hk with ⟨rfl,hk⟩ | ⟨nk,hk⟩
   .exact Rm (key hk g) nj
   .exact A.gd.dis j l b g hk
 .rw [bQ] at e;split at e
  .rename_i hc;obtain⟨rfl,_⟩:=hc;cases e;refine⟨.ref a,⟨a,d,rfl,hl,(LstR.own hm).mpr ⟨.inl ⟨rfl,.inr rfl⟩,au⟩,?_⟩,hx,hpv⟩;exact(p.keep (stay w) (λ_ z=>z) λb o f e=>keep b o e (hg b f).2).mono λb f=>⟨.inl ⟨rfl,.inl f⟩,(hg b f).2⟩
  .rename_i hc;have hl':l≠i:=λz=>hc ⟨z,eN hi⟩;obtain⟨v,r,h⟩:=A.env l m t e;have nea:∀b,Fs l b->b≠a:=λb q z=>hl'<|A.gd.dis l i a (z ▸ q) ha;exact⟨v,((r.keep (stay λb f z=>nza<|z ▸ f) (λ_ z=>z) λb o f e=>keep b o e<|nea b f).zmono λb h=>.inl h).mono λb h=>.inr ⟨hl',h⟩,h⟩
 .rcases z with z | z
  .exact nZ b (hR b h).1 z
  .exact z.2.2.2 h
 .rcases mj b q with ⟨j,g,y⟩ | y | y
  .rcases (hR b h).1 with z | z
   .exact g (A.gd.dis j i b y z)
   .exact A.dis b z ⟨j,y⟩
  .exact hRG b h y
  .exact(hR b h).2 y
 .rcases h with h | h
  .rcases mj b h with ⟨j,_,q⟩ | q | q
   .exact .inl (.inl ⟨j,q⟩)
   .exact .inl ((hg b q).1.imp (λz=>⟨i,z⟩) id)
   .exact .inl (.inl<|q ▸ x)
  .exact .inl ((hR b h).1.imp (λz=>⟨i,z⟩) id)
theorem change {i:O}{a:Rj}{ts':U T}{d:U V}{m':Md}(n:m'≠.s)(A:At K ⟨sf,pv⟩ σ Z H Fs η G){o:W}(l:rd η i=Y o)(f:Fs i a)(hx:∀j,sf i=Y j->σ[j]?=Y (Y<|.ref a))(m:d.length<=LIM)(e:∀u,pv i=Y u->V.ref a=u)
  (g:∀b,G' b->(Fs i b\/G b)/\b≠a) (p:RepL K (λb=>Z b\/((Fs i b\/G b)/\b≠a/\¬G' b)) H m'.kid ts' d G') {Q:Hp->Prop}
  (k:∀Z' Fs',At K ⟨sf,pv⟩ σ Z' (upd H a<|.lst d) Fs' (M.put η i (m',.lst ts')) no->Step Z H (λb=>tot Fs b\/G b) Z' (upd H a<|.lst d) (tot Fs')->Q (upd H a<|.lst d)):Q (upd H a<|.lst d):=
 pG (R:=no) n A l f hx m e g (λ_ z=>z.elim) (λ_ z=>z.elim) (p.zmono λb h=>h.imp id λq=>⟨q.1,q.2.1,q.2.2,λz=>z⟩) λZ' Fs' c s _=>k Z' Fs' c<|s.mono (λ_ z=>z) λ_ z=>.inl z
end
section
variable {K:Ly}{Wx:L2.St->VK}{sl:Cf}{sf sg:O->L O}{C:Call}{σ σ2:L2.St}{Z Z' Z1:Fp}{H H' H1:Hp}{Fs Fs' Fs1:Fps}{η η' η1 ηb:Env}{G G' G1 R F F':Fp}{tg is vs ls io:U O}{pv val:O->L V}{D:cO}
theorem lD {o:L W}{u:Unit}(h:fT o=.ok u):∃m a,o=Y (m,.lst a):=by
 cases o with
 |none=>cases h
 |some w=>
  obtain⟨m,t⟩:=w;cases t with
  |lst a=>exact⟨m,a,rfl⟩
  |_=>cases h
theorem At.listAt {i j:O}{m:Md}{e:U T}(d:sf i=Y j)(A:At K ⟨sf,pv⟩ σ Z H Fs η G)(h:rd η i=Y (m,.lst e)):∃a b,σ[j]?=Y (Y<|.ref a)/\H a=Y (.lst b):=by obtain⟨v,r,c,_⟩:=A.env i m _ h;obtain⟨a,b,rfl,hx,_⟩:=bG r;exact⟨a,b,c j d,hx⟩
theorem At.ourList {i j:O}{a:Rj}{m:Md}{d:U T}(o:sf i=Y j)(n:m≠.s)(f:σ[j]?=Y (Y<|.ref a))(A:At K ⟨sf,pv⟩ σ Z H Fs η G)(h:rd η i=Y (m,.lst d)):
  ∃c,c.length<=LIM/\Fs i a/\H a=Y (.lst c)/\RepL K Z H m.kid d c (λb=>Fs i b/\b≠a)/\(∀u,pv i=Y u->V.ref a=u):=by
 obtain⟨v,r,k,hp⟩:=A.env i m _ h;have e:=k j o;rw[f] at e;cases e;obtain⟨b,c,e,l,g,hx,p⟩:=pO n r;cases e;exact⟨c,l,g,hx,p,hp⟩
theorem xG {u w r:W}(h:iM u w=Y r):∃m a,u=(m,.lst a)/\m≠.s/\a.length<LIM/\r=((m.kid.meet<|lf w.1 w.2).up,.lst<|a++[w.2]):=by
 obtain⟨m,t⟩:=u;obtain⟨n,c⟩:=w;cases m with
 |s=>cases h
 | d =>
  cases t with
  |lst a=>
   have b:(if a.length<LIM then Y ((((Md.d.kid.meet (lf n c)).up,.lst (a++[c])):W)) else J)=Y r:=h;split at b
   .rename_i e;cases b;exact⟨.d,a,rfl,by simp,e,rfl⟩
   .cases b
  |_=>cases h
 | o m =>
  cases t with
  |lst a=>
   have b:(if a.length<LIM then Y (((((Md.o m).kid.meet (lf n c)).up,.lst (a++[c])):W)) else J)=Y r:=h;split at b
   .rename_i e;cases b;exact⟨.o m,a,rfl,by simp,e,rfl⟩
   .cases b
  |_=>cases h
theorem rS {u w r:W}(h:iL u w=Y r):∃m a n b,u=(m,.lst a)/\w=(n,.lst b)/\m≠.s/\a.length+b.length<=LIM/\r=((m.kid.meet n.kid).up,.lst<|a++b):=by
 obtain⟨m,t⟩:=u;obtain⟨n,f⟩:=w;cases m with
 |s=>cases h
 | d =>
  cases t with
  | lst a =>
   cases f with
   |lst b=>
    have c:(if a.length+b.length<=LIM then Y ((((Md.d.kid.meet n.kid).up,.lst (a++b)):W)) else J)=Y r:=h;split at c
    .rename_i e;cases c;exact⟨.d,a,n,b,rfl,rfl,by simp,e,rfl⟩
    .cases c
   |_=>cases h
  |_=>cases h
 | o m =>
  cases t with
  | lst a =>
   cases f with
   |lst b=>
    have c:(if a.length+b.length<=LIM then Y (((((Md.o m).kid.meet n.kid).up,.lst (a++b)):W)) else J)=Y r:=h;split at c
    .rename_i e;cases c;exact⟨.o m,a,n,b,rfl,rfl,by simp,e,rfl⟩
    .cases c
   |_=>cases h
  |_=>cases h
theorem xM {a:Rj}{m:Md}{g:U T}{i:U V}{w:W}{y:V}{c:Fp}(k:∀b,c b->b≠a)(l:∀b,G b->b≠a)(d:∀b,c b->¬G b)(p:RepL K Z H m g i c)(r:Rep K Z H w.1 w.2 y G):
  ∃G',(∀b,G' b->(c b\/G b)/\b≠a)/\RepL K (λb=>Z b\/((c b\/G b)/\b≠a/\¬G' b)) H (m.meet<|lf w.1 w.2) (g++[w.2]) (i++[y]) G':=by
 obtain⟨G',e,j⟩:=gZ (G:=λb=>c b\/G b) (λ_ z=>.inl z) (λ_ z=>.inr z) d p<|RepL.one r.lf;have f:∀b,(c b\/G b)->b≠a:=λb h=>h.elim (k b)<|l b;exact⟨G',λb h=>⟨e b h,f b<|e b h⟩,j.zmono λb h=>h.imp id λq=>⟨q.1,f b q.1,q.2⟩⟩
theorem Cr {x:X}{i j:O}{e:E}(l:sf i=Y j)(D:cO)(σ:L2.St)(H:Hp)(h:wS K Wx sf io C (.app x i e) D σ H):
  ∃a g,σ[j]?=Y (Y<|.ref a)/\H a=Y (.lst g)/\wE K sf C e σ H λy H1=>∃g,H1 a=Y (.lst g)/\g.length<sizeLine/\D.nx σ (upd H1 a<|.lst<|g++[y]):=by
 obtain⟨pv,Z,Fs,η,N,A,f⟩:=h;obtain⟨u,h0,h1⟩:=b4<|show Fin K Wx ⟨sf,pv⟩ Z H (tot Fs) D (Fl.of η (fT<|rd η i)<|mO (evX C x e) η<|wJ i) from f;obtain⟨m0,t0,o⟩:=lD h0;obtain⟨a,P,t,ha⟩:=A.listAt l o;obtain⟨⟨w,η1⟩,h2,h3⟩:=b4<|show Fin K Wx ⟨sf,pv⟩ Z H (tot Fs) D (Fl.of η (evX C x e η)<|wJ i) from h1;obtain⟨η2,d,h5⟩:=jG<|show Fin K Wx ⟨sf,pv⟩ Z H (tot Fs) D (nxO η1<|((rd η1 i).bind λu=>iM u w).map λu=>M.put η1 i u) from h3;refine⟨a,P,t,ha,mR (sl:=⟨sf,pv⟩) A h2 λy Z' H' Fs' G c r s=>?_⟩;cases e1:rd η1 i with
 |none=>rw[e1] at d;cases d
 | some u1 =>
  rw[e1] at d;cases e2:iM u1 w with
  |none=>rw[show(Y u1).bind (λu=>iM u w)=iM u1 w from rfl,e2] at d;cases d
  |some r1=>rw[show(Y u1).bind (λu=>iM u w)=iM u1 w from rfl,e2] at d;cases d;obtain⟨m,ts,rfl,hm,hlen,rfl⟩:=xG e2;obtain⟨g,hl,hf,hx,p,v⟩:=c.ourList l hm t e1;have e3:=p.length;obtain⟨G',Q,g2⟩:=xM (a:=a) (λb h=>h.2) (λb h z=>c.dis b h ⟨i,z ▸ hf⟩) (λb h q=>c.dis b q ⟨i,h.1⟩) p r;refine⟨g,hx,nu hl,?_⟩;refine change (K:=K) (m':=(m.kid.meet<|lf w.1 w.2).up) (eH _) c e1 hf (λk hk=>by rw[show sf i=Y k from hk] at l;cases l;exact t) (by rw[LH,e3,L0];lia) v (λb h=>⟨(Q b h).1.imp Nt id,(Q b h).2⟩) (ts':=ts++[w.2]) (by rw[fP];exact g2.zmono λb h=>h.imp id λq=>⟨q.1.imp Nt id,q.2⟩) λZ2 n B2 s2=>h5 σ Z2 _ n B2<|s.trans s2
theorem Cs {x:X}{i j:O}{e:E}(o:sf i=Y j)(D:cO)(σ:L2.St)(H:Hp)(h:wS K Wx sf io C (.ext x i e) D σ H):
  ∃a g,σ[j]?=Y (Y<|.ref a)/\H a=Y (.lst g)/\wE K sf C e σ H λy H1=>∃b g l,y=.ref b/\H1 a=Y (.lst g)/\H1 b=Y (.lst l)/\g.length+l.length<=sizeLine/\D.nx σ (upd H1 a<|.lst<|g++l):=by
 obtain⟨pv,Z,Fs,η,N,A,f⟩:=h;obtain⟨u,h0,h1⟩:=b4<|show Fin K Wx ⟨sf,pv⟩ Z H (tot Fs) D (Fl.of η (fT<|rd η i)<|mO (evX C x e) η<|xN i) from f;obtain⟨m0,t0,v⟩:=lD h0;obtain⟨a,xs0,P,ha⟩:=A.listAt o v;obtain⟨⟨w,η1⟩,h2,h3⟩:=b4<|show Fin K Wx ⟨sf,pv⟩ Z H (tot Fs) D (Fl.of η (evX C x e η)<|xN i) from h1;obtain⟨η2,d,h5⟩:=jG<|show Fin K Wx ⟨sf,pv⟩ Z H (tot Fs) D (nxO η1<|((rd η1 i).bind λu=>iL u w).map λu=>M.put η1 i u) from h3;refine⟨a,xs0,P,ha,mR (sl:=⟨sf,pv⟩) A h2 λy Z' H' Fs' G c r s=>?_⟩;cases e1:rd η1 i with
 |none=>rw[e1] at d;cases d
 | some u1 =>
  rw[e1] at d;cases e2:iL u1 w with
  |none=>rw[show(Y u1).bind (λu=>iL u w)=iL u1 w from rfl,e2] at d;cases d
  |some r1=>rw[show(Y u1).bind (λu=>iL u w)=iL u1 w from rfl,e2] at d;cases d;obtain⟨m,ts,n,us,rfl,rfl,hm,hlen,rfl⟩:=rS e2;obtain⟨g,hl,hf,hx,p,Q⟩:=c.ourList o hm P e1;obtain⟨b,l,rfl,hb,hl2,p2⟩:=bG r;have e3:=p.length;have e4:=p2.length;have hG:∀b,G b->b≠a:=λb h z=>c.dis b h ⟨i,z ▸ hf⟩;obtain⟨G',g1,g2⟩:=gZ (G:=λb=>(Fs' i b/\b≠a)\/G b) (λ_ z=>.inl z) (λ_ z=>.inr z) (λb h q=>c.dis b q ⟨i,h.1⟩) p p2;have ne:∀b,((Fs' i b/\b≠a)\/G b)->b≠a:=λb h=>h.elim And.right<|hG b;refine⟨b,g,l,rfl,hx,hb,LIM_le<|by lia,?_⟩;refine change (K:=K) (m':=(m.kid.meet n.kid).up) (eH _) c e1 hf (λk hk=>by rw[show sf i=Y k from hk] at o;cases o;exact P) (by rw[LH];lia) Q (λb h=>⟨(g1 b h).imp Nt id,ne b<|g1 b h⟩) (ts':=ts++us) (by rw[fP];exact g2.zmono λb h=>h.imp id λq=>⟨q.1.imp Nt id,ne b q.1,q.2⟩) λZ2 t B2 s2=>h5 σ Z2 _ t B2<|s.trans s2
theorem RepL.splitA {m:Md}:∀{k i:U T} {g:U V} {G:Fp},RepL K Z H m (k++i) g G->∃f j G1 c,g=f++j/\(∀a,G1 a->G a)/\(∀a,c a->G a)/\(∀a,G1 a->¬c a)/\RepL K Z H m k f G1/\RepL K Z H m i j c
|[],i,g,G,h=>⟨[],g,no,G,rfl,λ_ z=>z.elim,λ_ z=>z,λ_ z=>z.elim,rfl,h⟩
|t::k,i,g,G,⟨x,r,A,b,e,u,o,hd,p,q⟩=>by obtain⟨f,j,G1,c,s,l,n,d,v,w⟩:=RepL.splitA q;refine⟨x::f,j,λa=>A a\/G1 a,c,by rw[e,s];rfl,λa h=>h.elim (u a) λz=>o a<|l a z,λa h=>o a<|n a h,λa h z=>h.elim (λy=>hd a y<|n a z) λy=>d a y z,⟨x,f,A,G1,rfl,λ_ z=>.inl z,λ_ z=>.inr z,λa h z=>hd a h<|l a z,p,v⟩,w⟩
theorem uN {u:W}{g:U W}{r:W×W}(h:jS u g=Y r):∃m a,u=(m,.lst a)/\m≠.s/\((g=[]/\∃t,a.getLast?=Y t/\r=((m.kid,t),(m,.lst a.dropLast)))\/(∃n t j,g=[(n,.int 0)]/\a=t::j/\r=((m.kid,t),(m,.lst j)))):=by
 obtain⟨m,t⟩:=u
 have i:∀m:Md,m≠.s->jS (m,t) g=Y r->∃f a,(m,t)=(f,.lst a)/\f≠.s/\((g=[]/\∃t,a.getLast?=Y t/\r=((f.kid,t),(f,.lst a.dropLast)))\/(∃n t j,g=[(n,.int 0)]/\a=t::j/\r=((f.kid,t),(f,.lst j)))):=λm p h=>by
  unfold jS at h;split at h
  .cases h
  .rename_i v c k b l;cases b;cases e:c.getLast? with
   |none=>rw[e] at h;cases h
   |some t=>rw[e] at h;cases h;exact⟨_,c,rfl,p,.inl ⟨rfl,t,e,rfl⟩⟩
  .rename_i v x c w k b l;cases b;cases h;exact⟨_,_,rfl,p,.inr ⟨_,_,_,rfl,rfl,rfl⟩⟩
  .cases h
 cases m with
 |s=>cases h
 |d=>exact i .d (by simp) h
 |o m=>exact i (.o m) (by simp) h
theorem ze {i j:O}(hs:sf i=Y j)(σ:L2.St)(H:Hp)(Q:VK)(h:wE K sf C (.pop i []) σ H Q):∃a g y,σ[j]?=Y (Y<|.ref a)/\H a=Y (.lst g)/\g[g.length-1]?=Y y/\Q y (upd H a<|.lst g.dropLast):=by
 obtain⟨pv,Z,Fs,η,w,η',A,ev,k⟩:=h;obtain⟨_,_,h0⟩:=ae<|show(fT<|rd η i).bind (k9 (evL C []) η<|qQ i)=_ from ev;obtain⟨r,h3,h4⟩:=ae<|show(ofO<|(rd η i).bind λw=>jS w []).bind (λr=>.ok (r.1,M.put η i r.2))=_ from h0;cases h4;have o:=cX h3;cases e1:rd η i with
 |none=>rw[e1] at o;cases o
 | some u =>
  rw[e1] at o;obtain⟨m,N,rfl,hm,⟨_,t,x,rfl⟩|⟨n,t,us,e,_⟩⟩:=uN<|show jS u []=Y r from o
  .obtain ⟨v,r4,l4,p4⟩:=A.env i m _ e1;obtain⟨a,g,rfl,hl,hf,hx,p⟩:=pO hm r4
   have P:N=N.dropLast++[t]:=by
    have f:N≠[]:=λz=>by rw[z] at x;cases x
    have:=List.dropLast_concat_getLast f;rw[List.getLast?_eq_some_getLast f] at x;cases x;exact this.symm
   rw[P] at p;obtain⟨l,ys1,G1,G2,rfl,g1,g2,d,p1,p2⟩:=RepL.splitA p;obtain⟨y,r',A1,A2,e,a1,_,_,ry,q⟩:=p2;obtain rfl:r'=[]:=q;subst e;have ry':=ry.mono a1;refine⟨a,l++[y],y,l4 j hs,hx,by simp,?_⟩;rw[List.dropLast_concat];have hl1:l.length<=LIM:=by rw[LH] at hl;lia
   refine pG (K:=K) (G':=G1) (R:=G2) (Q:=λH'=>Q y H') hm A e1 hf (λk hk=>l4 k hk) hl1 p4 (λb h=>⟨.inl (g1 b h).1,(g1 b h).2⟩) (λb h=>⟨.inl (g2 b h).1,(g2 b h).2⟩) (λb h z=>d b z h) (ts':=N.dropLast) (p1.zmono λb h=>.inl h) λZ' Fs' c s tr=>?_;exact k y Z' _ Fs' G2 c (tr<|ry'.zmono λb h=>.inl h)<|s.mono (λb h=>h.elim id λz=>z.elim) λ_ z=>z
  .cases e
end
section
variable {K:Ly}{Wx:L2.St->VK}{sl:Cf}{sf sg:O->L O}{C:Call}{σ σ2:L2.St}{Z Z' Z1:Fp}{H H' H1:Hp}{Fs Fs' Fs1:Fps}{η η' η1 ηb:Env}{G G' G1 R F F':Fp}{tg is vs ls io:U O}{pv val:O->L V}{D:cO}
def gF (K:Ly):U O->TG
|[j]=>dZ j
|[j,l]=>Eu K 2<|lS (dZ j)<|lS (dZ l) D5
|_=>λ_ _ _ _=>RB
theorem r9 {fl:Fl}{g:Env->Fl}(f:Fin K Wx sl Z H F D<|Fl.turn fl g):(∃η',fl=.nx η'/\Fin K Wx sl Z H F D (g η'))\/(∃η',fl=.bk η'/\Fin K Wx sl Z H F D (.nx η'))\/(∃w η',fl=.rt w η'/\Fin K Wx sl Z H F D (.rt w η'))\/(∃t η',fl=.ex t η'/\Fin K Wx sl Z H F D (.ex t η')):=by
 cases fl with
 |nx η=>exact .inl ⟨η,rfl,f⟩
 |bk η=>exact .inr<|.inl ⟨η,rfl,f⟩
 |rt w η=>exact .inr<|.inr<|.inl ⟨w,η,rfl,f⟩
 |ex t η=>exact .inr<|.inr<|.inr ⟨t,η,rfl,f⟩
 |no=>exact f.elim
theorem l9 {fl:Fl}{g:Env->Fl}{N:L2.St->Hp->Prop}(f:Fin K Wx sl Z H F D<|Fl.turn fl g)(hN:∀η' a Z' H' Fs',fl=.nx η'->Fin K Wx sl Z H F D (g η')->At K sl a Z' H' Fs' η' no->Step Z H F Z' H' (tot Fs')->N a H'):Fin K Wx sl Z H F {D with nx:=N,ct:=N,bk:=D.nx} fl:=by
 rcases r9 f with⟨η',rfl,f⟩|⟨η',rfl,f⟩|⟨w,η',rfl,f⟩|⟨t,η',rfl,f⟩
 .exactλa Z' H' Fs' A s=>hN η' a Z' H' Fs' rfl f A s
 .exact f
 .exact f
 .exact f
theorem xh {n i:O}{c:It}{ts:U<|U W}{ws:U W}{o:U O}{x:V}{Q:L2.St->Hp->Prop}(hn:tg.length=n)(nd:tg.Nodup)(N:sj sf io pv)(f:∀t∈tg,t ∉ io)(d:tg.map sf=o.map Y)(hz:∀a,Z1 a->Z a)(st:Stay Z1 H1 H)(m:Yld K c Z1 H1 ts n)(A:At K ⟨sf,pv⟩ σ Z H Fs η no)
  (P:ts[i]?=Y ws) (hb:bC tg ws η=Y ηb) (y:c.yld i H x H') (k:∀σ2 s g,At K ⟨sf,pv⟩ σ2 Z s g ηb no->Step Z H (tot Fs) Z s (tot g)->Q σ2 s):gF K o x σ H' Q:=by
 have hi:i<ts.length:=(Mo.mp P).1
 match n,m with
 | 1,m =>
  obtain⟨e0,w,e,r⟩:=m H i x H' st hi y;rw[e0];rw[P] at e;cases e
  match tg,hn,o,d with
  |[t],_,[j],d=>
   cases hb;have v:sf t=Y j:=by simpa using d
   exact k _ H _ (At.set N (f t<|by simp) v A<|r.zmono hz)<|(Step.refl _ _ _).mono (λ_ z=>z) λa h=>(cK h).elim id λz=>z.elim
  |[t],_,[],d=>simp at d
  |[t],_,_::_::_,d=>simp at d
 | 2,m =>
  obtain⟨p,y1,z1,u,w,rfl,sm,hq,e,r1,r2⟩:=m H i x H' st hi y;rw[P] at e;cases e
  match tg,hn,o,d with
  |[t,l],_,[j,j'],d=>
   cases hb;have v:sf t=Y j:=by simp at d;exact d.1
   have M:sf l=Y j':=by simp at d;exact d.2
   have s0:Step Z H no Z H' no:=iw sm;obtain⟨A1,s1⟩:=A.op de s0;have sn:Stay Z H H':=lA sm;have r1':Rep K Z H' u.1 u.2 y1 no:=(r1.zmono hz).keep sn (λ_ z=>z) λ_ _ z=>z.elim;have r2':Rep K Z H' w.1 w.2 z1 no:=(r2.zmono hz).keep sn (λ_ z=>z) λ_ _ z=>z.elim;have A2:=At.set N (f t<|by simp) v A1 r1';have A3:=At.set N (f l<|by simp) M A2 r2';refine⟨p,[y1,z1],rfl,hq,rfl,y1,[z1],rfl,z1,[],rfl,rfl,k _ _ _ A3<|s1.mono (λa h=>h.elim id λz=>z.elim) λa h=>?_⟩;rcases cK h with h|h
   .exact .inl ((cK h).elim id λz=>z.elim)
   .exact h.elim
  |[t,l],_,[],d=>simp at d
  |[t,l],_,[_],d=>simp at d
  |[t,l],_,_::_::_::_,d=>simp at d
theorem wN {n:O}{k:Ik}{u:U E}{js:U O}{e:U S}(hn:tg.length=n)(nd:tg.Nodup)(hio:∀t∈tg,t ∉ io)(hjs:tg.map sf=js.map Y)(D:cO)(σ:L2.St)(H:Hp)(h:wS K Wx sf io C (.forS vs ls k u tg e) D σ H):
  GQ (wI K sf C n k u) (gF K js) (wSs K Wx sf io C e) D σ H:=by
 obtain⟨pv,Z,Fs,η,N,A,f⟩:=h;obtain⟨⟨ws,η2⟩,h1,h2⟩:=b4<|show Fin K Wx ⟨sf,pv⟩ Z H (tot Fs) D (Fl.of η (evL C u<|pick vs ls η)<|A8 vs k tg (evSs C e) η) from f;obtain⟨⟨g,η3⟩,h3,h4⟩:=b4<|show Fin K Wx ⟨sf,pv⟩ Z H (tot Fs) D (Fl.of η (ret (M.share vs η)<|bO k ws)<|wH tg<|evSs C e) from h2;obtain⟨ts',ht,e3⟩:=aq h3;have e4:g=ts':=Rw Nr e3;have e5:η3=M.share vs η:=Rw M7 e3;subst e4 e5;have h4':Fin K Wx ⟨sf,pv⟩ Z H (tot Fs) D (bY tg (evSs C e) g (M.share vs η)):=h4;refine⟨pv,_,vM,_,ws,η2,g,A.quiet (vs:=vs) (ls:=ls),h1,ht,λd Z1 H1 Fs1 c s wk yl=>?_⟩;obtain⟨B1,s1⟩:=eT (G:=no) A de c.gd.zal (s.mono (F2:=λa=>tot Fs1 a\/no a) (λ_ z=>z) λa h=>h.elim id λz=>z.elim) λa h=>ke h;obtain⟨B2,s2⟩:=B1.share (vs:=vs);have s3:=(s2 s1).mono (F2:=tot<|gp Fs vs) (λ_ z=>z) λ_ z=>.inl z;have zz:∀a,Z1 a->((Z1 a/\¬dB Fs vs a)\/dB Fs vs a):=λa h=>(QH<|dB Fs vs a).elim .inr λq=>.inl ⟨h,q⟩;refine⟨λi m v H'=>m=g.length-i/\i<=g.length/\∃p j l,At K ⟨sf,pv⟩ v p H' j l no/\Step (λa=>(Z1 a/\¬dB Fs vs a)\/dB Fs vs a) H1 (tot<|gp Fs vs) p H' (tot j)/\Fin K Wx ⟨sf,pv⟩ p H' (tot j) D (bY tg (evSs C e) (g.drop i) l),⟨g.length,by simp,Mw _,_,_,_,B2,Step.refl _ _ _,h4'.step s3⟩,?_⟩;rintro i m σi w ⟨rfl,hi,p,j,l,Ai,si,P⟩;have st:Stay Z1 H1 w:=by have:=B2.gd.own.stay si;exact⟨λa o h=>this.1 a o<|zz a h,this.2⟩
 by_cases r:i<g.length
 .right;refine⟨wk.go w i st r,_,λv H' Q=>⟨g.length-(i+1),by lia,Q⟩,λx H' y=>?_⟩;have Q:g[i]?=Y g[i]:=by simp[r]
  rw[jx Q] at P;obtain⟨ηb,hb,fb⟩:=b4<|show Fin K Wx ⟨sf,pv⟩ p w (tot j) D (Fl.of l (ofO<|bC tg g[i] l) λη1=>Fl.turn (evSs C e η1)<|bY tg (evSs C e)<|g.drop<|i+1) from P;refine xh hn nd N hio hjs (λa h=>si.zm a<|zz a h) st yl Ai Q (cX hb) y λσ2 H2 Fs2 A2 t2=>?_;refine⟨pv,p,Fs2,ηb,N,A2,l9 (fb.step t2) λη' v Z' H' Fs' _ f' A' s'=>⟨rfl,r,Z',Fs',η',A',(si.trans t2).trans s',f'.step s'⟩⟩
 .left;have hi':i=g.length:=by lia
  subst hi';rw[P6] at P;exact⟨wk.stop w _ st<|LM _,P σi p w j Ai<|Step.refl _ _ _⟩
theorem Cj {x:X}{c:E}{d:U S}(D:cO)(σ:L2.St)(H:Hp)(h:wS K Wx sf io C (.whl x c d) D σ H):x5 (wT K sf C c) (wSs K Wx sf io C d) D σ H:=by
 obtain⟨pv,Z,Fs,η,N,A,f⟩:=h;have j:Fin K Wx ⟨sf,pv⟩ Z H (tot Fs) D (lR (evT C x c) (evSs C d) tF η):=f;refine⟨λm g H'=>∃Z' Fs' η',At K ⟨sf,pv⟩ g Z' H' Fs' η' no/\Fin K Wx ⟨sf,pv⟩ Z' H' (tot Fs') D (lR (evT C x c) (evSs C d) m η'),⟨tF,Z,Fs,η,A,j⟩,?_⟩;rintro m k H1 ⟨Z1,Fs1,η1,r,n⟩;cases m with
 |zero=>exact n.elim
 | succ m =>
  obtain⟨⟨b,e⟩,u,o⟩:=b4<|show Fin K Wx ⟨sf,pv⟩ Z1 H1 (tot Fs1) D (Fl.of η1 (evT C x c η1)<|kIf (wm (evSs C d)<|lR (evT C x c) (evSs C d) m) .nx) from n;refine Gv (sl:=⟨sf,pv⟩) r u λl t i a s=>?_;cases b with
  |true=>rw[Rk rfl];refine⟨_,λg H' v=>⟨m,OS m,v⟩,pv,l,i,e,N,a,l9 (Fin.step s<|show Fin K Wx ⟨sf,pv⟩ Z1 H1 (tot Fs1) D (Fl.turn (evSs C d e)<|lR (evT C x c) (evSs C d) m) from o) λη' g Z' H' Fs' _ j p w=>⟨Z',Fs',η',p,j.step w⟩⟩
  |false=>rw[Rn LX];exact(show Fin K Wx ⟨sf,pv⟩ Z1 H1 (tot Fs1) D (.nx e) from o) k l t i a s
end
end MR

namespace MR
open PySem PySem.Spec PyProof.Rows L2 L3
section
variable {X:Cx}{sf sg:O->L O}{C:M.Call}{pos p2:Pos}{ea eb ec:Rv}{a b c:M.E}{h:Rl}{n:O}
theorem aj {e:Rv}{t i:TE}(h:PE X e t)(j:∀g H Q,i g H Q->t g H Q):PE X e i:=λf s g H Q d q=>h f s g H Q d<|j g H Q q
theorem jB {e:Rv}{t i:TT}(h:PT X e t)(j:∀g H Q,i g H Q->t g H Q):PT X e i:=λf s g H Q d q=>h f s g H Q d<|j g H Q q
theorem BH {e:Rv}{t j:TT}(h:PW X e t)(k:∀i H Q,j i H Q->t i H Q):PW X e j:=λf g s i H Q d q=>h f g s i H Q d<|k i H Q q
theorem l5 {g:U Rv}{t i:TA}(h:PA X g t)(j:∀f H Q,i f H Q->t f H Q):PA X g i:=λpos e s f H Q d q=>h pos e s f H Q d<|j f H Q q
theorem dM {s:Ry}{t g:TS}(h:PS X s t)(i:∀D f H,g D f H->t D f H):PS X s g:=λe s f H D d q=>h e s f H D d<|i D f H q
theorem nL {s:U Ry}{t g:TS}(h:PSs X s t)(i:∀D f H,g D f H->t D f H):PSs X s g:=λe s f H D d q=>h e s f H D d<|i D f H q
theorem je {j e:Rv}{t i:TI}(h:PI X j e t)(k:∀g H R,i g H R->t g H R):PI X j e i:=λf s g H R d q=>h f s g H R d<|k g H R q
theorem IC {i e:Rv}{t j:TI}(h:PI X i e t)(k:PI X i e j):PI X i e (λg H R=>t g H R\/j g H R):=λf s g H R d q=>q.elim (h f s g H R d)<|k f s g H R d
abbrev SE (X:Cx)(sf:O->L O)(C:M.Call)(d:Rv)(e:M.E):Prop:=PE X d<|wE X.K sf C e
abbrev SB (X:Cx)(sf:O->L O)(C:M.Call)(d:Rv)(e:M.E):Prop:=PT X d<|wT X.K sf C e
abbrev SL (X:Cx)(sf:O->L O)(C:M.Call)(e:U Rv)(d:U M.E):Prop:=PA X e<|wL X.K sf C d
abbrev SA (X:Cx)(sf:O->L O)(C:M.Call)(e:U Rv)(d:U M.E):Prop:=PA X e<|wA X.K sf C d
abbrev SS (X:Cx)(sf:O->L O)(d:U O)(C:M.Call)(e:Ry)(s:M.S):Prop:=PS X e<|wS X.K (xw X) sf d C s
abbrev SSs (X:Cx)(sf:O->L O)(d:U O)(C:M.Call)(e:U Ry)(s:U M.S):Prop:=PSs X e<|wSs X.K (xw X) sf d C s
theorem sV (j:O){i:O}{x:Str}(e:sf i=Y j:=by rfl)(hN:X.N[j]?=Y x:=by rfl)(f:Vis X.env.scope x:=by first|exact L1 rfl|exact LV (L1 rfl)|exact LV<|LV rfl)(hd:(x==("__debug__":Str))=false:=by decide)
  (d:(x==("__classdict__":Str))=false:=by decide):SE X sf C (.Name x pos) (.var i):=aj (bR hN f hd d)<|CO e
theorem sM (j:O){i:O}{x:Str}(e:sf i=Y j:=by rfl)(hN:X.N[j]?=Y x:=by rfl)(f:Vis X.env.scope x:=by first|exact L1 rfl|exact LV (L1 rfl)|exact LV<|LV rfl)(hd:(x==("__debug__":Str))=false:=by decide)
  (d:(x==("__classdict__":Str))=false:=by decide):SE X sf C (.Name x pos) (.mv i):=aj (bR hN f hd d)<|FH (λ_=>rfl) e
theorem sI {i:I}{k:O}:SE X sf C (.Constant (.int i) k pos) (.cst<|.int i):=aj mJ<|iO λ{_ _}=>rfl
theorem sO {i:Rl}{k:O}:SE X sf C (.Constant (.bool i) k pos) (.cst<|.bl i):=aj FX<|iO λ{_ _}=>rfl
theorem sN {k:O}:SE X sf C (.Constant .none k pos) (.cst .non):=aj CH<|iO λ{_ _}=>rfl
theorem pj (s:Rr)(f:s.length<=1000):M.sOk (Str.ofString s)=true:=by
 unfold M.sOk;rw[Str.ofString_eq_toList,LQ];refine⟨?_,Ri ?_⟩
 .rw [OC];intro x hx;rw[List.mem_toArray,Mm] at hx;obtain⟨c,_,rfl⟩:=hx;refine Ri ?_;have:=c.valid;have d:c.toNat<0x110000:=by have e:=c.valid;unfold UInt32.isValidChar Nat.isValidChar at e;show c.val.toNat<_;lia
  exact d
 .rw [LZ,LB,O1];exact LL f<|by decide
theorem sS {s:Rr}{k:O}(d:s.length<=1000:=by decide):SE X sf C (.Constant (.str<|Str.ofString s) k pos) (.cst<|.str<|Str.ofString s):=aj C4<|iO λ{_ _}=>⟨rfl,pj s d⟩
theorem sl0:SL X sf C [] []:=l5 fU FF
theorem slc {d:U Rv}{bs:U M.E}(e:SE X sf C ea a)(f:SL X sf C d bs)(g:Lz (ea::d) X.env=(Lv,Rz ea X.env)::Lz d X.env:=by rfl):SL X sf C (ea::d) (a::bs):=l5 (cU e f g) Bv
theorem sT {d:U Rv}{bs:U M.E}{f:O}(h:SL X sf C d bs)(e:bs.length<=M.LIM:=by decide):SE X sf C (.Tuple d f pos) (.tup bs):=aj (Cv h)<|CN e
theorem sLs {d:U Rv}{bs:U M.E}(e:SL X sf C d bs)(f:bs.length<=M.LIM:=by decide):SE X sf C (.List d pos) (.lst h bs):=aj (El e)<|En f
theorem bx (o:SE X sf C ea a)(p:SE X sf C eb b):SE X sf C (.BinOp ea .Add eb pos) (.op .add h [a,b]):=
 aj (gc (op_add.or<|op_add_str.or<|op_cat.or pb) o p) (aN (yy (BN X.K) λ{Z H G Q a b w x A} i j l e u r k=>by
  obtain⟨y,f,g⟩:=r;refine⟨a,b,w,x,rfl,rfl,i,j,l,LIM_le e,λv z d t=>gX (m:=.s) u f ?_ g k d t⟩;rw[LH];exact e))
theorem lX (d:SE X sf C ea a)(e:SE X sf C eb b):SE X sf C (.BinOp ea .Sub eb pos) (.op .sub h [a,b]):=aj (gc xk d e)<|aN Aj
theorem K0 (d:SE X sf C ea a)(e:SE X sf C eb b):SE X sf C (.BinOp ea .Mult eb pos) (.op .mul h [a,b]):=aj (gc (op_mul.or CL) d e)<|aN zv
theorem gn (d:SE X sf C ea a)(e:SE X sf C eb b):SE X sf C (.BinOp ea .FloorDiv eb pos) (.op .fdiv h [a,b]):=aj (gc yD d e)<|aN xX
theorem fm (d:SE X sf C ea a)(e:SE X sf C eb b):SE X sf C (.BinOp ea .Mod eb pos) (.op .mod h [a,b]):=aj (gc CV d e)<|aN zg
theorem Ib (d:SE X sf C ea a)(e:SE X sf C eb b):SE X sf C (.BinOp ea .Pow eb pos) (.op .pow h [a,b]):=aj (gc Ef d e)<|aN AB
theorem KO (d:SE X sf C ea a):SE X sf C (.UnaryOp .USub ea pos) (.op .neg h [a]):=aj (HC DA d)<|Eg zZ
theorem sGt (d:SE X sf C ea a)(e:SE X sf C eb b):SE X sf C (.Compare ea [.Gt] [eb] pos) (.op .gt h [a,b]):=aj (gB BS d e<|cQ _)<|aN uD
theorem sGe (d:SE X sf C ea a)(e:SE X sf C eb b):SE X sf C (.Compare ea [.GtE] [eb] pos) (.op .ge h [a,b]):=aj (gB BB d e<|cQ _)<|aN xj
theorem sIx (d:SE X sf C ea a)(e:SE X sf C eb b)(f:gC eb:=by intro _ _;rfl):SE X sf C (.Subscript ea eb pos) (.op .ix h [a,b]):=aj (BI (ix_any.or ES) d e f)<|aN C6
mutual
def th:M.T->Th
|.non=>.non | .bl b=>.bl b | .int i=>.int i | .str x=>.str x | .tup ts=>.tup (ths ts) | .lst ts=>.lst (ths ts) | .dct _ _=>.non | .ins _ _ _=>.non | .obj _ _ _=>.non | .dtt _ _=>.non | .scr _=>.non | .gone=>.non
def ths:U M.T->U Th
|[]=>[]
|t::ts=>th t::ths ts
end
mutual
theorem oZ {K:Ly}{Z:Fp}{H:Hp}:∀{t:M.T} {m:M.Md} {v:V} {G:Fp} {n:O},M.dp t<=n->n<=64->Rep K Z H m t v G->Has K H (th t) v/\(toD<|th t).canLay0=Lw/\(toD<|th t).depth<=n
|.non,_,_,_,_,_,_,r=>⟨r,rfl,Mw _⟩
|.bl _,_,_,_,_,_,_,r=>⟨r,rfl,Mw _⟩
|.int _,_,_,_,_,_,_,r=>⟨r,rfl,Mw _⟩
|.str x,_,_,_,_,_,_,r=>⟨r.1,by have h:=r.2;unfold M.sOk at h;rw[LQ] at h;exact h.1,Mw _⟩
| .tup ts,m,v,G,n,hd,hn,⟨a,xs,e,q,l,r⟩=>by
 have hd':M.dps ts+1<=n:=hd
 match n,hd' with
 |n+1,hd'=>obtain⟨h1,h2,h3⟩:=ij (n:=n) (by lia) (by lia) r;exact⟨⟨a,xs,e,q,h1⟩,h2,PH h3⟩
| .lst ts,m,v,G,n,hd,hn,⟨a,xs,e,l,q,r⟩=>by
 have hd':M.dps ts+1<=n:=hd
 match n,hd' with
 |n+1,hd'=>obtain⟨h1,h2,h3⟩:=ij (n:=n) (by lia) (by lia) r;exact⟨⟨a,xs,e,by cases m<;>exact q.2,h1⟩,h2,PH h3⟩
|.dct _ _,_,_,_,_,hd,hn,_=>by have:1000<=64:=LL hd hn;lia
|.dtt _ _,_,_,_,_,hd,hn,_=>by have:1000<=64:=LL hd hn;lia
|.ins _ _ _,_,_,_,_,hd,hn,_=>by have:1000<=64:=LL hd hn;lia
|.obj _ _ _,_,_,_,_,hd,hn,_=>by have:1000<=64:=LL hd hn;lia
|.gone,_,_,_,_,hd,hn,_=>by have:1000<=64:=LL hd hn;lia
|.scr _,_,_,_,_,hd,hn,_=>by have:1000<=64:=LL hd hn;lia
theorem ij {K:Ly}{Z:Fp}{H:Hp}:∀{ts:U M.T} {m:M.Md} {xs:U V} {G:Fp} {n:O},M.dps ts<=n->n<=64->RepL K Z H m ts xs G->HasL K H (ths ts) xs/\PyData.canLayAll0 (gg<|ths ts)=Lw/\PyData.depthAll (gg<|ths ts)<=n
|[],_,_,_,_,_,_,r=>⟨r,rfl,Mw _⟩
| t::ts,m,xs,G,n,hd,hn,⟨x,r,G1,G2,e,_,_,_,p,q⟩=>by
 have hd':max (M.dp t) (M.dps ts)<=n:=hd;obtain⟨h1,h2,h3⟩:=oZ (n:=n) (by lia) hn p;obtain⟨k1,k2,k3⟩:=ij (n:=n) (by lia) hn q;refine⟨⟨x,r,e,h1,k1⟩,?_,?_⟩
 .show ((toD<|th t).canLay0&&PyData.canLayAll0 (gg<|ths ts))=Lw;rw[h2,k2];rfl
 .show max (toD<|th t).depth (PyData.depthAll<|gg<|ths ts)<=n;lia
end
mutual
theorem m9:∀(t u:M.T),M.dp t<=64->M.dp u<=64->PyData.eqv (toD<|th t) (toD<|th u)=M.eqT t u
|.dct _ _,_,h,_=>by have:1000<=64:=h;lia
|.dtt _ _,_,h,_=>by have:1000<=64:=h;lia
|.ins _ _ _,_,h,_=>by have:1000<=64:=h;lia
|.obj _ _ _,_,h,_=>by have:1000<=64:=h;lia
|.gone,_,h,_=>by have:1000<=64:=h;lia
|.scr _,_,h,_=>by have:1000<=64:=h;lia
|.non,u,_,h=>by cases u<;>first|rfl|(have:1000<=64:=h;lia)
|.bl a,u,_,h=>by cases u<;>first|rfl|(cases a<;>rfl)|(have:1000<=64:=h;lia)
|.int i,u,_,h=>by
 cases u with
 |bl b=>cases b<;>rfl
 |_=>first|rfl|(have:1000<=64:=h;lia)
|.str x,u,_,h=>by cases u<;>first|rfl|(have:1000<=64:=h;lia)
|.tup ts,u,h1,h=>by
 cases u with
 |tup us=>exact jK ts us (by have:M.dps ts+1<=64:=h1;lia) (by have:M.dps us+1<=64:=h;lia)
 |_=>first|rfl|(have:1000<=64:=h;lia)
|.lst ts,u,h1,h=>by
 cases u with
 |lst us=>exact jK ts us (by have:M.dps ts+1<=64:=h1;lia) (by have:M.dps us+1<=64:=h;lia)
 |_=>first|rfl|(have:1000<=64:=h;lia)
theorem jK:∀(ts us:U M.T),M.dps ts<=64->M.dps us<=64->PyData.eqvAll (gg<|ths ts) (gg<|ths us)=M.eqTs ts us
|[],[],_,_=>rfl
|[],_::_,_,_=>rfl
|_::_,[],_,_=>rfl
|t::ts,u::us,h1,h2=>by have h1':max (M.dp t) (M.dps ts)<=64:=h1;have h2':max (M.dp u) (M.dps us)<=64:=h2;show(PyData.eqv (toD<|th t) (toD<|th u)&&PyData.eqvAll (gg<|ths ts) (gg<|ths us))=(M.eqT t u&&M.eqTs ts us);rw[m9 t u (by lia)<|by lia,jK ts us (by lia)<|by lia]
end
theorem km {K:Ly}{Z:Fp}{H:Hp}{t:M.T}{m:M.Md}{v:V}{G:Fp}(hd:M.dp t<=64)(r:Rep K Z H m t v G):Has K H (th t) v/\ko (th t):=by obtain⟨d,e,f⟩:=oZ hd (LM _) r;refine⟨d,?_⟩;show((toD<|th t).canLay0&&decide ((toD<|th t).depth<=64))=Lw;rw[e,Ri f];rfl
theorem uF {K:Ly}:Loc K 2 .eq h λj H Q=>∀x y,j=[x,y]->∃t i,Has K H t x/\Has K H i y/\ko t/\ko i/\Q (.bl<|PyData.eqv (toD t)<|toD i) H:=by
 intro F w j Z H G Q v e r z N k x y hx;subst hx;obtain⟨⟨m,a⟩,⟨n,b⟩,rfl⟩:=eV r.length.symm;obtain⟨s,u,A,D,d,r1,r2⟩:=cS r;have g:(if decide (M.dp a<=64)&&decide (M.dp b<=64) then Y ((.d,.bl (M.eqT a b)):M.W) else J)=Y w:=e;split at g
 .rename_i f;rw[LQ,Ru,Ru] at f;cases g;obtain⟨l,p⟩:=km f.1 r1;obtain⟨o,o2⟩:=km f.2 r2;refine⟨th a,th b,l,o,p,o2,?_⟩;rw[m9 a b f.1 f.2];exact cB k
 .cases g
theorem CJ {K:Ly}:Loc K 2 .ne h λj H Q=>∀x y,j=[x,y]->∃t i,Has K H t x/\Has K H i y/\ko t/\ko i/\Q (.bl<|!PyData.eqv (toD t) (toD i)) H:=by
 intro F w j Z H G Q v e r z N k x y hx;subst hx;obtain⟨⟨m,a⟩,⟨n,b⟩,rfl⟩:=eV r.length.symm;obtain⟨s,u,A,D,d,r1,r2⟩:=cS r;have g:(if decide (M.dp a<=64)&&decide (M.dp b<=64) then Y ((.d,.bl (!M.eqT a b)):M.W) else J)=Y w:=e;split at g
 .rename_i f;rw[LQ,Ru,Ru] at f;cases g;obtain⟨l,p⟩:=km f.1 r1;obtain⟨o,o2⟩:=km f.2 r2;refine⟨th a,th b,l,o,p,o2,?_⟩;rw[m9 a b f.1 f.2];exact cB k
 .cases g
theorem sEq (f:Room n X.A)(d:SE X sf C ea a)(e:SE X sf C eb b):SE X sf C (.Compare ea [.Eq] [eb] pos) (.op .eq h [a,b]):=aj (gB (oN f.units) d e<|cQ _)<|aN uF
theorem pA {K:Ly}{Z:Fp}{H:Hp}{t:M.T}{m:M.Md}{x:V}{G:Fp}(d:t.isG=Lv)(r:Rep K Z H m t x G):decide (x=V.non)=t.isN:=by
 cases t with
 |non=>rw[show x=_ from r];rfl
 |bl _=>rw[show x=_ from r];rfl
 |int _=>rw[show x=_ from r];rfl
 |str _=>rw[show x=_ from r.1];rfl
 |tup _=>obtain⟨p,_,e,_⟩:=r;rw[show x=_ from e];rfl
 |lst _=>obtain⟨p,_,e,_⟩:=r;rw[show x=_ from e];rfl
 |scr _=>obtain⟨p,e,_⟩:=r;rw[show x=_ from e];rfl
 |dct _ _=>obtain⟨p,_,e,_⟩:=r;rw[show x=_ from e];rfl
 |ins _ _ _=>obtain⟨_,p,_,_,_,e,_⟩:=r;rw[show x=_ from e];rfl
 |obj _ _ _=>obtain⟨_,p,_,_,e,_⟩:=r;rw[show x=_ from e];rfl
 |dtt _ _=>cases d
 |gone=>cases d
theorem ifN {d:Type}{b:Rl}{x:L d}{y:d}(h:(if b=Lw then J else x)=Y y):b=Lv/\x=Y y:=by cases b<;>first|exact⟨rfl,h⟩|cases h
theorem Cp {K:Ly}:Loc K 2 .is h λf H Q=>∀x y,f=[x,y]->y=.non/\Q (.bl<|decide (x=.non)) H:=by
 intro t w f Z H G Q l e r o u k x y hx;subst hx;obtain⟨⟨m,a⟩,⟨n,b⟩,rfl⟩:=eV r.length.symm;obtain⟨i,j,p,s,d,r1,r2⟩:=cS r;obtain rfl:b=.non:=by cases b<;>first|rfl|(cases e;done)|(cases a<;>cases e)
 obtain⟨g,e⟩:=ifN<|show(if a.isG=Lw then J else Y _)=_ from e;cases e;rw[pA g r1];exact⟨r2,cB k⟩
theorem qL {K:Ly}:Loc K 2 .isnot h λf H Q=>∀x y,f=[x,y]->y=.non/\Q (.bl<|!decide (x=.non)) H:=by
 intro t w f Z H G Q l e r o u k x y hx;subst hx;obtain⟨⟨m,a⟩,⟨n,b⟩,rfl⟩:=eV r.length.symm;obtain⟨i,j,p,s,d,r1,r2⟩:=cS r;obtain rfl:b=.non:=by cases b<;>first|rfl|(cases e;done)|(cases a<;>cases e)
 obtain⟨g,e⟩:=ifN<|show(if a.isG=Lw then J else Y _)=_ from e;cases e;rw[pA g r1];exact⟨r2,cB k⟩
theorem oI {K:Ly}{Z:Fp}{H:Hp}{G:Fp}{m:M.Md}{f:U M.T}{i:U V}(lo g:L I)(r:RepL K Z H m f i G):RepL K Z H m (M.cut f lo g) (fG i lo g) G:=by
 have e:=r.length;have j:∀n d o,HT.sIx n d o=M.sIx n d o:=λn d o=>by cases o<;>rfl
 have k:fG i lo g=(i.drop (M.sIx f.length 0 lo)).take (M.sIx f.length f.length g-M.sIx f.length 0 lo):=by unfold fG;rw[j,j,e]
 rw[k];exact(r.drop _).take _
theorem uZ (g:U I)(lo e:L I):fG (g.map V.int) lo e=(M.cut g lo e).map V.int:=by
 have f:∀n d o,HT.sIx n d o=M.sIx n d o:=λn d o=>by cases o<;>rfl
 unfold fG M.cut;rw[f,f,LB,List.map_take,List.map_drop]
theorem CD {f:Type}(d:U f)(lo e:L I):(M.cut d lo e).length<=d.length:=by unfold M.cut;rw[NS,NR];lia
theorem rX {K:Ly}{Z:Fp}{H:Hp}{G t:Fp}{Q:VK}{m:M.Md}{a:M.T}{x:V}{w:M.W}{lo hi:L I}(D:∀b,t b->G b)(A:Own Z H G)(F:∀a,Z a->H a≠J)(r:Rep K Z H m a x t)
  (e:(match a with | .lst j=>M.newL h m.kid (M.cut j lo hi) | .tup j=>Y ((.s,.tup<|M.cut j lo hi):M.W) | .scr y=>Y (.d,.lst<|(M.cut y lo hi).map M.T.int)|_=>J)=Y w) (k:Out K Z H G w Q):y0 K x lo hi H Q\/yo K x lo hi H Q:=by
 cases a with
 |lst j=>obtain⟨p,o,rfl,g,u,q⟩:=bG r;refine .inl ⟨p,o,rfl,.inl<|.inl g,λl f=>?_⟩;exact d0 A F (LL (c8 o lo hi) u) ⟨t,D,(oI lo hi q).zmono λ_ z=>.inl z⟩ e k f
 |tup j=>obtain⟨p,o,rfl,g,u,q⟩:=cD r;cases e;refine .inr ⟨p,o,rfl,g,λv H' i hv=>?_⟩;exact gX (m:=.s) (G':=no) A (λ_ z=>z.elim) (LL (c8 o lo hi) u) ((RepL.sh<|oI lo hi q).zmono λb P=>P.imp id λz=>⟨D b z,λq=>q⟩) k i hv
 |scr y=>obtain⟨p,rfl,N,g⟩:=r;cases e;refine .inl ⟨p,_,rfl,g.sq,λl f=>?_⟩;rw[uZ];exact cH (m:=.d) (G':=no) A F (λ_ z=>z.elim) (by rw[LB];exact LL (CD y lo hi) N) (nE _) (by simp) k f
 |_=>cases e
theorem zP {o:Pos}(f:SE X sf C ea a)(g:SE X sf C eb b):SE X sf C (.Subscript ea (.Slice J (Y eb) J o) pos) (.op .sl2 h [a,b]):=
 aj (mE (sl_list.or pS) f oY<|pH g) (λt H Q j=>aN (r:=λx y H Q=>∃i,y=.int i/\(y0 X.K x J (Y i) H Q\/yo X.K x J (Y i) H Q)) (by
  intro D w F Z H G Q z e r l s k x y hx;subst hx;obtain⟨⟨m,a⟩,⟨n,b⟩,rfl⟩:=eV r.length.symm;obtain⟨u,v,p,A,d,r1,r2⟩:=cS r;obtain⟨i,rfl⟩:∃i,b=.int i:=by cases a<;>first|(cases e;done)|(cases b<;>first|exact⟨_,rfl⟩|(cases e;done))
  exact⟨i,r2,rX (h:=h) (lo:=J) (hi:=Y i) p l s r1 (by cases a<;>exact e) k⟩) t H Q j)
theorem q8 {o:Pos}(f:SE X sf C ea a)(g:SE X sf C eb b):SE X sf C (.Subscript ea (.Slice (Y eb) J J o) pos) (.op .sl1 h [a,b]):=
 aj (mE (sl_list.or pS) f (pH g) oY) (λt H Q j=>aN (r:=λx y H Q=>∃i,y=.int i/\(y0 X.K x (Y i) J H Q\/yo X.K x (Y i) J H Q)) (by
  intro D w F Z H G Q z e r l s k x y hx;subst hx;obtain⟨⟨m,a⟩,⟨n,b⟩,rfl⟩:=eV r.length.symm;obtain⟨u,v,p,A,d,r1,r2⟩:=cS r;obtain⟨i,rfl⟩:∃i,b=.int i:=by cases a<;>first|(cases e;done)|(cases b<;>first|exact⟨_,rfl⟩|(cases e;done))
  exact⟨i,r2,rX (h:=h) (lo:=Y i) (hi:=J) p l s r1 (by cases a<;>exact e) k⟩) t H Q j)
theorem ml {K:Ly}:Loc K 1 .len h λd H Q=>∃x n,d=[x]/\G7 K x H n/\Q (.int n) H:=by intro j w d Z H G Q g e r i l k;obtain⟨x,n,hx,f,q⟩:=yN (h:=h) j w d Z H G Q g e r i l k;exact⟨x,n,hx,by cases x<;>exact f,q⟩
section
variable {p:Pos}{x1:Str}
theorem dw (hm:X.mg "len"=J)(f:Gl X "len":=by rfl)(ha:SE X sf C ea a)(e:Lz [ea] X.env=(Lv,Rz ea X.env)::Lz [] X.env:=by rfl)(d:(LY pos<|Lz [] X.env).any (·.1)=false:=by rfl):SE X sf C (.Call (.Name "len" p) [ea] [] pos) (.op .len h [a]):=
 aj (ez mD f hm PM (slc ha sl0 e) (by decide) (by decide) e d) (eO ml rfl)
theorem zF (f:X.calm=true:=by rfl)(hm:X.mg "all"=J)(g:Gl X "all":=by rfl)(ha:SE X sf C ea a)(e:Lz [ea] X.env=(Lv,Rz ea X.env)::Lz [] X.env:=by rfl)(d:(LY pos<|Lz [] X.env).any (·.1)=false:=by rfl):SE X sf C (.Call (.Name "all" p) [ea] [] pos) (.op .all h [a]):=
 aj (ez (qo f) g hm (by rfl) (slc ha sl0 e) (by decide) (by decide) e d) (eO AN rfl)
theorem BV (hm:X.mg "list"=J)(f:Gl X "list":=by rfl)(ha:SE X sf C ea a)(e:Lz [ea] X.env=(Lv,Rz ea X.env)::Lz [] X.env:=by rfl)(d:(LY pos<|Lz [] X.env).any (·.1)=false:=by rfl):SE X sf C (.Call (.Name "list" p) [ea] [] pos) (.op .list h [a]):=
 aj (cI j9 f hm Q9 (slc ha sl0 e) (by decide) (by decide) e d) (eO xt rfl)
end
theorem oJ {K:Ly}{x:V}{H:Hp}{k:Rl}(h:TrV K x H k):zc K x H k:=by
 cases x with
 |ref p=>exact h.imp id .inl
 |byt _=>exact h.elim
 |_=>exact h
theorem tB (m:SE X sf C ea a)(o:∀e,R6 ea X.env e=(do let v <- e;standAt ea.pos;holding [v] (truthy v)):=by intro _;rfl):SB X sf C ea a:=
 jB (yi m o) λx H Q h=>by obtain⟨t,Z,i,u,w,g,b,A,ev,p,k⟩:=h;exact⟨t,Z,i,u,w,g,A,ev,λv l j f G d r s=>⟨b,oJ<|jd p r,k l j f d.bare<|s.mono (λ_ z=>z) λ_ z=>.inl z⟩⟩
theorem cx (d:SB X sf C ea a):SB X sf C (.UnaryOp .Not ea pos) (.not a):=jB (Fo d) Dw
theorem B9 {l:L2.St}{H:Hp}{Q:Rl->Hp->Prop}(t:∀i w e,M.evE C a i=.ok (w,e)->∃b,w.2=.bl b)(h:wT X.K sf C a l H Q):yj (wE X.K sf C a) l H Q:=by obtain⟨u,Z,m,i,w,e,b,A,ev,j,k⟩:=h;refine⟨u,Z,m,i,w,e,A,ev,λv p o f G d r s=>⟨b,?_,k p o f d.bare<|s.mono (λ_ z=>z) λ_ z=>.inl z⟩⟩;obtain⟨x,g⟩:=t _ _ _ ev;rw[g] at j r;cases j;exact r
theorem Jv {o:M.Op}(ho:∀u v w,M.oSem o h [u,v]=Y w->∃b,w.2=.bl b):∀f w d,M.evE C (.op o h [a,b]) f=.ok (w,d)->∃b,w.2=.bl b:=λf w d e=>by obtain⟨p,i,j⟩:=dX e;obtain⟨u,l,k,_,e2,rfl⟩:=aE i;obtain⟨v,m,k,_,g,rfl⟩:=aE e2;cases g;exact ho u v w j
theorem cG {op:CmpOp}{r:R2}{o:M.Op}(ho:OpR X (Mg op) r)(f:SE X sf C ea a)(g:SE X sf C eb b)(j:M5 op eb=Lv)(i:∀d H Q,wE X.K sf C (.op o h [a,b]) d H Q->tOp r (wE X.K sf C a) (wE X.K sf C b) d H Q)
  (e:∀u v w,M.oSem o h [u,v]=Y w->∃b,w.2=.bl b):SB X sf C (.Compare ea [op] [eb] pos) (.op o h [a,b]):=
 jB (jY ho f g j) λd H Q k=>i d H _<|B9 (Jv e) k
theorem Hi {u v w:M.W}(e:M.oSem .eq h [u,v]=Y w):∃b,w.2=.bl b:=by
 obtain⟨m,a⟩:=u;obtain⟨n,b⟩:=v;have f:(if decide (M.dp a<=64)&&decide (M.dp b<=64) then Y ((.d,.bl (M.eqT a b)):M.W) else J)=Y w:=e;split at f
 .cases f;exact⟨_,rfl⟩
 .cases f
theorem HH {u v w:M.W}(e:M.oSem .ne h [u,v]=Y w):∃b,w.2=.bl b:=by
 obtain⟨m,a⟩:=u;obtain⟨n,b⟩:=v;have f:(if decide (M.dp a<=64)&&decide (M.dp b<=64) then Y ((.d,.bl (!M.eqT a b)):M.W) else J)=Y w:=e;split at f
 .cases f;exact⟨_,rfl⟩
 .cases f
theorem IY {u v w:M.W}(e:M.oSem .is h [u,v]=Y w):∃b,w.2=.bl b:=by
 obtain⟨m,a⟩:=u;obtain⟨n,b⟩:=v;obtain rfl:b=.non:=by cases b<;>first|rfl|(cases e;done)|(cases a<;>cases e)
 obtain⟨_,e⟩:=ifN<|show(if a.isG=Lw then J else Y _)=_ from e;cases e;exact⟨_,rfl⟩
theorem rQ {u v w:M.W}(e:M.oSem .isnot h [u,v]=Y w):∃b,w.2=.bl b:=by
 obtain⟨m,a⟩:=u;obtain⟨n,b⟩:=v;obtain rfl:b=.non:=by cases b<;>first|rfl|(cases e;done)|(cases a<;>cases e)
 obtain⟨_,e⟩:=ifN<|show(if a.isG=Lw then J else Y _)=_ from e;cases e;exact⟨_,rfl⟩
theorem HL (d:SE X sf C ea a)(f:SE X sf C eb b):SB X sf C (.Compare ea [.Lt] [eb] pos) (.op .lt h [a,b]):=cG Hl d f (cQ _) (aN EO) λu v w e=>by obtain⟨_,_,_,_,_,_,rfl⟩:=vp e;exact⟨_,rfl⟩
theorem ni (d:SE X sf C ea a)(f:SE X sf C eb b):SB X sf C (.Compare ea [.Gt] [eb] pos) (.op .gt h [a,b]):=cG BS d f (cQ _) (aN uD) λu v w e=>by obtain⟨_,_,_,_,_,_,rfl⟩:=yf e;exact⟨_,rfl⟩
theorem Bd (d:SE X sf C ea a)(f:SE X sf C eb b):SB X sf C (.Compare ea [.GtE] [eb] pos) (.op .ge h [a,b]):=cG BB d f (cQ _) (aN xj) λu v w e=>by obtain⟨_,_,_,_,_,_,rfl⟩:=xJ e;exact⟨_,rfl⟩
theorem bP (g:Room n X.A)(d:SE X sf C ea a)(f:SE X sf C eb b):SB X sf C (.Compare ea [.Eq] [eb] pos) (.op .eq h [a,b]):=cG (oN g.units) d f (cQ _) (aN uF) λu v w e=>Hi e
theorem kG (g:Room n X.A)(d:SE X sf C ea a)(f:SE X sf C eb b):SB X sf C (.Compare ea [.NotEq] [eb] pos) (.op .ne h [a,b]):=cG (AQ g.units) d f (cQ _) (aN CJ) λu v w e=>HH e
theorem Aw (d:SE X sf C ea a)(f:SE X sf C eb b):SB X sf C (.Compare ea [.Is] [eb] pos) (.op .is h [a,b]):=cG E1 d f (cQ _) (aN Cp) λu v w e=>IY e
theorem Dl (d:SE X sf C ea a)(f:SE X sf C eb b):SB X sf C (.Compare ea [.IsNot] [eb] pos) (.op .isnot h [a,b]):=cG AS d f (cQ _) (aN qL) λu v w e=>rQ e
abbrev SW (X:Cx)(sf:O->L O)(C:M.Call)(d:Rv)(e:M.E):Prop:=PW X d<|wT X.K sf C e
theorem wA1 (d:SB X sf C ea a):SW X sf C (.BoolOp .And [ea] pos) a:=AU d
theorem wO1 (d:SB X sf C ea a):SW X sf C (.BoolOp .Or [ea] pos) a:=DW d
theorem vT {rest:U Rv}(d:SB X sf C ea a)(e:SW X sf C (.BoolOp .And (eb::rest) pos) b):SW X sf C (.BoolOp .And (ea::eb::rest) pos) (.and a b):=BH (DO d e) Dy
theorem wOr {rest:U Rv}(d:SB X sf C ea a)(e:SW X sf C (.BoolOp .Or (eb::rest) pos) b):SW X sf C (.BoolOp .Or (ea::eb::rest) pos) (.or a b):=BH (IU d e) Jg
theorem tW (h:SW X sf C ea a):SB X sf C ea a:=h.pt
theorem sIf (f:SB X sf C ec c)(d:SE X sf C ea a)(e:SE X sf C eb b):SE X sf C (.IfExp ec ea eb pos) (.ifx c a b):=aj (tD f d e) E4
theorem gf {e:Rv}(d:SE X sf C ea a):PI X e ea (wI X.K sf C 1 .seq [a]):=je (IC (yw d)<|v7 d) CM
theorem wW {f:Rv}{p:Pos}(hm:X.mg "range"=J)(e:Gl X "range":=by rfl)(ha:SE X sf C ea a)(d:Lz [ea] X.env=[(Lv,Rz ea X.env)]:=by rfl):PI X f (.Call (.Name "range" p) [ea] [] pos) (wI X.K sf C 1 .rng [a]):=je (pV e hm (slc ha sl0 d) d) zO
theorem DM {g:Rv}{p:Pos}(hm:X.mg "range"=J)(f:Gl X "range":=by rfl)(ha:SE X sf C ea a)(hb:SE X sf C eb b)(e:Lz [ea,eb] X.env=[(Lv,Rz ea X.env),(Lv,Rz eb X.env)]:=by rfl)(d:Lz [eb] X.env=[(Lv,Rz eb X.env)]:=by rfl):PI X g (.Call (.Name "range" p) [ea,eb] [] pos) (wI X.K sf C 1 .rng [a,b]):=je (qD f hm (slc ha (slc hb sl0 d)<|by rw[e,d]) e d) AF
noncomputable def lkN:U O->O->O->L O
|[],_,_=>J
|t::d,n,i=>if i=t then Y n else lkN d (n+1) i
theorem oS:∀{l:U O} {n i j:O},lkN l n i=Y j->∃k,l[k]?=Y i/\j=n+k/\i ∉ l.take k
|[],_,_,_,h=>by cases h
| t::m,n,i,j,h=>by
 have d:(if i=t then Y n else lkN m (n+1) i)=Y j:=h;split at d
 .rename_i e;cases d;exact⟨0,by rw[e];rfl,rfl,by simp⟩
 .rename_i e;obtain⟨k,f,o,g⟩:=oS d;exact⟨k+1,f,by lia,by rw[M3,LK];exactλz=>z.elim e g⟩
def inF (e d:U O):O->L O:=lkN (e++d) 0
theorem lB {d g l:U O}(h:g.map sf=l.map Y):jA sf (inF d g) d l:=λi j r=>by
 obtain⟨k,f,m,o⟩:=oS<|show lkN (d++g) 0 i=Y j from r;rw[MY] at m;subst m;by_cases hk:j<d.length
 .rw [Ob hk] at f;exact .inl ⟨j,f,rfl⟩
 .have e:d.length<=j:=P8 hk;rw[Nc e] at f;refine .inr ⟨λp=>o ?_,?_⟩
  .rw [List.take_append,PU e];exact Nb _ p
  .have e1:(g.map sf)[j-d.length]?=Y (sf i):=by rw [Mr,f]; rfl
   rw[h,Mr] at e1;cases e2:l[j-d.length]? with
   |none=>rw[e2] at e1;cases e1
   |some s=>rw[e2] at e1;exact⟨j-d.length,s,by lia,e2,(Mf e1).symm⟩
theorem GY {x:Str}{k:Pos}{e:U Str}{d:RF}{g:U<|Str×Rj}(S:aV [x] e d)(f:Rj)(s:Lx)(H:Hp)(j:U Rj):PG (aD X ([x]++e) d g f s H j) (.Name x k) (gT X.K 1):=
 gI (X:=aD X ([x]++e) d g f s H j) (i:=0) (x:=x) (pos:=k) S.nd rfl (.inl<|lookup_relabel_local<|S.loc x<|by simp) (.inr<|lookup_relabel_local<|S.loc x<|by simp)
end
end MR

namespace MR
open PySem PySem.Spec PyProof.Rows L2 L3
section
variable {X:Cx}{sf sg:O->L O}{C:M.Call}{pos p2:Pos}{ea eb ec:Rv}{a b c:M.E}{h:Rl}{n:O}{io:U O}
section
variable {elt iter cnd:Rv}{x y:Str}{px py pt:Pos}{kt:O}{scope:RF}{cl:U (Str×Rj)}{ys:U Str}{tg ls is:U O}{k:M.Ik}{src:U M.E}{e cd:M.E}
theorem sC1 (ls:U O)(is:U O)(cl:U<|Str×Rj)(ys:U Str){t:O}(o:PI X (.Name x px) iter<|wI X.K sf C 1 k src)(m:∀f s H g,SE (aD X ([x]++ys) scope cl f s H g) (inF [t] ls) C elt e)
  (S:aV [x] ys scope) (i:Clo X cl) (fr:Frees X scope cl ys is) (l:X.calm=true:=by rfl) (r:ls.map sf=is.map some:=by rfl)
  (d:NI scope X.env=pure cl:=by with_unfolding_all rfl) (j:(scope.names.all λp=>p.2 != .free || (cl.lookup p.1).isSome)=true:=by rfl)
  (u:∀v,MW iter X.env v=pure v:=by intro _;rfl):SE X sf C (.ListComp elt [⟨.Name x px,iter,[],0⟩] scope pos) (.comp h k src [t] J e):=
 aj (qW (pre:=[x]) l o (GY S) (λf s H g=>m f s H g) d S i j fr u) (lG rfl (by simp) (lB r))
end
def spS (K:Ly)(C:M.Call)(f:O)(io:U O):Sp:=λd H Q _=>spC K C f io d H Q
theorem sa0:SA X sf C [] []:=l5 fU vg
theorem sac {d:U Rv}{bs:U M.E}(e:SE X sf C ea a)(f:SA X sf C d bs)(g:∀i,a≠.io i:=by intro _ z;cases z)(j:Lz (ea::d) X.env=(Lv,Rz ea X.env)::Lz d X.env:=by rfl):SA X sf C (ea::d) (a::bs):=l5 (cU e f j)<|yb g
theorem sai (j:O){i:O}{x:Str}{d:U Rv}{bs:U M.E}(g:SA X sf C d bs)(k:sf i=Y j:=by rfl)(hN:X.N[j]?=Y x:=by rfl)(l:Vis X.env.scope x:=by first|exact L1 rfl|exact LV (L1 rfl)|exact LV<|LV rfl)(hd:(x==("__debug__":Str))=false:=by decide)
  (e:(x==("__classdict__":Str))=false:=by decide) (f:Lz (.Name x pos::d) X.env=(Lv,Rz (.Name x pos) X.env)::Lz d X.env:=by rfl):SA X sf C (.Name x pos::d) (.io i::bs):=l5 (cU (bR hN l hd e) g f)<|jC k
def aa (P:Ro)(w:LA)(K:Ly)(i:Str->L B)(d:Rx)(n:O)(C:M.Call)(x:Str)(f:O)(io:U O):Prop:=
 ∃e g ps,dh P w K i d CX0 n e g ps (spS K C f io)/\i x=Y (.ref e)/\Nu K (.ref e)=Lw/\Binds K g ps []
theorem ag {x:Str}{p:Pos}{f:O}{e:U Rv}{bs:U M.E}(c:aa X.prog X.w X.K X.mg X.base n C x f io)(hr:Room n X.A)(z:SA X sf C (ea::e) bs)(j:il bs 0=io\/M.ios bs=[]:=by first|exact .inl rfl|exact .inr rfl)(P:Gl X x:=by rfl)(i:(x==("__debug__":Str))=false:=by decide)
  (N:Lz (ea::e) X.env=(Lv,Rz ea X.env)::Lz e X.env:=by rfl) (l:(LY pos<|Lz e X.env).any (·.1)=false:=by rfl):SE X sf C (.Call (.Name x p) (ea::e) [] pos) (.call f bs):=by
 obtain⟨fa,fd,ps,F,hm,hk,D⟩:=c;refine aj (AA (E:=E0) F hr P hm hk D .nil vS z i N l) λσ H Q hw=>?_;have y:=oC j σ H Q hw;obtain⟨pv,Z,u,η,ws,m,A,ev,k⟩:=y;exact⟨pv,Z,u,η,ws,m,A,ev,λt v o g G d r s hv=>by show spS X.K C f io (t++[]) o Q E0;rw[LW];exact k t v o g G d r s hv⟩
theorem ss0:SSs X sf io C [] []:=nL Bh AZ
theorem ss1 {s:Ry}{t:M.S}(d:SS X sf io C s t):SSs X sf io C [s] [t]:=nL (oA d) AE
theorem ssc {s:Ry}{t:M.S}{r:U Ry}{u:U M.S}(e:SS X sf io C s t)(d:SSs X sf io C r u):SSs X sf io C (s::r) (t::u):=nL (iG e d) rN
theorem Lh (j:O){i:O}{x:Str}{o:M.X}{d:Pos}(hN:X.N.Nodup)(f:SE X sf C ea a)(k:i ∉ io:=by decide)(m:sf i=Y j:=by rfl)(l:X.N[j]?=Y x:=by rfl)(hx:L2.Loc X.env.scope x:=by first|exact L1 rfl|exact LV rfl)
  (e:MI ea (Y<|.Name x d) pos.line X.env=pure false:=by rfl) (g:X.fn x=Lw\/X.env.scope.names.lookup x=Y .local:=by first|exact .inl rfl|exact .inr rfl):SS X sf io C (.Assign [.Name x d] ea pos) (.asg o i a):=dM (EE (i:=j) hN l hx f e g)<|tQ k m
theorem sL {f:M.X}(d:SE X sf C ea a)(e:MI ea J pos.line X.env=pure false:=by rfl):SS X sf io C (.Expr ea pos) (.exp f a):=dM (kb d e) Cm
theorem ai {e:U O}(d:SE X sf C ea a):SS X sf io C (.Return (Y ea) pos) (.ret e a):=dM (FK d) DJ
theorem zIf {g:M.X}{r u:U Ry}{s t:U M.S}(f:SB X sf C ec c)(d:SSs X sf io C r s)(e:SSs X sf io C u t):SS X sf io C (.If ec r u pos) (.ite g c s t):=dM (HV f d e) Fi
theorem KG {f:M.X}{r:U Ry}{s:U M.S}(e:SB X sf C ec c)(d:SSs X sf io C r s)(hp:Oi (LC X.prog X.w) X.A X.env X.xe:=by exact PassesOwn.never):SS X sf io C (.While ec r [] pos) (.whl f c s):=dM (rR hp e d) Cj
theorem fA (j:O){t:O}{x:Str}{l:Pos}{d:Rv}{r:U Ry}{s:U M.S}{F D:U O}{k:M.Ik}{e:U M.E}(hN:X.N.Nodup)(v:PI X (.Name x l) d<|wI X.K sf C 1 k e)(m:SSs X sf io C r s)(f:∀u∈[t],u ∉ io:=by decide)(g:[t].map sf=[j].map some:=by rfl)(y:X.N[j]?=Y x:=by rfl)(hx:L2.Loc X.env.scope x:=by first|exact L1 rfl|exact LV rfl)
  (o:X.calm=true:=by rfl) (hp:Oi (LC X.prog X.w) X.A X.env X.xe:=by exact PassesOwn.never) (p:X.fn x=Lw\/X.env.scope.names.lookup x=Y .local:=by first|exact .inl rfl|exact .inr rfl) (z:∀x,MW d X.env x=pure x:=by intro _;rfl):SS X sf io C (.For (.Name x l) d r [] pos) (.forS F D k e [t] s):=
 dM (tM hp o v (gI (i:=j) hN y hx p) m z) (wN rfl (by simp) f g)
theorem pf (j l:O){t u:O}{x y:Str}{z D pt:Pos}{p:O}{d:Rv}{r:U Ry}{s:U M.S}{vs ls:U O}{k:M.Ik}{e:U M.E}(hN:X.N.Nodup)(H:PI X (.Tuple [.Name x z,.Name y D] p pt) d<|wI X.K sf C 2 k e)(F:SSs X sf io C r s)(g:∀v∈[t,u],v ∉ io:=by decide)(nd:[t,u].Nodup:=by decide)(m:[t,u].map sf=[j,l].map some:=by rfl)(P:X.N[j]?=Y x:=by rfl)(Q:X.N[l]?=Y y:=by rfl)
  (hx:L2.Loc X.env.scope x:=by first|exact L1 rfl|exact LV rfl) (hy:L2.Loc X.env.scope y:=by first|exact L1 rfl|exact LV rfl)
  (o:X.calm=true:=by rfl) (hp:Oi (LC X.prog X.w) X.A X.env X.xe:=by exact PassesOwn.never) (G:X.fn x=Lw\/X.env.scope.names.lookup x=Y .local:=by first|exact .inl rfl|exact .inr rfl) (f:X.fn y=Lw\/X.env.scope.names.lookup y=Y .local:=by first|exact .inl rfl|exact .inr rfl) (Z:∀x,MW d X.env x=pure x:=by intro _;rfl):SS X sf io C (.For (.Tuple [.Name x z,.Name y D] p pt) d r [] pos) (.forS vs ls k e [t,u] s):=
 dM (tM hp o H (DP (n:=2) o<|kM (gI (i:=j) hN P hx G)<|kM (gI (i:=l) hN Q hy f) yP) F Z) (wN rfl nd g m)
theorem jH (j:O){i:O}{x:Str}{xx:M.X}{f e u:Pos}(ha:SE X sf C ea a)(hs:sf i=Y j:=by rfl)(hN:X.N[j]?=Y x:=by rfl)(hv:Vis X.env.scope x:=by first|exact L1 rfl|exact LV (L1 rfl)|exact LV<|LV rfl)(hd:(x==("__debug__":Str))=false:=by decide)(z:(x==("__classdict__":Str))=false:=by decide)
  (l:MP (.Name x u) "append" X.env (Rz (.Name x u) X.env)=Rz (.Name x u) X.env:=by rfl)
  (o:((LY e<|Lz [ea] X.env).all (λx=>!x.1)&&(Nj e<|Nm [] X.env).all (λx=>x.1.isSome)&&decide ([ea].length+([]:U MJ).length+(if([]:U MJ).isEmpty then 0 else 1)<30))=true:=by rfl)
  (m:(f.endLine==e.line)=true:=by rfl) (t:Lz [ea] X.env=(Lv,Rz ea X.env)::Lz [] X.env:=by rfl) (g:(LY e<|Lz [] X.env).any (·.1)=false:=by rfl) (P:MI (.Call (.Attribute (.Name x u) "append" f) [ea] [] e) J pos.line X.env=pure false:=by rfl):
  SS X sf io C (.Expr (.Call (.Attribute (.Name x u) "append" f) [ea] [] e) pos) (.app xx i a):=
 dM (kb (oV PY PySem.F.slot_list_append PySem.F.type_list_append rj (bR hN hv hd z) (cU ha fU t) l o m t g) P) λD σ H hw=>by obtain⟨p,xs,hj,hp,pv,Z,Fs,η,w,Q,A,ev,k⟩:=Cr hs D σ H hw;refine⟨.ref p,hj,.inl ⟨rfl,xs,.inl<|.inl hp⟩,pv,Z,Fs,η,w,Q,A,ev,λv Z' H' y G d r s=>?_⟩;obtain⟨ys,h1,h2,h3⟩:=k v Z' H' y G d r s;exact⟨p,ys,v,rfl,rfl,h1,h2,h3⟩
theorem FZ (j:O){i:O}{x:Str}{xx:M.X}{f e u:Pos}(ha:SE X sf C ea a)(hs:sf i=Y j:=by rfl)(hN:X.N[j]?=Y x:=by rfl)(hv:Vis X.env.scope x:=by first|exact L1 rfl|exact LV (L1 rfl)|exact LV<|LV rfl)(hd:(x==("__debug__":Str))=false:=by decide)(z:(x==("__classdict__":Str))=false:=by decide)
  (l:MP (.Name x u) "extend" X.env (Rz (.Name x u) X.env)=Rz (.Name x u) X.env:=by rfl)
  (o:((LY e<|Lz [ea] X.env).all (λx=>!x.1)&&(Nj e<|Nm [] X.env).all (λx=>x.1.isSome)&&decide ([ea].length+([]:U MJ).length+(if([]:U MJ).isEmpty then 0 else 1)<30))=true:=by rfl)
  (m:(f.endLine==e.line)=true:=by rfl) (t:Lz [ea] X.env=(Lv,Rz ea X.env)::Lz [] X.env:=by rfl) (g:(LY e<|Lz [] X.env).any (·.1)=false:=by rfl) (P:MI (.Call (.Attribute (.Name x u) "extend" f) [ea] [] e) J pos.line X.env=pure false:=by rfl):
  SS X sf io C (.Expr (.Call (.Attribute (.Name x u) "extend" f) [ea] [] e) pos) (.ext xx i a):=
 dM (kb (oV PY PySem.F.slot_list_extend PySem.F.type_list_extend qh (bR hN hv hd z) (cU ha fU t) l o m t g) P) λD σ H hw=>by obtain⟨p,xs,hj,hp,pv,Z,Fs,η,w,Q,A,ev,k⟩:=Cs hs D σ H hw;refine⟨.ref p,hj,.inl ⟨rfl,xs,.inl<|.inl hp⟩,pv,Z,Fs,η,w,Q,A,ev,λv Z' H' y G d r s=>?_⟩;obtain⟨b,ys,zs,rfl,h1,h2,h3,h4⟩:=k v Z' H' y G d r s;exact⟨p,b,ys,zs,rfl,rfl,h1,h2,h3,h4⟩
end
end MR

namespace MR
open PySem PySem.Spec PyProof.Rows L2 L3
section
variable {K:Ly}{Z:Fp}{H:Hp}
theorem jE:∀{a:U M.W} {n i:O} {w:M.W},M.rd (a.map Y++LU n J) i=Y w->a[i]?=Y w
|[],0,i,w,h=>by simp[M.rd] at h
|[],n+1,0,w,h=>by simp[Nz,M.rd] at h
|[],n+1,i+1,w,h=>by
 have:M.rd (([]:U M.W).map Y++LU n J) i=Y w:=by simpa[Nz,M.rd] using h
 have:=jE this;simp at this
|u::a,n,0,w,h=>by simpa[M.rd] using h
|u::a,n,i+1,w,h=>by
 have:M.rd (a.map Y++LU n J) i=Y w:=by simpa[M.rd] using h
 simpa using jE this
theorem wc:∀{k:U M.W} {c:U V} {G:Fp},RepW K Z H k c G->∃b:Fps,(∀i a,b i a->G a)/\(∀i j a,b i a->b j a->i=j)/\∀i w,k[i]?=Y w->∃v,c[i]?=Y v/\Rep K Z H w.1 w.2 v (b i)
|[],c,G,_=>⟨λ_=>no,λ_ _ h=>h.elim,λ_ _ _ h=>h.elim,λi w h=>by simp at h⟩
| w::k,c,G,⟨x,r,l,t,e,o,s,hd,p,q⟩=>by
 obtain⟨b,d,m,n⟩:=wc q;subst e;refine⟨λi=>match i with | 0=>l|i+1=>b i,λi a h=>?_,λi j a f g=>?_,λi u h=>?_⟩
 .cases i with
  |zero=>exact o a h
  |succ i=>exact s a<|d i a h
 .cases i with
  |zero=>
   cases j with
   |zero=>rfl
   |succ j=>exact Rm (d j a g)<|hd a f
  |succ i=>
   cases j with
   |zero=>exact Rm (d i a f)<|hd a g
   |succ j=>exact Rw (·+1)<|m i j a f g
 .cases i with
  |zero=>simp only[Ny,PK] at h;subst h;exact⟨x,rfl,p⟩
  |succ i=>simpa using n i u<|by simpa using h
def slN (n:O):O->L O:=λi=>if i<n then Y i else J
theorem fY {o:Cf}{s:L2.St}{f:Fps}{g:M.Env}{G:Fp}{c:U V}(A:At K o s Z H f g G):∀{b:U O} {bs:U M.W},b.Nodup->(∀i∈b,o.pv i=c[i]?/\i<c.length)->M.backs b g=Y bs->RepW K Z H bs (atV b c) (λa=>∃i∈b,f i a)
|[],bs,_,_,h=>by simp only[M.backs,PK] at h;subst h;rfl
| i::b,bs,n,m,h=>by
 simp only[M.backs] at h;cases e:M.rd g i with
 |none=>rw[e] at h;cases h
 | some w =>
  rw[e] at h;simp only[PF] at h;cases e2:M.backs b g with
  |none=>rw[e2] at h;cases h
  |some t=>
   rw[e2] at h;simp only[PF,PK] at h;subst h;obtain⟨v,r,_,hp⟩:=A.env i w.1 w.2 e;have k:=m i LI;obtain⟨u,l⟩:∃u,c[i]?=Y u:=⟨c[i]'k.2,Ma k.2⟩;have:=hp u<|k.1.trans l;subst this;refine⟨v,atV b c,f i,λa=>∃j∈b,f j a,?_,λa h=>⟨i,LI,h⟩,λa ⟨j,d,h⟩=>⟨j,LO _ d,h⟩,λa h ⟨j,d,p⟩=>?_,r,fY A (N0.mp n).2 (λj d=>m j<|LO _ d) e2⟩
   .rw[atV,NT,l];rfl
   .exact(N0.mp n).1<|A.gd.dis i j a h p ▸ d
end
section
variable {P:Ro}{w:LA}{K:Ly}{mg:Str->L B}{base:Rx}
theorem uL {Z:Fp}{H:Hp}{p:U M.W}{d:U V}{G:Fp}{N:U Str}{n:O}{io:U O}(r:RepW K Z H p d G)(o:Own Z H G)(z:∀a,Z a->H a≠J)(D:d.length<=N.length):
  ∃f,(∀a,tot f a->G a)/\At K ⟨slN N.length,λi=>if i∈io then d[i]? else J⟩ (L2.start N d) Z H f (p.map Y++LU n J) no:=by
 obtain⟨f,g,s,x⟩:=wc r;have l:∀i v,d[i]?=Y v->(L2.start N d)[i]?=Y (Y v):=λi v h=>by have y:=(Mo.mp h).1;rw[L2.start,Ob<|by simpa using y,Mr,h];rfl
 refine⟨f,λa ⟨i,h⟩=>g i a h,⟨⟨λa ⟨i,h⟩=>o a<|g i a h,s,z⟩,λi m t e=>?_,λa h=>h.elim,λa h=>h.elim,λi u j c b=>?_,λi j b=>?_⟩⟩
 .obtain ⟨v,k,A⟩:=x i (m,t) (jE e);refine⟨v,A,λj b=>?_,λu c=>?_⟩
  .simp only [slN] at b;split at b
   .cases b;exact l i v k
   .cases b
  .simp only at c;split at c
   .rw[k] at c;cases c;rfl
   .cases c
 .simp only at c;simp only[slN] at b;split at b
  .cases b;split at c
   .exact l i u c
   .cases c
  .cases b
 .simp only [slN] at b;split at b
  .cases b;rename_i h;rw[L2.start,LH,LB,M4];lia
  .cases b
theorem Fun.okM {x l:Str}{st:Ry}{f:Rj}{fd:Mu}{N ps:U Str}{k:O}{C:M.Call}{d:M.Fn}(F:L2.Fun K x l st f fd)(S:af N ps<|defScope st)(hps:d.ps=ps.length)(hle:ps.length<=N.length)(nd:d.io.Nodup)(hio:∀i∈d.io,i<ps.length)
  (hbody:∀ (m:B) (A:LS) (c:U Env) (s:Lx) (H:Hp) (E:XK),Room k (A.deeper (MC l (defScope st) s.heap.objs.size f m)) ->
   SSs (iT CX0 P w K mg base N l (defScope st) f m A c s H E).nox (slN N.length) d.io C (defBody st) d.body) {g:O} {C':M.Call} (hC:∀ws,C' g ws=M.runF C d ws):dh P w K mg base CX0 (k+1) f fd ps (spS K C' g d.io):=by
 have len:∀y H Q E,spS K C' g d.io y H Q E->y.length=ps.length:=λy H Q E ⟨Z,ws,G,w,bs,r,_,_,hr,_⟩=>by
  rw[hC] at hr;unfold M.runF at hr;split at hr
  .rename_i h;rw[r.length,h,hps]
  .cases hr
 refine F.ok S len λm A c s H y Q E hr h=>⟨_,hbody m A c s H E hr,?_⟩;have p:=len y H Q E h;obtain⟨Z,ws,G,w,bs,r,o,z,b,q⟩:=h;rw[hC] at b;have hwl:ws.length=d.ps:=by rw[<- r.length,p,hps]
 rw[M.x_run _ _ _ hwl] at b;obtain⟨Fs,ft,A0⟩:=uL (n:=d.ns) (io:=d.io) r o z (N:=N) (by lia);refine⟨_,Z,Fs,_,⟨λi i' j h h'=>?_,λi h=>Rn h⟩,A0,?_⟩
 .simp only [slN] at h h';split at h
  .split at h'
   .cases h;cases h';rfl
   .cases h'
  .cases h
 have hv:∀i∈d.io,(if i∈d.io then y[i]? else J)=y[i]?/\i<y.length:=λi hi=>⟨Rk hi,p ▸ hio i hi⟩;cases e:M.evSs C d.body (ws.map Y++LU d.ns J) with
 | nx η =>
  rw[e] at b;intro σ' Z' H' Fs' D t;simp only[M.Fl.out] at b;cases e2:M.backs d.io η with
  |none=>rw[e2] at b;cases b
  |some cs=>rw[e2] at b;cases b;refine q .non Z' H' no _ rfl (fY D nd hv e2) (λ_ h=>h.elim) (λa h=>h.elim (λz=>z.elim) λ⟨i,_,z⟩=>D.gd.own a ⟨i,z⟩) (t.mono ft λa h=>h.elim (λz=>z.elim) λ⟨i,_,z⟩=>⟨i,z⟩)
 | rt u η =>
  rw[e] at b;intro v σ' Z' H' Fs' G' D rp t;simp only[M.Fl.out] at b;cases e2:M.backs d.io η with
  |none=>rw[e2] at b;cases b
  |some cs=>rw[e2] at b;cases b;exact q v Z' H' G' _ rp (fY D nd hv e2) (λa h ⟨i,_,z⟩=>D.dis a h ⟨i,z⟩) (λa h=>h.elim (D.own a) λ⟨i,_,z⟩=>D.gd.own a ⟨i,z⟩)<|t.mono ft λa h=>h.elim .inr λ⟨i,_,z⟩=>.inl ⟨i,z⟩
 |bk η=>rw[e] at b;cases b
 |ex t η=>rw[e] at b;cases b
 |no=>rw[e] at b;cases b
end
end MR

namespace MR
open PySem PySem.Spec PyProof.Rows L2 L3
def IT (K:Ly)(H:Hp):Th->V->Prop
|.tup _,x=>∃a c,x=.ref a/\SqT K H a c
|.lst _,x=>∃a c,x=.ref a/\SqL K H a c
|.non,x=>x=.non
|.bl b,x=>x=.bl b
|.int i,x=>x=.int i
|.str z,x=>x=.str z
theorem xm {X:Cx}{c:Rr}(F:c∈["tuple","str","bool","int","list"]):dN X (.builtin "isinstance") (λD H Q=>∃x t,D=[x,.ty c]/\IT X.K H t x/\Q (.bl<|isI c t) H):=by
 intro k s N H D P Q d r h;obtain⟨x,t,rfl,g,q⟩:=h;obtain⟨u,Z,rfl,j,y⟩:=GH r;cases y;have e:NZ X.K (.type t.ty) (.type c)=Y (isI c t):=kit_type.trans<|Ec F t;have f:∀A,EP X k N Q (.bool (isI c t)) {s with toks:=A}:=λA=>⟨.bl<|isI c t,H,d.tok A,rfl,q⟩;cases t with
 |non=>obtain rfl:x=.non:=g;exact eG d j .non e f
 |bl b=>obtain rfl:x=.bl b:=g;exact eG d j (.bl b) e f
 |int i=>obtain rfl:x=.int i:=g;exact eG d j (.int i) e f
 |str z=>obtain rfl:x=.str z:=g;exact eG d j (.str z) e f
 |tup G=>obtain⟨a,M,rfl,v⟩:=g;cases j;obtain⟨w,_,p,_⟩:=d.tuple v;obtain⟨o,l,m,_⟩:=p;exact MG QX d.kIn ⟨o,l,m⟩ e (λz=>nomatch z) f
 |lst G=>obtain⟨a,M,rfl,v⟩:=g;cases j;obtain⟨w,_,p,_⟩:=d.list v;obtain⟨o,n,l,m,_⟩:=p;exact MG Pn d.kIn ⟨o,l,m⟩ e (λz=>nomatch z) f
noncomputable def thT:M.T->Th
|.non=>.non | .bl b=>.bl b | .int i=>.int i | .str x=>.str x | .tup _=>.tup [] | .lst _=>.lst [] | .scr _=>.lst [] | .dct _ _=>.non | .ins _ _ _=>.non | .obj _ _ _=>.non | .dtt _ _=>.non | .gone=>.non
theorem zC {K:Ly}{Z:Fp}{H:Hp}{t:M.T}{m:M.Md}{x:V}{G:Fp}(a:t.isH=Lv)(r:Rep K Z H m t x G):IT K H (thT t) x/\(thT t).ty=t.ty:=by
 cases t with
 |non=>exact⟨r,rfl⟩
 |bl _=>exact⟨r,rfl⟩
 |int _=>exact⟨r,rfl⟩
 |str _=>exact⟨r.1,rfl⟩
 |tup _=>obtain⟨p,b,e,q,_⟩:=r;exact⟨⟨p,b,e,q⟩,rfl⟩
 |lst _=>obtain⟨p,b,e,_,q,_⟩:=r;exact⟨⟨p,b,e,.inl<|.inl<|by cases m<;>exact q.2⟩,rfl⟩
 |scr _=>obtain⟨p,e,_,q⟩:=r;exact⟨⟨p,_,e,q.sq⟩,rfl⟩
 |dct _ _=>cases a
 |ins _ _ _=>cases a
 |obj _ _ _=>cases a
 |dtt _ _=>cases a
 |gone=>cases a
theorem ym {t:Th}{u:M.T}{c:Rr}(h:t.ty=u.ty):isI c t=M.isOne c u:=by unfold isI M.isOne;rw[h]
section
variable {X:Cx}{sf sg:O->L O}{C:M.Call}{pos p2 p3:Pos}{ea eb ec:Rv}{a b c:M.E}{h:Rl}{n:O}{io:U O}
theorem c7 {c:Rr}{k:Str}(D:c∈["tuple","str","bool","int","list"])(hv:Np k=Y (.type c))(N:X.mg "isinstance"=J)(g:X.mg k=J)(z:SE X sf C ea a)(F:Gl X "isinstance":=by rfl)(f:Gl X k:=by rfl)(P:k≠"__name__":=by decide)(hd:(k==("__debug__":Str))=false:=by decide)
  (p:Lz [ea,.Name k p2] X.env=(Lv,Rz ea X.env)::Lz [.Name k p2] X.env:=by rfl) (j:Lz [.Name k p2] X.env=(Lv,Rz (.Name k p2) X.env)::Lz [] X.env:=by rfl) (i:(LY pos<|Lz [.Name k p2] X.env).any (·.1)=false:=by rfl):
  SE X sf C (.Call (.Name "isinstance" p3) [ea,.Name k p2] [] pos) (.op (.isI [c]) h [a]):=
 aj (ez (xm D) F N Q8 (cU z (cU (GD f g hv P hd) fU j) p) (by decide) (by decide) p i) λσ H Q hw=>by obtain⟨pv,Z,t,η,w,o,A,ev,k⟩:=hw;obtain⟨ws,y,e⟩:=dX ev;obtain⟨⟨m,u⟩,η1,us,e1,e2,rfl⟩:=aE y;cases e2;obtain⟨l,e⟩:=ifN<|show(if u.isH=Lw then J else Y _)=_ from e;cases e;refine⟨pv,Z,t,η,(m,u),o,A,e1,λx Z' H' v G d r s=>?_⟩;obtain⟨t1,t2⟩:=zC l r;refine⟨x,thT u,rfl,t1,?_⟩;have:=cB<|df d s k;rw[ym t2];rw[show([c].any λc=>M.isOne c u)=M.isOne c u by simp] at this;exact this
theorem Hh (j:O){i:O}{x:Str}{d e k:Pos}(p:sf i=Y j:=by rfl)(hN:X.N[j]?=Y x:=by rfl)(r:Vis X.env.scope x:=by first|exact L1 rfl|exact LV (L1 rfl)|exact LV<|LV rfl)(hd:(x==("__debug__":Str))=false:=by decide)(l:(x==("__classdict__":Str))=false:=by decide)
  (f:MP (.Name x k) "pop" X.env (Rz (.Name x k) X.env)=Rz (.Name x k) X.env:=by rfl) (g:(d.endLine==e.line)=true:=by rfl):
  SE X sf C (.Call (.Attribute (.Name x k) "pop" d) [] [] e) (.pop i []):=
 aj (C8 PY PySem.F.slot_list_pop PySem.F.type_list_pop Fg (bR hN r hd l) f g) λu H Q s=>by obtain⟨a,m,y,o,hp,t,q⟩:=ze p u H Q s;exact⟨.ref a,o,.inl ⟨rfl,m,.inl<|.inl hp⟩,a,m,y,rfl,rfl,hp,t,q⟩
end
end MR

namespace MR
open PySem PySem.Spec PyProof.Rows L2 L3
structure Txt (mg:Str->L B):Prop where
 isin:mg "isinstance"=J
 int:mg "int"=J
 tup:mg "tuple"=J
 list:mg "list"=J
 bool:mg "bool"=J
 sum:mg "sum"=J
 len:mg "len"=J
 all:mg "all"=J
 zip:mg "zip"=J
 range:mg "range"=J
 enum:mg "enumerate"=J
 any:mg "any"=J
 max:mg "max"=J
 min:mg "min"=J
 sorted:mg "sorted"=J
 str:mg "str"=J
 repr:mg "repr"=J
 abs:mg "abs"=J
 dict:mg "dict"=J
 set:mg "set"=J
 rev:mg "reversed"=J
theorem frc {X:Cx}{a:RF}{b:U<|Str×Rj}{y:Str}{e:U Str}{i:O}{d:U O}{c:Rj}(r:Frees X a b e d)(f:X.N[i]?=Y y:=by rfl)(g:Vis X.env.scope y:=by first|exact L1 rfl|exact LV (L1 rfl)|exact LV<|LV rfl)(h:X.env.kindOf y=Y .cell\/X.env.kindOf y=Y .free:=by first|exact L1 rfl|exact LV rfl)
  (j:X.env.cells.lookup y=Y c:=by rfl) (k:b.lookup y=Y c:=by rfl) (l:(NN a X.env).names.lookup y=Y .cell\/(NN a X.env).names.lookup y=Y .free:=by first|exact L1 rfl|exact LV rfl):Frees X a b (y::e) (i::d):=.cons f g h j k l r
theorem Ko {X:Cx}{y:Str}{c:Rj}{a:U<|Str×Rj}(r:Clo X a)(h:X.env.cells.lookup y=Y c:=by rfl):Clo X ((y,c)::a):=.cons h r
section
variable {X:Cx}{sf sg:O->L O}{C:M.Call}{pos p2 p3:Pos}{ea eb ec:Rv}{a b c:M.E}{h:Rl}{n:O}{io:U O}
section
variable {elt iter cnd:Rv}{x y:Str}{px py pt:Pos}{kt:O}{scope:RF}{tg:U O}{k:M.Ik}{src:U M.E}{e cd:M.E}
theorem zC1 (j:O)(P:U O)(G:U O)(f:U<|Str×Rj)(F:U Str){z:Str}{Q spos:Pos}{xx:M.X}{i t:O}(hi:PI X (.Name x px) iter<|wI X.K sf C 1 k src)(he:∀g s H l,SE (aD X ([x]++F) scope f g s H l) (inF [t] P) C elt e)
  (S:aV [x] F scope) (m:Clo X f) (fr:Frees X scope f F G) (hN:X.N.Nodup) (u:i ∉ io:=by decide) (w:sf i=Y j:=by rfl) (hj:X.N[j]?=Y z:=by rfl) (hz:L2.Loc X.env.scope z:=by first|exact L1 rfl|exact LV rfl)
  (A:MI (.ListComp elt [⟨(.Name x px),iter,[],0⟩] scope pos) (Y<|.Name z Q) spos.line X.env=pure true:=by rfl) (hc:X.calm=true:=by rfl) (hl:P.map sf=G.map some:=by rfl)
  (d:NI scope X.env=pure f:=by with_unfolding_all rfl) (r:(scope.names.all λp=>p.2 != .free || (f.lookup p.1).isSome)=true:=by rfl)
  (hs:∀v,MW iter X.env v=pure v:=by intro _;rfl) (o:X.fn z=Lw\/X.env.scope.names.lookup z=Y .local:=by first|exact .inl rfl|exact .inr rfl):SS X sf io C (.Assign [.Name z Q] (.ListComp elt [⟨(.Name x px),iter,[],0⟩] scope pos) spos) (.asg xx i<|.comp h k src [t] J e):=
 dM (rB (pre:=[x]) hN hj hz A hc hi (GY S) (λg s H l=>he g s H l) d S m r fr hs o) λD Z H hw=>lG rfl (by simp) (lB hl) Z H _ (tQ u w D Z H hw)
end
end
end MR

namespace MR
open PySem PySem.Spec PyProof.Rows L2 L3
section
variable {P:Ro}{w:LA}{K:Ly}{mg:Str->L B}{base:Rx}
theorem lq {C:M.Call}{g:O}{c:U O}{d:U V}{H:Hp}{Q:VK}{E:XK}(b:∀a,C g a=.no)(h:spS K C g c d H Q E):RB:=by obtain⟨Z,a,G,w,bs,_,_,_,e,_⟩:=h;rw[b] at e;cases e
theorem fn0 {f:Rj}{b:Mu}{ps:U Str}{k g:O}{c:U O}{C:M.Call}(a:∀d,C g d=.no):dh P w K mg base CX0 k f b ps (spS K C g c):=
 ⟨λ_ _ _ _ h=>(lq a h).elim,λ_ _ _ _ _ _ _ _ _ _ _ _ _ h=>(lq a h).elim⟩
theorem mX {Z:Fp}{H:Hp}{a:Rj}{b:U I}(c:yc H)(e:b.length<=63)(h:SqL K H a<|b.map V.int):Rep K Z H .d (.scr b) (.ref a) no:=by
 refine⟨a,rfl,LL e<|by decide,?_⟩;rcases h with(z|⟨o,z⟩)|z
 .rcases c a with y|⟨o,xs,y⟩<;>rw[y] at z<;>cases z
 .exact .inl ⟨o,z⟩
 .exact .inr (.inr z)
theorem EA {H:Hp}{a:Rj}{b:U I}{C:M.Call}{c:O}(hp:∃m bs,C c [(.d,.scr b)]=.ok ((m,.bl Lw),bs))(g:b.length<=63)(f:yc H)(h:SqL K H a<|b.map V.int):spS K C c [] [.ref a] H (λv _=>v=.bl Lw) λ_ _ _=>RB:=by obtain⟨m,bs,e⟩:=hp;exact⟨no,[(.d,.scr b)],no,(m,.bl Lw),bs,RepW.one<|mX f g h,de,λ_ z=>z.elim,e,λv l k i j r _ _ _ _=>r⟩
end
end MR

namespace MR
open PySem PySem.Spec PyProof.Rows L2 L3
structure SBs (as:U Rj)(H H':Hp):Prop where
 keep:∀b u,b ∉ as->H b=Y u->H' b=Y u
 al:∀b,H b≠J->H' b≠J
instance {as:U Rj} {H H':Hp}:CoeFun (SBs as H H') (λ_=>∀b u,b ∉ as->H b=Y u->H' b=Y u):=⟨λs=>s.keep⟩
end MR

namespace MR
open PySem PySem.Spec PyProof.Rows L2 L3
section
variable {X:Cx}{sf sg:O->L O}{io:U O}{C:M.Call}{pos p2:Pos}{ea eb ec:Rv}{a b c:M.E}{h:Rl}{n:O}
theorem AH {rest:U Rv}{o l:TE}(r:PE X ea o)(t:PE X (.BoolOp .And (eb::rest) pos) l):PE X (.BoolOp .And (ea::eb::rest) pos) (λf H Q=>o f H λx g=>∃k,zc X.K x g k/\if k=Lw then l f g Q else Q x g):=by
 intro e s f H Q d h;refine BoolOp_and<|thn (r e s f H _ d h) λv w ⟨x,g,p,r1,u⟩=>?_;refine thn (sG e w f g x v (λk i=>if k=Lw then l f i Q else Q x i) p r1 u) λk s2 ⟨i,m,j⟩=>?_;cases k with
 |true=>exact t e s2 f i Q m<|by rw[Rk rfl] at j;exact j
 |false=>exact⟨x,i,m,r1,by rw[Rn LX] at j;exact j⟩
theorem vA1 (d:SE X sf C ea a):SE X sf C (.BoolOp .And [ea] pos) a:=Cw d
theorem C0 {rest:U Rv}(l:SE X sf C ea a)(m:SE X sf C (.BoolOp .And (eb::rest) pos) b):SE X sf C (.BoolOp .And (ea::eb::rest) pos) (.and a b):=aj (AH l m) λu H Q h=>by obtain⟨o,Z,g,p,w,f,A,ev,k⟩:=E8 u H Q h;exact⟨o,Z,g,p,w,f,A,ev,λv j i e G d r s=>let ⟨c,t,q⟩:=k v j i e G d r s;⟨c,oJ t,q⟩⟩
theorem sBW (h:SE X sf C ea a):SE X sf C ea a:=h
theorem qT {K:Ly}:Loc K 1 .tuple h λs H Q=>∃p d,s=[.ref p]/\((SqL K H p d/\∀l,H l=J->Q (.ref l) (upd H l<|.tup d))\/(SqT K H p d/\Q (.ref p) H)):=by
 intro o w s Z H G Q t e r j v k;obtain⟨⟨m,a⟩,rfl⟩:∃a,o=[a]:=by match o,t with|[a],_=>exact⟨a,rfl⟩
 obtain⟨x,rfl,r1⟩:=bc rfl r;cases a with
 |lst u=>obtain⟨p,d,rfl,g,i,q⟩:=bG r1;cases e;exact⟨p,d,rfl,.inl ⟨SqL.of g,λl f=>oM (m:=m.kid.up) (G':=G) j (λ_ z=>z) i (by rw[fP];exact q.zmono λ_ z=>.inl z) k f⟩⟩
 |tup u=>obtain⟨p,d,rfl,g,i,q⟩:=cD r1;cases e;exact⟨p,d,rfl,.inr ⟨g,iE j k r1⟩⟩
 |_=>cases e
theorem iN {p:Pos}(hm:X.mg "tuple"=J)(f:Gl X "tuple":=by rfl)(ha:SE X sf C ea a)(e:Lz [ea] X.env=(Lv,Rz ea X.env)::Lz [] X.env:=by rfl)(d:(LY pos<|Lz [] X.env).any (·.1)=false:=by rfl):SE X sf C (.Call (.Name "tuple" p) [ea] [] pos) (.op .tuple h [a]):=
 aj (cI i4 f hm N1 (slc ha sl0 e) (by decide) (by decide) e d) (eO qT rfl)
theorem eY {g:Ry}:SS X sf io C g .stop:=λe s l H D d q=>by obtain⟨j,Z,i,k,N,A,f⟩:=q;exact(show RB from f).elim
end
end MR


namespace MR
open PySem PySem.Spec PyProof.Rows L2 L3
section
variable {X:Cx}{sf sg:O->L O}{io:U O}{C:M.Call}{pos p2:Pos}{ea eb ec:Rv}{a b c:M.E}{h:Rl}{n:O}
theorem jt {K:Ly}{o p:M.Op}{g g':I->I->Rl}(inv:∀{u v w:M.W},M.oSem o Lv [u,v]=Y w->∃m n i j,u=(m,.int i)/\v=(n,.int j)/\w=(.d,.bl<|g i j))(t:∀{u v w:M.W},M.oSem p Lv [u,v]=Y w->∃m n i j,u=(m,.int i)/\v=(n,.int j)/\w=(.d,.bl<|g' i j))
  (σ:L2.St) (H:Hp) (Q:VK) (hw:wE K sf C (.chain o p a b c) σ H Q):jR (rI0 λi j=>.bl<|g i j) (rI0 λi j=>.bl<|g' i j) (wE K sf C a) (wE K sf C b) (wE K sf C c) σ H Q:=by
 obtain⟨pv,Z,Fs,η,w,η',A,ev,k⟩:=hw;obtain⟨⟨x,η1⟩,h1,h2⟩:=ae<|show(M.evE C a η).bind (M.kC1 o p (M.evE C b)<|M.evE C c)=_ from ev;obtain⟨⟨y,l⟩,h3,h4⟩:=ae<|show(M.evE C b η1).bind (M.kC2 o p (M.evE C c) x)=_ from h2;obtain⟨⟨kk,η3⟩,h5,h6⟩:=ae<|show(M.ret l<|M.oSem o Lv [x,y]).bind (λk=>M.onB k.1.2 (M.then' (M.evE C c)<|M.kC3 p y) (M.okW (.d,.bl Lv)) k.2)=_ from h4;obtain⟨k',e5,e5'⟩:=aq h5;cases e5';obtain⟨m1,m2,i,j,rfl,rfl,rfl⟩:=inv e5;have dr:∀{Z:Fp} {H:Hp} {F Z1:Fp} {H1:Hp} {f:Fps} {G1:Fp},Step Z H F Z1 H1 (λa=>tot f a\/G1 a)->Step Z H F Z1 H1 (tot f):=λs=>s.mono (λ_ z=>z) λ_ z=>.inl z;refine gi A h1 λvx Z1 H1 f G1 A1 r1 _ s1 _=>?_;have G:=A1.bare;refine gi G h3 λvy Z2 H2 N G2 A2 r2 _ s2 _=>⟨i,j,r1,r2,g i j,rfl,?_⟩;have r:=A2.bare;have D:=(dr s1).trans<|dr s2;have e:M.onB (.bl (g i j)) (M.then' (M.evE C c) (M.kC3 p (m2,.int j))) (M.okW (.d,.bl Lv)) l=.ok (w,η'):=h6;cases hg:g i j with
 |true=>rw[hg] at e;rw[Rk rfl];obtain⟨⟨z,η4⟩,h7,h8⟩:=ae<|show(M.evE C c l).bind (M.kC3 p (m2,.int j))=_ from e;obtain⟨z',e8,e8'⟩:=aq<|show M.ret η4 (M.oSem p Lv [(m2,.int j),z])=_ from h8;cases e8';obtain⟨n1,n2,i',j',e9,rfl,rfl⟩:=t e8;cases e9;refine gi r h7 λvz Z3 H3 P G3 A3 r3 _ s3 _=>⟨j,j',r2,r3,?_⟩;exact k _ Z3 H3 P no A3.bare rfl ((D.trans<|dr s3).mono (λ_ z=>z) λ_ z=>z.elim id λq=>q.elim)
 |false=>rw[hg] at e;rw[Rn LX];cases e;exact k _ Z2 H2 N no r rfl (D.mono (λ_ z=>z) λ_ z=>z.elim id λq=>q.elim)
theorem uQ {o p:M.Op}{g Z:I->I->Rl}(A:∀{u v w:M.W},M.oSem o Lv [u,v]=Y w->∃m n i j,u=(m,.int i)/\v=(n,.int j)/\w=(.d,.bl<|g i j))(r:∀{u v w:M.W},M.oSem p Lv [u,v]=Y w->∃m n i j,u=(m,.int i)/\v=(n,.int j)/\w=(.d,.bl<|Z i j)):
  ∀F w f,M.evE C (.chain o p a b c) F=.ok (w,f)->∃b,w.2=.bl b:=λF w f ev=>by
 obtain⟨⟨x,G⟩,h1,h2⟩:=ae<|show(M.evE C a F).bind (M.kC1 o p (M.evE C b)<|M.evE C c)=_ from ev;obtain⟨⟨y,l⟩,h3,h4⟩:=ae<|show(M.evE C b G).bind (M.kC2 o p (M.evE C c) x)=_ from h2;obtain⟨⟨kk,η3⟩,h5,h6⟩:=ae<|show(M.ret l<|M.oSem o Lv [x,y]).bind (λk=>M.onB k.1.2 (M.then' (M.evE C c)<|M.kC3 p y) (M.okW (.d,.bl Lv)) k.2)=_ from h4;obtain⟨k',P,s⟩:=aq h5;cases s;obtain⟨m1,D,i,j,rfl,rfl,rfl⟩:=A P;have e:M.onB (.bl (g i j)) (M.then' (M.evE C c) (M.kC3 p (D,.int j))) (M.okW (.d,.bl Lv)) l=.ok (w,f):=h6;cases N:g i j with
 |true=>rw[N] at e;obtain⟨⟨z,H⟩,h7,h8⟩:=ae<|show(M.evE C c l).bind (M.kC3 p (D,.int j))=_ from e;obtain⟨z',Q,t⟩:=aq<|show M.ret H (M.oSem p Lv [(D,.int j),z])=_ from h8;cases t;obtain⟨n1,n2,i',j',e9,rfl,rfl⟩:=r Q;exact⟨_,rfl⟩
 |false=>rw[N] at e;cases e;exact⟨_,rfl⟩
theorem AM (d:SE X sf C ea a)(e:SE X sf C eb b)(f:SE X sf C ec c)(g:Oh [.LtE,.LtE] [eb,ec]=false:=by with_unfolding_all rfl):SE X sf C (.Compare ea [.LtE,.LtE] [eb,ec] pos) (.chain .le .le a b c):=
 aj (kN pM pM d e f g) (jt fR fR)
theorem Az (d:SE X sf C ea a)(e:SE X sf C eb b)(f:SE X sf C ec c)(g:Oh [.LtE,.LtE] [eb,ec]=false:=by with_unfolding_all rfl):SB X sf C (.Compare ea [.LtE,.LtE] [eb,ec] pos) (.chain .le .le a b c):=
 jB (xR pM pM d e f g) λj H Q i=>jt fR fR j H _<|B9 (uQ fR fR) i
theorem vP:OpR X (Mg .IsNot) (λx y H Q=>∃a b,x=.bl a/\y=.bl b/\Q (.bl<|!(a==b)) H):=by intro e s i H x y v u Q d f g h;obtain⟨a,b,rfl,rfl,q⟩:=h;cases f;cases g;cases a<;>cases b<;>exact LN<|mL d q rfl
theorem mG {u v w:M.W}(e:M.oSem .isnB h [u,v]=Y w):∃m n a b,u=(m,.bl a)/\v=(n,.bl b)/\w=(.d,.bl<|!(a==b)):=by obtain⟨m,a⟩:=u;obtain⟨n,b⟩:=v;cases a<;>first|(cases e;done)|(cases b<;>first|(cases e;done)|(cases e;exact⟨_,_,_,_,rfl,rfl,rfl⟩))
theorem wQ {K:Ly}:Loc K 2 .isnB h λf H Q=>∀x y,f=[x,y]->∃a b,x=.bl a/\y=.bl b/\Q (.bl<|!(a==b)) H:=by intro s w f Z H G Q j e r l t k x y hx;subst hx;obtain⟨u,v,rfl⟩:=eV r.length.symm;obtain⟨g,i,o,p,d,r1,r2⟩:=cS r;obtain⟨m,n,a,b,rfl,rfl,rfl⟩:=mG e;exact⟨a,b,r1,r2,cB k⟩
theorem xS (d:SE X sf C ea a)(f:SE X sf C eb b):SB X sf C (.Compare ea [.IsNot] [eb] pos) (.op .isnB h [a,b]):=cG vP d f (cQ _) (aN wQ) λu v w e=>by obtain⟨_,_,_,_,_,_,rfl⟩:=mG e;exact⟨_,rfl⟩
theorem Ae {u w:M.W}(e:M.oSem .len Lv [u]=Y w):∃n:O,w=(.d,.int n):=by obtain⟨m,a⟩:=u;cases a<;>first|(cases e;exact⟨_,rfl⟩)|(cases e;done)
theorem FR (j:O){i:O}{x:Str}{p u:Pos}(P:X.mg "len"=J)(F:Gl X "len":=by rfl)(hs:sf i=Y j:=by rfl)(hN:X.N[j]?=Y x:=by rfl)(hv:Vis X.env.scope x:=by first|exact L1 rfl|exact LV (L1 rfl)|exact LV<|LV rfl)(hd:(x==("__debug__":Str))=false:=by decide)
  (o:(x==("__classdict__":Str))=false:=by decide) (f:Lz [.Name x u] X.env=(Lv,Rz (.Name x u) X.env)::Lz [] X.env:=by rfl) (s:(LY pos<|Lz [] X.env).any (·.1)=false:=by rfl):SE X sf C (.Call (.Name "len" p) [.Name x u] [] pos) (.lenV i):=
 aj (ez mD F P PM (cU (bR hN hv hd o) fU f) (by decide) (by decide) f s) λσ H Q hw=>by
  obtain⟨pv,Z,D,y,w,η',A,ev,k⟩:=hw;obtain⟨w',e1,e2⟩:=aq<|show M.ret y ((M.rd y i).bind λw=>M.oSem .len Lv [w])=_ from ev;cases e2;cases l:M.rd y i with
  |none=>rw[l] at e1;cases e1
  |some g=>rw[l] at e1;have e:M.oSem .len Lv [g]=Y w:=e1;obtain⟨n,rfl⟩:=Ae e;obtain⟨v,r,t⟩:=A.env i g.1 g.2 l;obtain⟨x',n',hx,G,hq⟩:=ml (K:=X.K) (h:=Lv) [g] (.d,.int n) [v] Z H (D i) (λv' _=>v'=.int n) rfl e (RepW.one r) (λa m=>A.gd.own a ⟨i,m⟩) A.gd.zal (λ_ _ _ _ r _ _=>r);cases hx;cases hq;exact⟨v,t.1 j hs,v,n,rfl,G,k _ Z H D no A rfl ((Step.refl _ _ _).mono (λ_ z=>z) λa m=>m.elim id λz=>z.elim)⟩
end
end MR

namespace MR
open PySem PySem.Spec PyProof.Rows L2 L3
section
variable {X:Cx}{sf sg:O->L O}{C:M.Call}{pos p2 p3:Pos}{ea eb ec:Rv}{a b c:M.E}{h:Rl}{n:O}{io:U O}
theorem sGc {x:Str}{i:I}(d:∃t,X.mg x=Y (.int i t))(e:Gl X x:=by rfl)(hd:(x==("__debug__":Str))=false:=by decide):SE X sf C (.Name x pos) (.cst<|.int i):=by obtain⟨t,d⟩:=d;exact aj (gK (v:=.int i) e d ⟨t,rfl⟩ hd)<|iO rfl
theorem Hz {K:Ly}{f d:U O}{e:M.E}(g:L2.St)(H:Hp)(Q:VK)(h:wE K sf C (.qx f d e) g H Q):wE K sf C e g H Q:=by obtain⟨i,Z,l,m,w,j,A,ev,k⟩:=h;exact mR (x:=.q f d) (sl:=⟨sf,i⟩) A ev k
theorem sQ {f e:U O}(d:SE X sf C ea a):SE X sf C ea (.qx f e a):=aj d Hz
def BG (K:Ly)(H:Hp):U O->V->V->Prop
|[],v,u=>u=v
|j::p,v,u=>∃a d x,v=.ref a/\(SqL K H a d\/SqT K H a d)/\d[j]?=Y x/\BG K H p x u
def wP (K:Ly)(sf:O->L O)(i:O)(p:U O):TE:=λd H Q=>∃j v u,sf i=Y j/\d[j]?=Y (Y v)/\BG K H p v u/\Q u H
abbrev SP (X:Cx)(sf:O->L O)(d:Rv)(i:O)(p:U O):Prop:=PE X d<|wP X.K sf i p
noncomputable def putF (d:Fps)(i:O)(G:Fp):Fps:=λl a=>(l=i/\G a)\/(l≠i/\d l a)
def CstR (K:Ly)(t:M.T)(v:V):Prop:=∀(Z:Fp) (H:Hp),Rep K Z H .s t v no
theorem cst_int {K:Ly}(i:I):CstR K (.int i) (.int i):=λ_ _=>rfl
theorem cst_non {K:Ly}:CstR K .non .non:=λ_ _=>rfl
theorem cst_bl {K:Ly}(b:Rl):CstR K (.bl b) (.bl b):=λ_ _=>rfl
theorem cst_str {K:Ly}{x:Str}(h:M.sOk x=Lw):CstR K (.str x) (.str x):=λ_ _=>⟨rfl,h⟩
def nW (K:Ly)(w:LA)(d:Str->L B)(x:Str)(tab:U<|Str×M.T):Prop:=
 ∃a T,d x=Y (.ref a)/\DTab K w a T/\∀z,match tab.lookup z with
  |some t=>∃v,T.lookup z=Y v/\CstR K t v
  |none=>T.lookup z=J
theorem DS {K:Ly}{w:LA}{ad:Rj}{T:U<|Str×V}{tab:U<|Str×M.T}{e:M.E}(D:DTab K w ad T)(ht:∀z,match tab.lookup z with
  |some t=>∃v,T.lookup z=Y v/\CstR K t v
  |none=>T.lookup z=J) (o:L2.St) (H:Hp) (Q:VK) (h:wE K sf C (.ixT tab e) o H Q):tOp (λx y H Q=>∃a z T v,x=.ref a/\y=.str z/\DTab K w a T/\T.lookup z=Y v/\Q v H) (tC<|.ref ad) (wE K sf C e) o H Q:=by
 obtain⟨pv,Z,p,l,w',η',A,ev,k⟩:=h;obtain⟨⟨u,g⟩,F,N⟩:=ae<|show(M.evE C e l).bind (M.kTab tab M.okS)=_ from ev;obtain⟨z,t,e1,e2,P⟩:=l6 N;cases P;refine⟨pv,Z,p,l,u,g,A,F,λy j i f G d r s=>?_⟩;obtain⟨m,t0⟩:=u;cases(show t0=_ from e1);have q:=ht z;rw[e2] at q;obtain⟨v,q1,q2⟩:=q;exact⟨ad,z,T,v,rfl,r.1,D,q1,k v j i f no d.bare (q2 j i)<|s.mono (λ_ z=>z) λa ha=>ha.elim .inl λz=>z.elim⟩
theorem yY {x:Str}{tab:U<|Str×M.T}(T:nW X.K X.w X.mg x tab)(d:SE X sf C ea a)(e:Gl X x:=by rfl)(hd:(x==("__debug__":Str))=false:=by decide)(g:gC ea:=by intro _ _;rfl):SE X sf C (.Subscript (.Name x p2) ea pos) (.ixT tab a):=by obtain⟨ad,j,f,D,i⟩:=T;exact aj (BI Ct (jJ e f hd) d g)<|DS D i
def qc (K:Ly)(w:LA)(e:Str->L B)(x:Str)(d:U Str):Prop:=∃a T,e x=Y (.ref a)/\DTab K w a T/\∀z,(T.lookup z).isSome=d.contains z
theorem v9 {K:Ly}{w:LA}{ad:Rj}{T:U<|Str×V}{i:U Str}{e:M.E}{f:Rl}(D:DTab K w ad T)(ht:∀z,(T.lookup z).isSome=i.contains z)(o:L2.St)(H:Hp)(Q:VK)(h:wE K sf C (.inT f i e) o H Q):
  wE K sf C e o H λx v=>∃z a j,x=.str z/\V.ref ad=.ref a/\DTab K w a j/\Q (.bl<|(j.lookup z).isSome != f) v:=by
 obtain⟨pv,Z,p,l,w',η',A,ev,k⟩:=h;obtain⟨⟨u,η1⟩,N,P⟩:=ae<|show(M.evE C e l).bind (M.kIn f i)=_ from ev;obtain⟨z,e1,e2,e3⟩:=jI P;cases e2;refine⟨pv,Z,p,l,u,_,A,N,λy F t g G d r s=>?_⟩;obtain⟨m,t0⟩:=u;cases(show t0=_ from e1);refine⟨z,ad,T,r.1,rfl,D,?_⟩;rw[ht z];refine k _ F t g no d.bare ?_<|s.mono (λ_ z=>z) λa ha=>ha.elim .inl λz=>z.elim;rw[show w'=_ from e3];rfl
end
end MR

namespace MR
open PySem PySem.Spec PyProof.Rows L2 L3
section
variable {X:Cx}{sf:O->L O}{C:M.Call}{me:Rv}{f:O}{bs:U M.E}
theorem sr (h:∀c,C f c=.no):SE X sf C me (.call f bs):=λe s n H Q a ⟨m,Z,j,g,w,i,A,ev,k⟩=>by obtain⟨⟨c,b⟩,l,d⟩:=ae<|show(M.evA C bs g).bind (M.kCall C f<|M.ios bs)=_ from ev;rw[show M.kCall C f (M.ios bs) (c,b)=(C f c).bind (M.kBack (M.ios bs) b) from rfl,h] at d;cases d
end
theorem fsc {N P:U Str}{a:RF}(b:a.kind=.function:=by rfl)(c:a.isCoroutine=false:=by rfl)(d:a.isGenerator=false:=by rfl)(e:N.Nodup:=by decide +kernel)(f:N.take P.length=P:=by rfl)(g:∀x∈P,a.names.lookup x=Y .local\/a.names.lookup x=Y .cell:=by decide +kernel)(h:∀y∈a.names,y.2≠.free:=by decide +kernel):af N P a:=⟨b,c,d,e,f,g,h⟩
theorem csc {pre b:U Str}{a:RF}(c:a.kind=.function:=by rfl)(d:∀y∈a.names,y.2≠.cell:=by decide +kernel)(e:∀y∈a.names,y.2=.local->a.names.lookup y.1=Y .local:=by decide +kernel)(f:∀x∈pre,a.names.lookup x=Y .local:=by decide +kernel)(g:(pre++b).Nodup:=by decide +kernel):aV pre b a:=⟨c,d,e,f,g⟩
section
variable {P:Ro}{w:LA}{K:Ly}{mg:Str->L B}{base:Rx}{x:Str}{st:Ry}{ps N:U Str}{n g:O}{io:U O}{C C':M.Call}{d:B}{t:M.T}
structure Df (K:Ly)(mg:Str->L B)(x:Str)(st:Ry)(ps:U Str):Prop where
 ex:∃f fd,Fun K x x st f fd/\Binds K fd ps []/\mg x=Y (.ref f)
theorem Df.ok (e:Df K mg x st ps)(h:∀f a,Fun K x x st f a->dh P w K mg base CX0 n f a ps (spS K C g io)):aa P w K mg base n C x g io:=by obtain⟨f,a,F,b,m⟩:=e.ex;exact⟨f,a,ps,h f a F,m,F.kp,b⟩
theorem Df.z (e:Df K mg x st ps)(a:∀b,C g b=.no:=by intro _;rfl):aa P w K mg base n C x g io:=e.ok λ_ _ _=>fn0 a
theorem Df.s (a:M.Fn)(e:Df K mg x st ps)(S:af N ps<|defScope st)
  (p:∀{f:Rj} {c:B} {A:LS} {b:U Env} {s:Lx} {H:Hp} {E:XK},Room n (A.deeper<|MC x (defScope st) s.heap.objs.size f c)->SSs (iT CX0 P w K mg base N x (defScope st) f c A b s H E).nox (slN N.length) a.io C (defBody st) a.body)
  (o:∀m,C' g m=M.runF C a m:=by intro _;rfl) (l:a.ps=ps.length:=by rfl) (k:ps.length<=N.length:=by decide) (r:a.io.Nodup:=by decide) (j:∀i∈a.io,i<ps.length:=by decide):aa P w K mg base (n+1) C' x g a.io:=
 e.ok λ_ _ F=>Fun.okM F S l k r j (λ_ _ _ _ _ _ h=>p h) o
def Raw (K:Ly)(x:Str)(st:Ry)(c:B):Prop:=∃f h i k kV e j an a b,MK K LP x=Y (Y<|.ref f)/\K.lookup f=Y ⟨h,i,.func<|ME x x (defArgs st) (defBody st) (defScope st) c kV e j an a b,k⟩/\OL K a x=Lw/\Nu K (.ref f)=Lw
theorem ay {h:Rx}(X:K.In h)(G:h.Ns LP mg)(r:Raw K x st .none)(o:∀(kV b i:B) (an:L Rj) (a e:B) (c:U B),c.length=ps.length->bindArgs (ME x x (defArgs st) (defBody st) (defScope st) .none kV b i an a e) ⟨c,[]⟩=pure (ps.zip c)):Df K mg x st ps:=by obtain⟨f,u,v,y,kV,s,i,an,p,e,j,k,l,m⟩:=r;have F:=tI (st:=st) k l m;exact⟨f,_,F,F.binds o,MM X G j⟩
def Eb (K:Ly):U Str->Prop
|[]=>R4
|x::r=>MK K LP x=Y J/\Eb K r
theorem Dk {h:Rx}(X:K.In h)(G:h.Ns LP mg)(r:Eb K ["isinstance","int","tuple","list","bool","sum","len","all","zip","range","enumerate","any","max","min","sorted","str","repr","abs","dict","set","reversed"]):Txt mg:=by obtain⟨z1,z2,u,v,y,A,D,F,H,a,b,c,e,f,i,j,k,l,o,p,s,_⟩:=r;have m:=λ{x:Str} (z:MK K LP x=Y J)=>PySem.W.mg_none_of X G z;exact⟨m z1,m z2,m u,m v,m y,m A,m D,m F,m H,m a,m b,m c,m e,m f,m i,m j,m k,m l,m o,m p,m s⟩
def TabRaw (K:Ly)(w:LA)(x:Str)(T:U<|Str×V):Prop:=∃a b n,MK K LP x=Y (Y<|.ref a)/\K.lookup a=Y ⟨.type "dict",J,.dict b n,#[]⟩/\Qz w.params b.toList/\Paired (λ(p:Str×V) (e:RC)=>(∃t,e.key=.str p.1 t)/\RelV p.2 e.val) T b.toList/\(a==NJ)=Lv
theorem TabRaw.tab {h:Rx}{T:U<|Str×V}(X:K.In h)(G:h.Ns LP mg)(r:TabRaw K w x T):∃a,mg x=Y (.ref a)/\DTab K w a T:=by obtain⟨a,b,n,c,e,f,i,j⟩:=r;exact⟨a,MM X G c,⟨b,n,e,f,i⟩,j⟩
theorem jv (z:Str):∀T:U<|Str×V,(T.lookup z).isSome=(T.map Nr).contains z
|[]=>rfl
|(k,v)::T=>by
 rw[Na,LJ,Qh];cases z==k with
 |true=>rfl
 |false=>rw[jv z T];rfl
theorem ki {h:Rx}{T:U<|Str×V}{b:U Str}(X:K.In h)(G:h.Ns LP mg)(r:TabRaw K w x T)(hk:T.map Nr=b):qc K w mg x b:=by obtain⟨a,c,e⟩:=r.tab X G;exact⟨a,T,c,e,λz=>by rw[jv,hk]⟩
def CstL (K:Ly):U (Str×M.T)->U (Str×V)->Prop
|[],[]=>R4
|e::r,p::T=>(p.1=e.1/\CstR K e.2 p.2)/\CstL K r T
|_,_=>RB
theorem jw (z:Str):∀{tab:U<|Str×M.T} {T:U<|Str×V},CstL K tab T->match tab.lookup z with
 |some t=>∃v,T.lookup z=Y v/\CstR K t v
 |none=>T.lookup z=J
|[],[],_=>rfl
|(k,t)::r,(a,v)::T,⟨⟨e,c⟩,q⟩=>by
 have b:a=k:=e;subst b;have f:=jw z q;rw[Na,Na];cases z==a with
 |true=>exact⟨v,rfl,c⟩
 |false=>exact f
|[],_::_,h=>h.elim
|_::_,[],h=>h.elim
theorem gL {h:Rx}{T:U<|Str×V}{tab:U<|Str×M.T}(X:K.In h)(G:h.Ns LP mg)(r:TabRaw K w x T)(e:CstL K tab T):nW K w mg x tab:=by obtain⟨a,b,c⟩:=r.tab X G;exact⟨a,T,b,c,λz=>jw z e⟩
end
end MR

namespace MR
open PySem PySem.Spec PyProof.Rows L2 L3
section
variable {X:Cx}{sf sg:O->L O}{C:M.Call}{pos p p2 p3:Pos}{ea eb ec:Rv}{a b c:M.E}{h:Rl}{n:O}{io:U O}{K:Ly}
theorem zx:Loc K 1 .int h λd H Q=>(∃i,d=[.int i]/\Q (.int i) H)\/∃k,d=[.bl k]/\Q (.int<|if k then 1 else 0) H:=by
 intro g w d Z H G Q f e r j l k
 match g,f with
 |[(m,a)],_=>
  obtain⟨x,rfl,r1⟩:=bc rfl r;cases a with
  |int i=>cases e;exact .inl ⟨i,by rw[show x=_ from r1],aQ k⟩
  |bl b=>cases e;exact .inr ⟨b,by rw[show x=_ from r1],by cases b<;>exact aQ k⟩
  |_=>cases e
theorem AX (hm:X.mg "int"=J)(f:Gl X "int":=by rfl)(ha:SE X sf C ea a)(e:Lz [ea] X.env=(Lv,Rz ea X.env)::Lz [] X.env:=by rfl)(d:(LY pos<|Lz [] X.env).any (·.1)=false:=by rfl):SE X sf C (.Call (.Name "int" p) [ea] [] pos) (.op .int h [a]):=
 aj (cI qS f hm O5 (slc ha sl0 e) (by decide) (by decide) e d) (eO zx rfl)
theorem oO:∀{d:U I} {m:I},m∈d->(∀n∈d,n<=m)->M.maxI d=m
|[n],m,h,_=>(LR.mp h).symm
| n::i::d,m,h,f=>by
 show max n (M.maxI (i::d))=m;rcases LK.mp h with e|e
 .subst e
  have g:∀l:U I,l≠[]->(∀x∈l,x<=m)->M.maxI l<=m:=by
   intro l;induction l with
   |nil=>intro z;exact Rm rfl z
   | cons y l j =>
    intro _ z;cases l with
    |nil=>exact z y LI
    |cons k l=>have:=j (by simp) λx hx=>z x<|LO _ hx;have:=z y LI;show max y (M.maxI (k::l))<=m;lia
  have:=g (i::d) (by simp) λx hx=>f x<|LO _ hx;lia
 .have:=oO e fun x hx=>f x<|LO _ hx;have:=f n LI;lia
theorem vm:Loc K 1 .max1 h λj H Q=>∃(a:Rj) (f:U I),j=[.ref a]/\SqL K H a (f.map V.int)/\f≠[]/\∀M,M∈f->(∀n∈f,n<=M)->Q (.int M) H:=by
 intro v w j Z H G Q u e r A D k
 match v,u with
 | [(m,a)],_ =>
  obtain⟨x,rfl,r1⟩:=bc rfl r;cases a with
  | lst o =>
   obtain⟨a,j,hx,l,y,p⟩:=bG r1;have g:((M.intsOf o).bind λf=>if f.isEmpty then J else Y ((.d,.int (M.maxI f)):M.W))=Y w:=e;cases e1:M.intsOf o with
   |none=>rw[e1] at g;cases g
   | some f =>
    rw[e1] at g;have e2:(if f.isEmpty=Lw then J else Y ((.d,.int (M.maxI f)):M.W))=Y w:=g;split at e2
    .cases e2
    .rename_i i;cases e2;rw[x8 e1 p] at l;refine⟨a,f,by rw[hx],.inl<|.inl l,λz=>i<|by rw[z];rfl,λm s t=>?_⟩;rw[<- oO s t];exact aQ k
  |_=>cases e
theorem GO (f:X.calm=true:=by rfl)(hm:X.mg "max"=J)(g:Gl X "max":=by rfl)(ha:SE X sf C ea a)(e:Lz [ea] X.env=(Lv,Rz ea X.env)::Lz [] X.env:=by rfl)(d:(LY pos<|Lz [] X.env).any (·.1)=false:=by rfl):SE X sf C (.Call (.Name "max" p) [ea] [] pos) (.op .max1 h [a]):=
 aj (ez (qq f) g hm (by rfl) (slc ha sl0 e) (by decide) (by decide) e d) (eO vm rfl)
theorem fJ {Z:Fp}{H:Hp}{G:Fp}{m:M.Md}{t:M.T}{x:V}(j:M.flatT t=Lw)(r:Rep K Z H m t x G):eJ x=Lw/\∀(u:M.T) (y:V) {m':M.Md} {g:Fp},M.flatT u=Lw->Rep K Z H m' u y g->eqV y x=M.eqT u t:=by
 cases t with
 |non=>cases r;refine⟨rfl,λu y m' g f d=>?_⟩;cases u<;>first|(cases d;rfl)|(obtain⟨e,_⟩:=d;cases e;rfl)|cases f
 |bl b=>cases r;refine⟨rfl,λu y m' g f d=>?_⟩;cases u<;>first|(cases d;rfl)|(cases d;cases b<;>rfl)|(obtain⟨e,_⟩:=d;cases e;rfl)|cases f
 |int i=>cases r;refine⟨rfl,λu y m' g f d=>?_⟩;cases u with
  |bl c=>cases d;cases c<;>rfl
  |_=>first|(cases d;rfl)|(obtain⟨e,_⟩:=d;cases e;rfl)|cases f
 |str z=>obtain⟨e,_⟩:=r;cases e;refine⟨rfl,λu y m' g f d=>?_⟩;cases u<;>first|(cases d;rfl)|(obtain⟨e,_⟩:=d;cases e;rfl)|cases f
 |_=>cases j
theorem mI {Z:Fp}{H:Hp}{G:Fp}{m:M.Md}{t:M.T}{x:V}(i:M.flatT t=Lw)(r:Rep K Z H m t x G):∀{f:U M.T} {g:U V} {m':M.Md} {j:Fp},f.all M.flatT=Lw->RepL K Z H m' f g j->g.all eJ=Lw/\L2.inV x g=f.any λu=>M.eqT u t
|[],_,_,_,_,h=>by cases h;exact⟨rfl,rfl⟩
|u::f,_,m',_,d,⟨y,s,v,w,e,_,_,_,q,o⟩=>by cases e;rw[NW,LQ] at d;obtain⟨k,l⟩:=mI i r d.2 o;refine⟨by rw[NW,(fJ d.1 q).1,k];rfl,?_⟩;show(eqV y x || L2.inV x s)=_;rw[OY,l,(fJ i r).2 u y d.1 q]
theorem sZ {neg:Rl}{u v w:M.W}{o:M.Op}(ho:o=if neg then .notin else .isin)(e:M.oSem o h [u,v]=Y w):∃f,M.elems v=Y f/\M.flatT u.2=Lw/\f.all M.flatT=Lw/\w=(.d,.bl<|if neg then !f.any (λt=>M.eqT t u.2) else f.any λt=>M.eqT t u.2):=by
 obtain⟨m,a⟩:=u;obtain⟨n,b⟩:=v;subst ho;cases neg with
 |true=>
  obtain⟨f,j,g⟩:=QS.mp<|show(M.elems (n,b)).bind (λf=>if(M.flatT a&&f.all M.flatT)=Lw then Y ((.d,.bl<|!f.any λt=>M.eqT t a):M.W) else J)=Y w from e;split at g
  .rename_i i;rw[LQ] at i;cases g;exact⟨f,j,i.1,i.2,rfl⟩
  .cases g
 |false=>
  obtain⟨f,j,g⟩:=QS.mp<|show(M.elems (n,b)).bind (λf=>if(M.flatT a&&f.all M.flatT)=Lw then Y ((.d,.bl<|f.any λt=>M.eqT t a):M.W) else J)=Y w from e;split at g
  .rename_i i;rw[LQ] at i;cases g;exact⟨f,j,i.1,i.2,rfl⟩
  .cases g
theorem tO (g:Rl){o:M.Op}(ho:o=if g then .notin else .isin):Loc K 2 o h λf H Q=>∀x y,f=[x,y]->rIn K g x y H Q:=by
 intro P w f Z H G Q z e r A za k x y hx;subst hx;obtain⟨⟨m,a⟩,⟨n,b⟩,rfl⟩:=eV r.length.symm;obtain⟨u,v,F,N,d,r1,r2⟩:=cS r;obtain⟨D,e1,e2,e3,rfl⟩:=sZ ho e;cases b with
 |lst t=>cases e1;obtain⟨p,f,rfl,l,s,q⟩:=bG r2;obtain⟨i,j⟩:=mI e2 r1 e3 q;refine⟨p,f,rfl,.inl<|.inl<|.inl l,(fJ e2 r1).1,i,?_⟩;rw[j];exact cB k
 |tup t=>cases e1;obtain⟨p,f,rfl,l,s,q⟩:=cD r2;obtain⟨i,j⟩:=mI e2 r1 e3 q;refine⟨p,f,rfl,.inr l,(fJ e2 r1).1,i,?_⟩;rw[j];exact cB k
 |_=>cases e1
theorem vR (d:SE X sf C ea a)(e:SE X sf C eb b)(f:M5 .In eb=false:=by rfl):SE X sf C (.Compare ea [.In] [eb] pos) (.op .isin h [a,b]):=aj (gB jq d e f)<|aN<|tO Lv rfl
theorem eU (d:SE X sf C ea a)(f:SE X sf C eb b)(g:M5 .In eb=false:=by rfl):SB X sf C (.Compare ea [.In] [eb] pos) (.op .isin h [a,b]):=cG jq d f g (aN<|tO Lv rfl) λu v w e=>by obtain⟨_,_,_,_,rfl⟩:=sZ (neg:=Lv) rfl e;exact⟨_,rfl⟩
end
section
variable {X:Cx}{sf sg:O->L O}{C:M.Call}{pos p p2 p3:Pos}{ea eb ec:Rv}{a b c:M.E}{h:Rl}{io:U O}{K:Ly}
theorem xI {e:Rl}{i:U Str}{n:L2.St}{H:Hp}{Q:Rl->Hp->Prop}(D:wT K sf C (.inT e i a) n H Q):wE K sf C (.inT e i a) n H λx g=>∃k,x=.bl k/\Q k g:=by obtain⟨F,Z,o,m,w,j,b,A,ev,l,k⟩:=D;refine⟨F,Z,o,m,w,j,A,ev,λv t g f G d r s=>?_⟩;obtain⟨⟨u,N⟩,P,y⟩:=ae<|show(M.evE C a m).bind (M.kIn e i)=_ from ev;obtain⟨z,e1,e2,e3⟩:=jI y;rw[show w=_ from e3] at l r;cases l;exact⟨_,r,k t g f d.bare<|s.mono (λ_ z=>z) λ_ z=>.inl z⟩
theorem Jr {x:Str}{g:U Str}(T:qc X.K X.w X.mg x g)(n:SE X sf C ea a)(t:Gl X x:=by rfl)(hd:(x==("__debug__":Str))=false:=by decide)(o:M5 .In (.Name x p2)=false:=by rfl):SB X sf C (.Compare ea [.In] [.Name x p2] pos) (.inT Lv g a):=by obtain⟨ad,T',u,D,y⟩:=T;refine jB (jY uP n (jJ t u hd) o) λσ H Q F=>?_;obtain⟨M,Z,i,P,N,f,A,ev,k⟩:=v9 D y σ H _<|xI F;refine⟨M,Z,i,P,N,f,A,ev,λv m j e G d r s=>?_⟩;obtain⟨z,a,l,e1,e2,e3,q⟩:=k v m j e G d r s;rw[N8] at q;exact⟨z,a,l,e1,e2,e3,q⟩
theorem kd {x:Str}{g:U Str}(T:qc X.K X.w X.mg x g)(n:SE X sf C ea a)(t:Gl X x:=by rfl)(hd:(x==("__debug__":Str))=false:=by decide)(o:M5 .NotIn (.Name x p2)=false:=by rfl):SB X sf C (.Compare ea [.NotIn] [.Name x p2] pos) (.inT Lw g a):=by obtain⟨ad,T',u,D,y⟩:=T;refine jB (jY mm n (jJ t u hd) o) λσ H Q F=>?_;obtain⟨M,Z,i,P,N,f,A,ev,k⟩:=v9 D y σ H _<|xI F;refine⟨M,Z,i,P,N,f,A,ev,λv m j e G d r s=>?_⟩;obtain⟨z,a,l,e1,e2,e3,q⟩:=k v m j e G d r s;rw[Bool.bne_true] at q;exact⟨z,a,l,e1,e2,e3,q⟩
end
end MR

namespace MR
open PySem PySem.W L2 M
def CstRs (K:Ly)(a:U M.T)(b:U V):Prop:=∀(Z:Fp) (H:Hp),RepL K Z H .s a b no
theorem cst_nil {K:Ly}:CstRs K [] []:=λ_ _=>rfl
theorem cst_cons {K:Ly}{t:M.T}{b:U M.T}{x:V}{a:U V}(h:CstR K t x)(r:CstRs K b a):CstRs K (t::b) (x::a):=λZ H=>⟨x,a,no,no,rfl,λ_ h=>h,λ_ h=>h,λ_ h=>h.elim,h Z H,r Z H⟩
theorem cst_tup {K:Ly}{d:U M.T}{c:U V}{a:Rj}{o:Obj}{b:RD B}{n:O}(h:K.lookup a=Y o)(e:o.cls=.type "tuple")(hd:o.data=.seq b n)(g:b.size<=sizeLine)(i:Vals c b.toList)(f:c.length<=LIM)(r:CstRs K d c):CstR K (.tup d) (.ref a):=λZ H=>⟨a,c,rfl,.inr ⟨o,b,n,h,e,hd,g,i⟩,f,r Z H⟩
end MR




namespace L3
open PySem PySem.Spec PySem.NumText PyProof.Rows L2
theorem Ck {i:I}(h:i.natAbs<10000000000000000000):i.natAbs.log2<1920:=by
 by_cases a:i.natAbs=0
 .rw[a];decide
 .exact Mc ((Nat.log2_lt a).mpr<|show i.natAbs<2 ^ 64 from Mc h<|by decide) (by decide)
theorem jy {X:Cx}:dN X (.type "str") (λc H Q=>∃i,c=[.int i]/\i.natAbs<10000000000000000000/\Q (.str<|Str.ofString<|toString i) H):=by intro b s g H c f Q a r h;obtain⟨i,rfl,d,q⟩:=h;obtain⟨u,rfl,e⟩:=dQ r;obtain⟨t,rfl⟩:=e;exact PySem.P.str_of_int (Ck d) ⟨.str _,H,a.tok _,⟨_,rfl⟩,q⟩
theorem qI (m:O):(Str.ofString<|toString<|Pl m).cps.toList=45::(My 10<|m+1).map L7:=by rw[signs_ofString];show("-"++Nat.repr (m+1)).toList.map L7=_;rw[QL,Qw];rfl
theorem pK (m:O):AllDigits ((My 10 m).map L7)/\(My 10 m).map L7≠[]:=by
 refine⟨λc b=>?_,λe=>?_⟩
 .obtain ⟨ch,a,e⟩:=Mm.mp b;have r:=digit_range<|PQ (by decide) (by decide) a;rw[<- e];exact r
 .have h:=toDigits_len_ge 10 m;rw[OD.mp e] at h;exact Rm h<|by decide
theorem k8 {n:I}(h:n.natAbs<10000000000000000000):(Str.ofString<|toString n).length<=20:=by
 have b:=int_text_length_le10 (a:=n) (k:=19) (by decide) h;have:(Str.ofString<|toString n).length=(toString n).length:=by show(Str.ofString<|toString n).cps.size=_;rw[<- Mn,signs_ofString,LB,O1]
 lia
theorem qj {n:I}(h:n.natAbs<10000000000000000000):PySem.intText? (Pq<|toString n)=Y n:=by
 have c:=k8 h;cases n with
 |ofNat m=>obtain⟨a,b⟩:=pK m;have e:=intText_digits (x:=Pq<|toString ((m:O):I)) (by rw[Ox];exact a) (by rw[Ox];exact b) (LL c<|by decide);rw[Ox,O0] at e;exact e
 |negSucc m=>obtain⟨a,b⟩:=pK<|m+1;have e:=intText_neg (x:=Pq<|toString<|Pl m) (qI m) a b (LL c<|by decide);rw[O0] at e;exact e
theorem rq {X:Cx}:dN X (.type "int") (λd H Q=>∃i:I,d=[.str<|Str.ofString<|toString i]/\i.natAbs<10000000000000000000/\Q (.int i) H):=by intro c s g H d f Q a r h;obtain⟨i,rfl,b,q⟩:=h;obtain⟨u,rfl,e⟩:=dQ r;obtain⟨t,rfl⟩:=e;exact PySem.W.KIN.call_text (qj b) (LL (k8 b)<|by decide) ⟨.int _,H,a.tok _,⟨_,rfl⟩,q⟩
def spJ (c:O)(a:U<|U O):U MF:=a.map λl=>⟨l.toArray⟩
theorem nS (c:O):∀(b a:U O),M.spl c a b≠[]
|[],a=>Mq _ _
|x::b,a=>by
 unfold M.spl;split
 .exact Mq _ _
 .exact nS c b _
theorem iq (c:O):∀(d a:U O),c ∉ a->∀l∈M.spl c a d,c ∉ l
|[],a,h,l,b=>by rw[LR.mp b];exact h
| x::d,a,h,l,b=>by
 unfold M.spl at b;split at b
 .rcases LK.mp b with rfl | b
  .exact h
  .exact iq c d [] (by simp) l b
 .rename_i hx;refine iq c d _ (λz=>?_) l b;rcases Ms.mp z with z|z
  .exact h z
  .exact hx (LR.mp z).symm
theorem dk (c:O):∀(b a:U O),(Mj ⟨#[c]⟩<|spJ c<|M.spl c a b).cps.toList=a++b
|[],a=>by rw[LW];rfl
| x::b,a=>by
 unfold M.spl;split
 .rename_i hx;have d:=dk c b []
  obtain⟨y,r,e⟩:∃y r,M.spl c [] b=y::r:=by
   cases h:M.spl c [] b with
   |nil=>exact Rm h<|nS c b []
   |cons y r=>exact⟨y,r,rfl⟩
  rw[e] at d ⊢;show((⟨a.toArray⟩:MF)++⟨#[c]⟩++Mj ⟨#[c]⟩ (spJ c (y::r))).cps.toList=_;rw[bo,bo,d,hx];simp
 .rw[dk c b<|a++[x],L6];rfl
theorem rm (x:MF):PySem.Txt.split x (Str.ofString " ")=M.splS x:=by
 have c:Str.ofString " "=⟨#[32]⟩:=by decide +kernel
 rw[c]
 have e1:Mj ⟨#[32]⟩ (M.splS x)=x:=by
  have:=dk 32 x.cps.toList [];cases x with
  |mk a=>have b:(Mj ⟨#[32]⟩ (M.splS ⟨a⟩)).cps.toList=a.toList:=this;generalize Mj ⟨#[32]⟩ (M.splS ⟨a⟩)=u at b;cases u;exact Rw Pe<|OQ.mp b
 refine mr 32 _ _ (xr _ _) (λz=>nS 32 _ _<|OD.mp z) (StrLaws.split_free _ 32) (λp hp=>?_)<|(StrLaws.join_split _ _).trans e1.symm;obtain⟨l,d,rfl⟩:=Mm.mp hp;exact iq 32 _ _ M9 l d
theorem qY {z:MF}{b:U MF}(h:(b.map λs=>s.cps.size+z.cps.size).sum<=M.LIM):JoinOk z b=true:=by
 have e:∀(l:U MF) (a:O),l.foldl (λa s=>a+s.length+z.length) a=a+(l.map λs=>s.cps.size+z.cps.size).sum:=by
  intro l;induction l with
  |nil=>intro a;rfl
  |cons s l c=>intro a;rw[OP,c,LJ,ML];show a+s.cps.size+z.cps.size+_=_;lia
 unfold JoinOk;rw[show b.toArray.foldl (·+·.length+z.length) 0=b.foldl (λa s=>a+s.length+z.length) 0 from List.foldl_toArray ..,e,MY];unfold Builtin.Str.tooLong;have:¬(b.map λs=>s.cps.size+z.cps.size).sum>sizeLine:=by have:=MR.LIM_le h;lia
 rw[Rt this];rfl
theorem D7 {X:Cx}{b:U Ry}{g:OG}{j:U OG}{d:Pos}{t:TS}(hx:∀v s,X.xe v s->RB)(i:PSs X b t):PS X (.Try b (g::j) [] [] d) t:=by
 intro c s l H D a h;refine wpAny_Try_except<|Mh (i c s l H D a h) (λf k q=>?_) λe k q=>(hx _ _ q).elim;cases f with
 |next=>exact Oe q
 |brk=>exact q
 |cont=>exact q
 |ret u=>exact q
end L3
namespace MR
open PySem PySem.Spec PyProof.Rows L2 L3
section
variable {X:Cx}{sf sg:O->L O}{C:M.Call}{pos p p2 p3:Pos}{ea eb ec:Rv}{a b c:M.E}{h:Rl}{n:O}{io:U O}{K:Ly}
theorem G0 {d:U Ry}{e:OG}{g:U OG}{s:U M.S}(f:SSs X sf io C d s)(hx:∀v s,X.xe v s->RB:=by exactλ_ _ z=>z):SS X sf io C (.Try d (e::g) [] [] pos) (.tri s):=dM (D7 hx f) λD j H i=>i
theorem oE:Loc K 1 .str h λg H Q=>∃i,g=[.int i]/\i.natAbs<10000000000000000000/\Q (.str<|Str.ofString<|toString i) H:=by
 intro l w g Z H G Q j e r o s k
 match l,j with
 | [(m,a)],_ =>
  obtain⟨x,rfl,r1⟩:=bc rfl r;cases a with
  | int i =>
   have e2:(if decide (i.natAbs<10000000000000000000)=Lw then Y ((.d,.str (M.strI i)):M.W) else J)=Y w:=e;split at e2
   .rename_i f;cases e2;have f:=RA f;refine⟨i,by rw[show x=_ from r1],f,fB k<|pj _ ?_⟩;have:=int_text_length_le10 (a:=i) (k:=19) (by decide) f;lia
   .cases e2
  |_=>cases e
theorem HW (hm:X.mg "str"=J)(f:Gl X "str":=by rfl)(ha:SE X sf C ea a)(e:Lz [ea] X.env=(Lv,Rz ea X.env)::Lz [] X.env:=by rfl)(d:(LY pos<|Lz [] X.env).any (·.1)=false:=by rfl):SE X sf C (.Call (.Name "str" p) [ea] [] pos) (.op .str h [a]):=
 aj (cI jy f hm Ow (slc ha sl0 e) (by decide) (by decide) e d) (eO oE rfl)
theorem vk:Loc K 1 .intS h λg H Q=>∃i:I,g=[.str<|Str.ofString<|toString i]/\i.natAbs<10000000000000000000/\Q (.int i) H:=by
 intro o w g Z H G Q l e r s t k
 match o,l with
 | [(m,a)],_ =>
  obtain⟨x,rfl,r1⟩:=bc rfl r;cases a with
  | str y =>
   have e2:(if(decide ((M.decI y).natAbs<10000000000000000000)&&(M.strI (M.decI y)==y))=Lw then Y ((.d,.int (M.decI y)):M.W) else J)=Y w:=e;split at e2
   .rename_i f;cases e2;rw[LQ] at f;have j:M.strI (M.decI y)=y:=eq_of_beq f.2;refine⟨M.decI y,?_,RA f.1,aQ k⟩;rw[show x=.str y from r1.1];show[V.str y]=[V.str<|M.strI<|M.decI y];rw[j]
   .cases e2
  |_=>cases e
theorem FY (hm:X.mg "int"=J)(f:Gl X "int":=by rfl)(ha:SE X sf C ea a)(e:Lz [ea] X.env=(Lv,Rz ea X.env)::Lz [] X.env:=by rfl)(d:(LY pos<|Lz [] X.env).any (·.1)=false:=by rfl):SE X sf C (.Call (.Name "int" p) [ea] [] pos) (.op .intS h [a]):=
 aj (cI rq f hm O5 (slc ha sl0 e) (by decide) (by decide) e d) (eO vk rfl)
theorem mq {Z:Fp}{H:Hp}{G:Fp}{m:M.Md}:∀{d:U M.T} {j:U Str} {f:U V},M.strsOf d=Y j->RepL K Z H m d f G->f=j.map V.str:=by
 intro d;induction d generalizing G with
 |nil=>intro g f e r;cases e;exact r
 | cons t d k =>
  intro g f e r;obtain⟨x,u,o,s,rfl,_,_,_,p,q⟩:=r;cases t with
  | str i =>
   cases e1:M.strsOf d with
   |none=>simp[M.strsOf,e1] at e
   |some l=>
    have:g=i::l:=by simpa[M.strsOf,e1] using e.symm
    subst this;rw[LJ,<- k e1 q,show x=.str i from p.1]
  |_=>cases e
theorem tf {Z:Fp}{H:Hp}{m:M.Md}:∀{d:U Str},(∀x∈d,M.sOk x=Lw)->RepL K Z H m (d.map M.T.str) (d.map V.str) no
|[],_=>rfl
|x::d,h=>⟨.str x,d.map V.str,no,no,rfl,λ_ z=>z.elim,λ_ z=>z.elim,λ_ z=>z.elim,⟨rfl,h x LI⟩,tf λy e=>h y<|LO _ e⟩
theorem BY {o:M.Op}{e1 e2:M.E}{T:Rr}{r:V->U V->Hp->VK->Prop}(ty:∀{m:M.Md} {t:M.T} {w2 w:M.W} {x:V} {Z:Fp} {H:Hp} {G:Fp},M.oSem o h [(m,t),w2]=Y w->Rep K Z H m t x G->tyV K T x H)
  (l:Loc K 2 o h λxs H Q=>∀x y,xs=[x,y]->r x [y] H Q) (s:L2.St) (H:Hp) (Q:VK) (hw:wE K sf C (.op o h [e1,e2]) s H Q):tBM K T r (wE K sf C e1) (wL K sf C [e2]) s H Q:=by
 obtain⟨pv,Z,Fs,η,w,η',A,ev,k⟩:=hw;obtain⟨ws,h1,j⟩:=dX ev;obtain⟨⟨m,t⟩,η1,us,g1,i,rfl⟩:=aE h1;obtain⟨wb,η2,us,g3,g4,rfl⟩:=aE i;cases g4;refine gi A g1 λx Z1 H1 u g f r1 _ s1 _=>?_;have d:=f.mono (G':=g) λ_ z=>.inr z;refine⟨ty j r1,?_⟩;refine Hm d i λvs N F v D e r2 P s2 t2=>?_;obtain⟨y,rfl,ry⟩:=bc rfl r2;exact l [(m,t),wb] w [x,y] N F _ Q rfl j ⟨x,[y],g,D,rfl,λ_ z=>.inl z,λ_ z=>.inr z,P,r1.frame f.gd.own s2 d.dis,r2⟩ e.own e.gd.zal (df e (s1.trans t2) k) x y rfl
theorem vK:Loc K 2 .join h λj H Q=>∀x y,j=[x,y]->BD K x [y] H Q:=by
 intro D w j Z H G Q u e r ow za k x y hx
 match D,u with
 | [(m,a),(m2,b)],_ =>
  subst hx;obtain⟨x',r',F,N,t,P,g2,gd,A,p2⟩:=r;cases t;obtain⟨y',e1,p3⟩:=bc rfl p2;cases e1;cases a with
  | str z =>
   cases b with
   | lst o =>
    have e2:((M.strsOf o).bind λf=>if(M.sOk (Str.join z f)&&decide ((f.map λs=>s.cps.size+z.cps.size).sum<=M.LIM))=Lw then Y ((.d,.str (Str.join z f)):M.W) else J)=Y w:=e;cases e3:M.strsOf o with
    |none=>rw[e3] at e2;cases e2
    | some f =>
     rw[e3] at e2;have g:(if(M.sOk (Str.join z f)&&decide ((f.map λs=>s.cps.size+z.cps.size).sum<=M.LIM))=Lw then Y ((.d,.str (Str.join z f)):M.W) else J)=Y w:=e2;split at g
     .rename_i i;cases g;rw[LQ] at i;obtain⟨q,j,v,l,hl,pr⟩:=bG p3;rw[mq e3 pr] at l;exact⟨z,q,f,A.1,by rw[v],.inl<|.inl l,qY<|RA i.2,fB k i.1⟩
     .cases g
   |_=>cases e
  |_=>cases e
theorem qv:Loc K 2 .split h fun g H Q=>∀ x y,g=[x,y]->vw x [y] H Q:=by
 intro N w g Z H G Q u e r D P k x y hx
 match N,u with
 | [(m,a),(m2,b)],_ =>
  subst hx;obtain⟨x',r',G1,G2,s,g1,g2,gd,F,p2⟩:=r;cases s;obtain⟨y',e1,p3⟩:=bc rfl p2;cases e1;cases a with
  | str z =>
   cases b with
   | str y =>
    have j:(if((y==Str.ofString " ")&&decide (z.cps.size+2<=M.LIM)&&(M.splS z).all M.sOk)=Lw then Y ((.d,.lst ((M.splS z).map M.T.str)):M.W) else J)=Y w:=e;split at j
    .rename_i i;cases j;rw[LQ,LQ] at i;have l:y=Str.ofString " ":=eq_of_beq i.1.1;have A:=RA i.1.2
     have t:(M.splS z).length<=M.LIM:=by
      have:∀(g f:U O),(M.spl 32 f g).length<=g.length+1:=by
       intro g;induction g with
       |nil=>intro f;exact LM _
       |cons x g o=>
        intro f;unfold M.spl;split
        .rw[LG,LG];have:=o [];lia
        .rw[LG];have:=o<|f++[x];lia
      have h2:=this z.cps.toList [];have h3:z.cps.toList.length=z.cps.size:=Mn;unfold M.splS;rw[LB];lia
     refine⟨z,y,F.1,Rw (λv=>[v]) p3.1,by rw[l];decide +kernel,LIM_le A,λp hp=>?_⟩;rw[l,rm];exact cH (G':=no) D P (λ_ z=>z.elim) (by rw[LB];exact t) (tf λx hx=>MN.mp i.2 x hx) (by simp) k hp
    .cases j
   |_=>cases e
  |_=>cases e
section
variable {apos cpos:Pos}
theorem jc (k:SE X sf C ea a)(l:SE X sf C eb b)(j:Lz [eb] X.env=(Lv,Rz eb X.env)::Lz [] X.env:=by rfl)
  (f:MP ea "join" X.env (Rz ea X.env)=Rz ea X.env:=by rfl) (g:(apos.endLine==cpos.line)=true:=by rfl) (d:(LY cpos<|Lz [] X.env).any (·.1)=false:=by rfl)
  (i:((LY cpos<|Lz [eb] X.env).all (λx=>!x.1)&&(Nj cpos<|Nm [] X.env).all (λx=>x.1.isSome)&&decide ([eb].length+([]:U MJ).length+(if([]:U MJ).isEmpty then 0 else 1)<30))=true:=by rfl):SE X sf C (.Call (.Attribute ea "join" apos) [eb] [] cpos) (.op .join h [a,b]):=
 aj (oV QQ PySem.F.slot_str_join PySem.F.type_str_join AJ k (slc l sl0 j) f i g j d) (BY (λ{m t o w x Z H G} e r=>by
  cases t with
  |str z=>rw[show x=_ from r.1];exact rfl
  |_=>cases e) vK)
theorem DE (k:SE X sf C ea a)(l:SE X sf C eb b)(j:Lz [eb] X.env=(Lv,Rz eb X.env)::Lz [] X.env:=by rfl)
  (f:MP ea "split" X.env (Rz ea X.env)=Rz ea X.env:=by rfl) (g:(apos.endLine==cpos.line)=true:=by rfl) (d:(LY cpos<|Lz [] X.env).any (·.1)=false:=by rfl)
  (i:((LY cpos<|Lz [eb] X.env).all (λx=>!x.1)&&(Nj cpos<|Nm [] X.env).all (λx=>x.1.isSome)&&decide ([eb].length+([]:U MJ).length+(if([]:U MJ).isEmpty then 0 else 1)<30))=true:=by rfl):SE X sf C (.Call (.Attribute ea "split" apos) [eb] [] cpos) (.op .split h [a,b]):=
 aj (oV QQ PySem.F.slot_str_split PySem.F.type_str_split vA k (slc l sl0 j) f i g j d) (BY (λ{m t o w x Z H G} e r=>by
  cases t with
  |str z=>rw[show x=_ from r.1];exact rfl
  |_=>cases e) qv)
end
end
end MR

namespace MR
open PySem PySem.Spec PyProof.Rows L2 L3
section
variable {X:Cx}{sf sg:O->L O}{C:M.Call}{pos p p2 p3:Pos}{ea eb ec:Rv}{a b c:M.E}{h:Rl}{n:O}{io:U O}{K:Ly}
theorem yn {x:Str}(hx:M.sOk x=Lw){l:U O}(e:∀c∈l,c∈x.cps.toList)(f:l.length<=M.LIM):M.sOk ⟨l.toArray⟩=true:=by unfold M.sOk at hx ⊢;rw[LQ] at hx ⊢;refine⟨?_,Ri<|by rw[LZ];exact f⟩;rw[OC] at hx ⊢;intro c d;exact hx.1 c (by have:=e c (by simpa using d);simpa using this)
def Dv (K:Ly)(d:Str->L B)(x:Str)(t:M.T):Prop:=∃v u,d x=Y u/\RelV v u/\CstR K t v
def GlbR (K:Ly)(x:Str)(t:M.T):Prop:=∃v u,MK K LP x=Y (Y u)/\RelV v u/\CstR K t v
theorem Bu {h:Rx}{d:Str->L B}{x:Str}{t:M.T}(X:K.In h)(G:h.Ns LP d)(r:GlbR K x t):Dv K d x t:=by obtain⟨v,u,e,f,g⟩:=r;exact⟨v,u,MM X G e,f,g⟩
theorem JB {x l:Str}{t:M.T}(d:Dv X.K X.mg x t)(i:Gl X x:=by rfl)(hd:(x==("__debug__":Str))=false:=by decide):SE X sf C (.Name x pos) (.glb l t):=by obtain⟨v,u,d,r,g⟩:=d;refine aj (gK (v:=v) i d r hd) λy H Q j=>?_;obtain⟨o,Z,e,s,w,m,A,ev,k⟩:=j;cases ev;exact k v Z H e no A (g Z H)<|(Step.refl _ _ _).mono (λ_ z=>z) λa f=>f.elim id λz=>z.elim
end
theorem slx {X:Cx}{d:O->L O}{C:M.Call}{b:Rv}{a:M.E}{c:U Rv}{bs:U M.E}(e:SE X d C b a)(f:SL X d C c bs)(g:Lz (b::c) X.env=(Lv,Rz b X.env)::Lz c X.env):SL X d C (b::c) (a::bs):=slc e f g
theorem sTx {X:Cx}{c:O->L O}{C:M.Call}{a:Pos}{b:U Rv}{bs:U M.E}{e:O}(d:bs.length<=M.LIM)(h:SL X c C b bs):SE X c C (.Tuple b e a) (.tup bs):=sT h d
theorem sLx {X:Cx}{c:O->L O}{C:M.Call}{a:Pos}{h:Rl}{b:U Rv}{bs:U M.E}(e:bs.length<=M.LIM)(d:SL X c C b bs):SE X c C (.List b a) (.lst h bs):=sLs d e
theorem ak {X:Cx}{e:O->L O}{C:M.Call}{d:Pos}{h:Rl}{f c:Rv}{a b:M.E}(g:SE X e C f a)(i:SE X e C c b)(j:gC c):SE X e C (.Subscript f c d) (.op .ix h [a,b]):=sIx g i j
end MR

namespace TP
open PySem PySem.W
noncomputable def en (P:Mb)(k:Str)(t:O)(v:B):RC:=⟨PyData.keyHash P k,.str k t,v⟩
def tu (a:U B):Obj:=⟨.type "tuple",J,.seq a.toArray 0,#[]⟩
def fe (a:U B):Obj:=⟨.none,J,.fields a.toArray,#[]⟩
noncomputable def di (a:U RC)(n:O):Obj:=⟨.type "dict",J,.dict a.toArray n,#[]⟩
abbrev fl:Str:="/claim/cut.py"
def iv (i:I):B:=.int i 0
def cdo (n q:Str)(t d:O)(c e:O)(f:O)(a:O)(b:Rl)(x y z:B):Obj:=
 ⟨.type "code",J,.fields #[.str n t,.str q<|t+1,.str fl<|t+2,iv c,iv e,iv 0,iv 0,iv f,.ref a,.bool b,iv 181,.ref<|a+1,.none,x,y,z,iv d,iv c,.str fl<|d+1],#[]⟩
def ofn (c:B)(f:Ry)(q:Str)(g:O)(d m:B)(a:B):Obj:=match f with
|.FunctionDef n ar b _ _ _ e _ _ _=>⟨c,J,.func {name:=n,qualname:=q,params:=ar,body:=.stmts b,scope:=e,globals:=g,closure:=[],defaults:=d,kwdefaults:=.none,pyModule:=m,code:=a},#[]⟩
|_=>default
noncomputable def tks:U Str->O->U B
|[],_=>[]
|x::r,t=>.str x t::tks r (t+1)
structure R where
 os:U Obj
 ns:U RC
 tb:U B
 n:O
 tk:O
 md:B
 ss:U RC
inductive Rc where
 |d|m|c
 |x (k:Str) (kt:O) (v:B) (os:Mb->U Obj) (tb:U B) (n tk:O)
 |y (k:Str) (kt:O) (v:B) (os:Mb->U Obj) (tb:U B) (n tk:O) (ss:Mb->U RC)
def cv:Rv->B
|.Constant (.bool b) _ _=>.bool b
|_=>.none
def dO (P:Mb)(n d:O)(f:B)(g:Ry):R:=match g with
| .FunctionDef e ar b _ _ _ h _ _ c =>
 let pr:U Obj×B×O:=match ar.defaults with
  |[]=>([],.none,n)
  |ds=>([tu<|ds.map cv],.ref n,n+1)
 let a:=pr.2.2
 match localNames ar h (.stmts b) with
 | none=>⟨pr.1++[tu [],fe [],ofn .none g e 0 .none .none .none,cdo e e d (d+3) c.line ar.args.length 3 a Lw .none .none (.ref (a+2)),ofn (.type "function") g e 3 pr.2.1 f (.ref (a+3))],
   [en P e (d+5)<|.ref<|a+4],[iv c.line,iv c.col,.ref<|a+3],a+5,d+6,f,[]⟩
 | some l =>
  let k:=l.1.length;let j:=l.2.length
  ⟨pr.1++[tu [],fe [],tu (tks l.1 (d+3)),tu (tks l.2 (d+3+k)),ofn .none g e 0 .none .none .none,cdo e e d (d+3+k+j) c.line ar.args.length 3 a Lw (.ref (a+2)) (.ref (a+3)) (.ref (a+4)),ofn (.type "function") g e 3 pr.2.1 f (.ref (a+5))],
   [en P e (d+5+k+j)<|.ref<|a+6],[iv c.line,iv c.col,.ref<|a+5],a+7,d+6+k+j,f,[]⟩
|_=>⟨[],[],[],n,d,f,[]⟩
def one (P:Mb)(n a:O)(b:B)(h:Ry):Rc->R
|.d=>dO P n a b h
|.m=>match h with
 |.Assign _ (.Constant (.str s) _ _) _=>⟨[],[],[],n,a+2,.str s a,[]⟩
 |_=>⟨[],[],[],n,a,b,[]⟩
|.c=>match h with
 |.Assign (.Name x _::_) (.Constant (.str s) _ _) _=>⟨[],[en P x (a+1)<|.str s a],[],n,a+2,b,[]⟩
 |.Assign (.Name x _::_) (.Constant (.int i) _ _) _=>⟨[],[en P x (a+1)<|.int i a],[],n,a+2,b,[]⟩
 |_=>⟨[],[],[],n,a,b,[]⟩
|.x k f v os j g e=>⟨os P,[en P k f v],j,g,e,b,[]⟩
|.y k f v os j g e l=>⟨os P,[en P k f v],j,g,e,b,l P⟩
def go (P:Mb):U (Ry×Rc)->O->O->B->U R
|[],_,_,_=>[]
|(b,r)::l,n,c,a=>let x:=one P n c a b r
 x::go P l x.n x.tk x.md
def last (x:R):U R->R
|[]=>x
|y::l=>last y l
def ds:Data->U RC
|.dict a _=>a.toList
|_=>[]
noncomputable def ep:Data->O
|.dict _ n=>n
|_=>0
def r0:R:=⟨[],[],[],15,187,.str "__main__" 164,[]⟩
def rs (P:Mb)(l:U<|Ry×Rc):U R:=go P l 15 187<|.str "__main__" 164
def o3 (P:Mb)(l:U R):Obj:=di (en P "__name__" 165 (last r0 l).md::((ds (boot_o_3 P).data).tail++l.flatMap R.ns))<|ep (boot_o_3 P).data+(l.flatMap R.ns).length
noncomputable def o2 (P:Mb):U RC->Obj
|[]=>boot_o_2 P
|es=>⟨.none,J,.dict es.toArray es.length,#[]⟩
def os (P:Mb)(l:U R):U Obj:=
 boot_o_0 P::boot_o_1 P::o2 P (l.flatMap R.ss)::o3 P l::boot_o_4 P::boot_o_5 P::boot_o_6 P::boot_o_7 P::boot_o_8 P::boot_o_9 P::boot_o_10 P ::
 tu []::fe (l.flatMap R.tb)::cdo "<module>" "<module>" 182 185 1 0 0 11 Lv .none .none .none ::
 ⟨.type "frame",J,.plain,#[Y<|.ref 13,Y<|.ref 3,Y<|.ref 3,J,Y<|.str "__main__" 164,J,Y<|.ref 0]⟩::l.flatMap R.os
def odd {a:Type}:U a->U a×U a
|[]=>([],[])
|x::l=>(x::(odd l).2,(odd l).1)
noncomputable def bt:O->U Obj->BT
|0,_=>.nil
|_+1,[]=>.nil
|k+1,x::l=>.node x (bt k (odd l).1)<|bt k (odd l).2
noncomputable abbrev p0:Pos:=⟨0,0,0,0⟩
abbrev B0:U Frame:=[topFrame p0]
abbrev an:L B:=Y<|.ref 6
noncomputable def ev (p:Ro):Env:={scope:=p.main.scope,locals:=mainNs,globals:=mainNs,cells:=[],code:=.ref 13,frame:=Y 14}
def cE (p:Ro):Code:=.body (Of p)<|ev p
def sT (p:Ro)(rc:U Rc)(P:Mb)(m n a:O)(o:R0):SharedT:=⟨bt 12<|os P<|rs P<|(p.main.body.zip rc).take m,n,{},#[],{},a,o⟩
def hp (p:Ro)(rc:U Rc)(m n:O)(P:Mb):Rx:=absHeap (bt 12<|os P<|rs P<|(p.main.body.zip rc).take m) n {}
def Cut (p:Ro)(rc:U Rc)(i n t:O)(ps:Pos)(k N b c:O)(a:Pos)(w:LA):Prop:=∀o,segRunT Nk p w 11 an 1 N (sT p rc w.params i n t o) (piecesOf ((p.main.body.drop i).take k) (ev p) (cE p) ps B0)=Y (.next,sT p rc w.params (i+k) b c o,cE p,a)
def Ch (p:Ro)(rc:U Rc)(m a b:O)(i n t:O)(ps:Pos)(M:O):Prop:=∀w o,topRun Nk p w 11 an M (sT p rc w.params i n t o).abs (restOf (p.main.body.drop i) (ev p) (cE p) ps B0)=Y (sT p rc w.params m a b o).abs
theorem bV {p:Ro}{rc:U Rc}{m d f i n t k N b e M:O}{ps a:Pos}(c:∀w,Cut p rc i n t ps k N b e a w)(h:Ch p rc m d f (i+k) b e a M):Ch p rc m d f i n t ps (N+M):=λw o=>by have x:=piece_app (segRun_of<|c w o)<|h w o;rw[<- NY,Pw] at x;exact x
theorem Cn {p:Ro}{rc:U Rc}{m a b:O}{ps:Pos}(hd:p.main.body.drop m=[]):Ch p rc m a b m a b ps 2:=λw o=>by rw[hd];exact piece_nil rfl
theorem AV (w:LA):((MB w.params).isNs LP&&(OK []:RD RW).size==0,(MB w.params).objs.size,(MB w.params).nsMap LP "__annotations__")=(Lw,11,an):=by kernel_rfl
theorem zU {p q:Ro}{a:U Str}{Xt:Lx->Rl}{l:Type}{j:Lx->l}{i:LA->l}{N M m b h:O}{rc:U Rc}
  (e:opening p=plainProg p.main.scope.names) (hN:Nat.ble 600 N=Lw) (f:∀s,fenceModules? p s=Y s) (n:Of p=p.main.body)
  (g:∀w:LA,((MB w.params).isNs LP&&(OK []:RD RW).size==0,(MB w.params).objs.size,(MB w.params).nsMap LP "__annotations__")=(Lw,11,an))
  (pre:∀(w:LA) (o:R0),topGo Nk p w 11 an 12 ⟨MB w.params,OK [],boot_drawn,boot_toks,o⟩ (topStub p)=Y ((sT p rc w.params 0 15 187 o).abs,⟨denote Nk<|cE p,cE p,p0,B0⟩))
  (blk:∀(w:LA) (o:R0),segRun Nk p w 11 an 1 1 (sT p rc w.params 0 15 187 o).abs (blockOf (Of p) (ev p) (cE p) p0 B0)=Y (.next,(sT p rc w.params 0 15 187 o).abs,cE p,p0))
  (ch:Ch p rc m b h 0 15 187 p0 M) (le:Nat.ble (12+(1+M)) N=Lw)
  (c:∀w:LA,(λo=>((staticsOk (OH p.main.body) (MB w.params) (hp p rc m b w.params)&&namesBound p (hp p rc m b w.params)&&gensDone ⟨hp p rc m b w.params,#[],{},h,o⟩&&laidKept (MB w.params) (hp p rc m b w.params)),
    openSeen q a (OH p.main.body) Xt Lw ⟨hp p rc m b w.params,#[],{},h,o⟩,j ⟨hp p rc m b w.params,#[],{},h,o⟩))=λ_=>(Lw,openGood q a,i w)):LeftO p q a Xt j i N:=
 LeftO.of_pieces (H₀:=MB) (H₁:=hp p rc m b) (gs₁:=#[]) (d₁:={}) (k₁:=h) (boot_open e hN f) g
  (λw o=>go_top (pre w o)<|piece_block (blk w o) (by have x:=ch w o;rw[MO,<- n] at x;exact x)) le c
noncomputable def cb (a:Ry)(j:O):Ry:=match a with
|.ClassDef _ _ _ b _ _ _ _ _ _ _=>b.getD j a
|_=>a
noncomputable def drec (e:Ry):PySem.DefRec:=match e with
|.FunctionDef n a b _ _ _ d _ _ c=>⟨n,a,b,d,c⟩
|_=>⟨default,default,[],default,default⟩
theorem gG {a:Type}:∀(l:U a) (i:O),(odd l).1[i]?=l[2 * i]?/\(odd l).2[i]?=l[2 * i+1]?
|[],i=>by simp[odd]
| x::l,i=>by
 refine⟨?_,?_⟩
 .cases i with
  |zero=>simp[odd]
  |succ j=>rw[show 2 * (j+1)=2 * j+1+1 by lia];simp only[odd,MH];exact(gG l j).2
 .simp only[odd,MH];exact(gG l i).1
theorem pN {a:Type}:∀(l:U a),(odd l).1.length=(l.length+1) / 2/\(odd l).2.length=l.length / 2
|[]=>by simp[odd]
|x::l=>by have h:=pN l;simp only[odd,LG,h.1,h.2];exact⟨by lia,trivial⟩
theorem ny:∀(k:O) (l:U Obj) (a:O),l.length<2 ^ k->(bt k l).get a=l[a]?
|0,l,a,h=>by have:l=[]:=List.length_eq_zero_iff.mp (by simpa using h);subst this;simp[bt,BT.get]
|k+1,[],a,h=>by simp[bt,BT.get]
| k+1,x::l,a,h=>by
 have e:2 ^ (k+1)=2 * 2 ^ k:=by rw[OV];lia
 have f:=pN l;simp only[LG] at h;unfold bt;rw[BT.get_node];by_cases c:a=0
 .simp[c]
 .rw [Rn c];by_cases d:a % 2=1
  .rw [Rk d,ny k _ _<|by lia,(gG l<|a / 2).1];obtain⟨b,rfl⟩:∃b,a=b+1:=⟨a-1,by lia⟩;rw[MH];congr 1;lia
  .rw [Rn d,ny k _ _<|by lia,(gG l<|a / 2-1).2];obtain⟨b,rfl⟩:∃b,a=b+1:=⟨a-1,by lia⟩;rw[MH];congr 1;lia
def lL (p:Ro)(rc:U Rc)(m:O)(P:Mb):U Obj:=os P<|rs P<|(p.main.body.zip rc).take m
def kK (p:Ro)(rc:U Rc)(m:O)(as:U Rj)(P:Mb):Frag:=as.map λa=>(a,(lL p rc m P).getD a default)
noncomputable def okO:L Obj->Rl
|some ⟨_,_,.freed,_⟩=>Lv
|some _=>Lw
|none=>Lv
theorem oP {p:Ro}{rc:U Rc}{m:O}{P:Mb}{a:Rj}{o:Obj}:∀{as:U Rj},(kK p rc m as P).lookup a=Y o->a∈as/\o=(lL p rc m P).getD a default
|[],h=>by simp[kK] at h
| b::as,h=>by
 unfold kK at h;rw[LJ,Na] at h;by_cases e:a=b
 .subst e;rw[Rq] at h;exact⟨LI ..,(Mf h).symm⟩
 .rw [RN e] at h;have x:=oP (as:=as) h;exact⟨LO _ x.1,x.2⟩
def hkk (p:Ro)(rc:U Rc)(m n:O):Hook where
 α:=RD Obj
 obs s:=s.heap.objs
 val w:=(hp p rc m n w.params).objs
 says w h:=∀a o,(hp p rc m n w.params).get? a=Y o->h.get? a=Y o
 of w s e a o x:=by unfold Heap.get? at *;rw[e];exact x
 keeps w h h' X k a o x:=k _ _<|X a o x
theorem JH {p:Ro}{rc:U Rc}{m n:O}{as:U Rj}{w:LA}{h:Rx}(j:Nat.blt (lL p rc m w.params).length 4096=Lw)(i:(as.all λa=>Nat.blt a n&&okO (lL p rc m w.params)[a]?)=Lw)
  (b:(hkk p rc m n).says w h):(kK p rc m as w.params).In h:=λa o e=>by
 obtain⟨e1,e2⟩:=oP e;obtain⟨c1,c⟩:=MU.mp<|MN.mp i a e1;refine b a o ?_;have c3:a<n:=Pu c1;have f:(lL p rc m w.params).length<2 ^ 12:=Pu j;have g:=ny 12 (lL p rc m w.params) a f;unfold hp Heap.get?;rw[absHeap_at,Rk c3];show(match Y (((bt 12<|lL p rc m w.params).get a).getD default) with|some ⟨_,_,.freed,_⟩=>J|o=>o)=Y o;rw[g];rw[MV] at e2;rw[<- e2];cases q:(lL p rc m w.params)[a]? with
 |none=>rw[q] at c;cases c
 |some x=>rw[q] at c e2;have e3:o=x:=e2;subst e3;obtain⟨_,_,d,_⟩:=o;cases d<;>first|rfl|cases c
noncomputable def pmO:L Obj->B
|some ⟨_,_,.func f,_⟩=>f.pyModule
|_=>.none
def rfO:L (L B)->O
|some (Y (.ref a))=>a
|_=>0
noncomputable def tkO:L (L B)->O
|some (Y (.int _ t))=>t
|some (Y (.str _ t))=>t
|_=>0
theorem raw_mk {K:Frag}{x:Str}{a:Ry}{b:B}(c:RP K LP x=Y (Y<|.ref<|rfO<|RP K LP x))
  (d:K.lookup (rfO<|RP K LP x)=Y ⟨.type "function",J,.func<|fnOf x x (L2.defArgs a) (L2.defBody a) (L2.defScope a) b .none .none (pmO<|K.lookup<|rfO<|RP K LP x) J (.ref<|rfO (RP K LP x)-1) .none,#[]⟩)
  (e:codeIn K (.ref<|rfO (RP K LP x)-1) x=Lw) (f:keepIn K (.ref<|rfO<|RP K LP x)=Lw):MR.Raw K x a b:=⟨_,_,_,_,_,_,_,_,_,_,c,d,e,f⟩
noncomputable def toV:B->L2.V
|.bool b=>.bl b
|.int i _=>.int i
|.str s _=>.str s
|.ref a=>.ref a
|_=>.non
noncomputable def okV:B->Rl
|.none=>Lw
|.bool _=>Lw
|.int _ _=>Lw
|.str _ _=>Lw
|.ref _=>Lw
|_=>Lv
theorem oR:∀{v:B},okV v=Lw->L2.RelV (toV v) v
|.none,_=>rfl
|.bool _,_=>rfl
|.int _ _,_=>⟨_,rfl⟩
|.str _ _,_=>⟨_,rfl⟩
|.ref _,_=>rfl
|.ellipsis,h=>by cases h
|.notImplemented,h=>by cases h
|.float _ _,h=>by cases h
|.bytes _ _,h=>by cases h
|.type _,h=>by cases h
|.builtin _,h=>by cases h
theorem kP:∀{l:U B},l.all okV=Lw->L2.Vals (l.map toV) l
|[],_=>.nil
|v::l,h=>by rw[NW,MU] at h;exact .cons (oR h.1)<|kP h.2
noncomputable def eK (e:RC):Str×O×B:=match e.key with
|.str k t=>(k,t,e.val)
|_=>("",0,e.val)
def tE:L Obj->U (Str×O×B)
|some o=>(ds o.data).map eK
|none=>[]
def tN:L Obj->O
|some o=>ep o.data
|none=>0
def enL (P:Mb)(l:U<|Str×O×B):U RC:=l.map λe=>en P e.1 e.2.1 e.2.2
def tL (l:U<|Str×O×B):U (Str×L2.V):=l.map λe=>(e.1,toV e.2.2)
theorem mz {P:Mb}:∀l:U<|Str×O×B,KeysLit P<|enL P l
|[]=>trivial
|e::l=>⟨⟨_,_,rfl,rfl⟩,mz l⟩
theorem lg {P:Mb}:∀{l:U<|Str×O×B},(l.all λe=>okV e.2.2)=Lw->PySem.Paired (λ(p:Str×L2.V) (e:RC)=>(∃t,e.key=.str p.1 t)/\L2.RelV p.2 e.val) (tL l) (enL P l)
|[],_=>.nil
|e::l,h=>by rw[NW,MU] at h;exact .cons ⟨⟨_,rfl⟩,oR h.1⟩<|lg h.2
theorem tab_mk {K:Frag}{w:LA}{x:Str}(a:RP K LP x=Y (Y<|.ref<|rfO<|RP K LP x))
  (b:K.lookup (rfO<|RP K LP x)=Y (di (enL w.params<|tE<|K.lookup<|rfO<|RP K LP x)<|tN<|K.lookup<|rfO<|RP K LP x))
  (c:((tE<|K.lookup<|rfO<|RP K LP x).all λe=>okV e.2.2)=Lw) (d:(rfO (RP K LP x)==NJ)=Lv):MR.TabRaw K w x (tL<|tE<|K.lookup<|rfO<|RP K LP x):=
 ⟨_,_,_,a,b,mz _,lg c,d⟩
def qk {c d:Type}(f:c->d->Rl):U c->U d->Rl
|[],[]=>Lw
|a::l,b::r=>f a b&&qk f l r
|_,_=>Lv
def mi (K:Frag):O->M.T->L2.V->Rl
|_+1,.int i,.int j=>decide (i=j)
|_+1,.non,.non=>Lw
|_+1,.bl a,.bl b=>decide (a=b)
|_+1,.str x,.str y=>decide (x=y)&&M.sOk x
|n+1,.tup d,.ref a=>match K.lookup a with
 |some ⟨.type "tuple",_,.seq c _,_⟩=>Nat.ble c.size 1000&&(c.toList.all okV&&qk (mi K n) d (c.toList.map toV))
 |_=>Lv
|_,_,_=>Lv
theorem ou {K:Frag}{n:O}(c:∀t v,mi K n t v=Lw->MR.CstR K t v):∀{a:U M.T} {b:U L2.V},qk (mi K n) a b=Lw->MR.CstRs K a b
|[],[],_=>MR.cst_nil
|t::a,x::b,h=>by unfold qk at h;rw[MU] at h;exact MR.cst_cons (c _ _ h.1)<|ou c h.2
|[],_::_,h=>by cases h
|_::_,[],h=>by cases h
theorem pF {K:Frag}:∀n t v,mi K n t v=Lw->MR.CstR K t v:=by
 intro n;induction n with
 |zero=>intro t v h;simp[mi] at h
 | succ n b =>
  intro t v h;unfold mi at h;split at h
  .rename_i q;cases q;have e:=RA h;subst e;exact MR.cst_int _
  .exact MR.cst_non
  .have e:=RA h;subst e;exact MR.cst_bl _
  .rw[MU] at h;have e:=RA h.1;subst e;exact MR.cst_str h.2
  .rename_i q;cases q;split at h
   .rename_i c k d q;rw[MU,MU] at h;have a:=Pu h.1;exact MR.cst_tup q rfl rfl (LL a<|by decide) (kP h.2.1) (by rw[LB,Mn];exact LL a<|by decide) (ou b h.2.2)
   .cases h
  .cases h
theorem cst_of {K:Frag}{n:O}:∀{tab:U<|Str×M.T} {T:U<|Str×L2.V},qk (λ(e:Str×M.T) (p:Str×L2.V)=>decide (p.1=e.1)&&mi K n e.2 p.2) tab T=Lw->MR.CstL K tab T
|[],[],_=>trivial
|e::tab,p::T,h=>by unfold qk at h;rw[MU,MU] at h;exact⟨⟨RA h.1.1,pF n _ _ h.1.2⟩,cst_of h.2⟩
|[],_::_,h=>by cases h
|_::_,[],h=>by cases h
theorem glbR_mk {K:Frag}{n:O}{x:Str}{t:M.T}(a:RP K LP x=Y (Y<|.ref<|rfO<|RP K LP x))(b:mi K n t (.ref<|rfO<|RP K LP x)=Lw):MR.GlbR K x t:=⟨.ref _,_,a,rfl,pF n _ _ b⟩
end TP

namespace MR
open PySem PySem.Spec PyProof.Rows L2 L3
theorem walkX {sx:Str}{C:M.Call}{ix k:O}{l:Py}{q:Ro}{c:U Str}{t:(Str->L B)->Rx->Prop}{j:LA->Rx->Prop}{d:DefRec}{K:Mb->Ly}(hp:∀g:U I,g.length<=63->∃m bs,C ix [(.d,.scr g)]=.ok ((m,.bl Lw),bs))(D:l.most=Y 63)(i:d.params.defaults=[])(G:Room k Nh)
  (A:∀(w:LA) (h:Rx),j w h->(K w.params).In h)
  (F:∀ (w:LA) (e:Str->L B) (o:Rj) (h:Rx),(K w.params).In h->h.Ns LP e->e d.name=Y (.ref o) ->
   ∃p:Mu,(∀(s:Lx) (u:B),Ni s p ⟨[u],[]⟩ [(sx,u)])/\∀b:Rx,(K w.params).In b->b.Ns LP e->dh l.prog w (K w.params) e b CX0 k o p [sx] (spS (K w.params) C ix [])):
  Qr q c t j l.row.toRowW d [] (λf H=>Pj f H):=
 L2.walk_of (n:=63) (k:=k) (x:=sx) (CX:=λ_=>CX0) (sp:=λw=>spS (K w.params) C ix []) D (by decide) i G A F (λ_ _ a g r v y=>EA (hp g r) r v y) λ_ _ _ _ _ z=>z
theorem zk {d:Str}{w:LA}{K:Ly}{c:Str->L B}{st:Ry}{h:Rx}{n:Rj}{pr:Ro}{k:O}{sp:Sp}(X:K.In h)(G:h.Ns LP c)(l:c "law"=Y (.ref n))(r:Raw K "law" st .none)(x:∀(kV j m:B) (an:L Rj) (g i:B) (s:Lx) (v:B),Ni s (ME "law" "law" (defArgs st) (defBody st) (defScope st) .none kV j m an g i) ⟨[v],[]⟩ [(d,v)])
  (ok:∀f b,Fun K "law" "law" st f b->∀a,dh pr w K c a CX0 k f b [d] sp):∃b:Mu,(∀(s:Lx) (v:B),Ni s b ⟨[v],[]⟩ [(d,v)])/\∀a:Rx,K.In a->a.Ns LP c->dh pr w K c a CX0 k n b [d] sp:=by
 obtain⟨f,y,z,A,kV,j,m,an,g,i,o,p,t,u⟩:=r;have e:=l.symm.trans<|MM X G o;cases e;exact⟨_,x kV j m an g i,λa _ _=>ok _ _ (tI (st:=st) p t u) a⟩
end MR

namespace L3
open PySem PySem.Spec PyProof.Rows L2
noncomputable def Its (x:Str):It:=⟨λi _=>i<x.cps.size,λi H v a=>a=H/\∃c,x.cps.toList[i]?=Y c/\v=.str ⟨#[c]⟩,λi _=>x.cps.size<=i⟩
theorem td {P:Ro}{w:LA}{K:Ly}{tg:Rv}(x:Str)(t:Tok)(r:Rj)(ty:Rr)(p:ty="str_ascii_iterator"\/ty="str_iterator"):qA P w K tg (Its x) [r] r (λi h=>h.IsStrIter r ty x t i) where
 mem:=by simp
 obj:=λi h g b f=>by
  have e:b=r:=by simpa using f
  subst e;obtain⟨o,e,c,d⟩:=g;exact⟨o,e,λv z=>by rw[d] at z;cases z⟩
 keep:=λi h m g k=>by obtain⟨o,e,c,d⟩:=g;exact⟨o,k r (by simp) o e,c,d⟩
 item:=by
  intro X hP hw hK hc i j s σ H E a M g hg;subst hP hw hK;obtain⟨u,y,f2,D,F,G⟩:=M r (by simp);have n:i<x.cps.size:=hg;have hx:x.cps[i]?=Y x.cps[i]:=PN n;have N:x.cps.toList[i]?=Y x.cps[i]:=by simpa using hx
  rcases p with rfl|rfl
  .refine wpAny_pyNext_ascii_item g hx fun m l sb=>?_;have Z:Inv X j σ H {s with heap:=m,toks:=s.toks+1}:=a.turned (t':=s.toks+1) (λb o f e=>(sb.2 b f).trans e) u y D F G;obtain⟨o,e,c,d⟩:=id l;exact⟨_,rfl,kO (s:={s with heap:=m,toks:=s.toks+1}) e c d (by decide) ⟨.str ⟨#[x.cps[i]]⟩,H,Z,⟨_,rfl⟩,⟨rfl,_,N,rfl⟩,l,λb f=>(M b f).1⟩⟩
  .refine wpAny_pyNext_wide_item g hx fun m l sb=>?_;have Z:Inv X j σ H {s with heap:=m,toks:=s.toks+1}:=a.turned (t':=s.toks+1) (λb o f e=>(sb.2 b f).trans e) u y D F G;obtain⟨o,e,c,d⟩:=id l;exact⟨_,rfl,kO (s:={s with heap:=m,toks:=s.toks+1}) e c d (by decide) ⟨.str ⟨#[x.cps[i]]⟩,H,Z,⟨_,rfl⟩,⟨rfl,_,N,rfl⟩,l,λb f=>(M b f).1⟩⟩
 done:=by
  intro X hP hw hK hc i j s σ H E a M g hg;subst hP hw hK;obtain⟨u,y,f2,D,F,G⟩:=M r (by simp);have n:x.cps.size<=i:=hg;have hx:x.cps[i]?=none:=O6 n;rcases p with rfl|rfl
  .exact wpAny_pyNext_ascii_end (a.ok.hd hc) g hx λm eb=>⟨rfl,a.turned (t':=s.toks) (λb o f e=>eb b o f e) u y D F G⟩
  .exact wpAny_pyNext_wide_end (a.ok.hd hc) g hx λm eb=>⟨rfl,a.turned (t':=s.toks) (λb o f e=>eb b o f e) u y D F G⟩
 self:=by
  intro A i s Q E g h;rcases p with rfl|rfl
  .exact wpAny_pyIter_striter_ascii g h
  .exact wpAny_pyIter_striter_wide g h
def Ht (b:TE):TI:=λc H R=>b c H λv a=>∃x,v=.str x/\R (Its x) a
theorem C5 {X:Cx}{k l:Rv}{m:TE}(u:PE X l m):PI X k l (Ht m):=by
 intro c s n H R a h;refine thn (u c s n H _ a h) λv d ⟨y,p,g,r1,x,e,q⟩=>?_;subst e;obtain⟨t,rfl⟩:=r1
 have f:∀ty,ty="str_ascii_iterator"\/ty="str_iterator"->PIE X c n k R (.ref d.heap.objs.size) {d with heap:=d.heap.push {cls:=.type ty,data:=.fields #[.str x t,.int 0 0]}}:=λty i=>by
  refine⟨d.heap.objs.size,[d.heap.objs.size],_,_,p,rfl,g.kept (t':=d.toks) λb o e=>Heap.get?_push_of_some _ e,td x t _ ty i,⟨_,Heap.get?_push_size _ rfl,rfl,rfl⟩,λb r=>?_,q⟩;have e:b=d.heap.objs.size:=by simpa using r
  subst e;exact g.fpOk (LM _)<|g.hok.fresh<|LM _
 cases j:x.cps.all (λx=>decide (x<128)) with
 |true=>exact wpAny_pyIter_ascii j<|f _<|.inl rfl
 |false=>exact wpAny_pyIter_wide j<|f _<|.inr rfl
noncomputable def rS0 (f:Str->Str->V):R2:=λx y H Q=>∃i j,x=.str i/\y=.str j/\Q (f i j) H
theorem xa {X:Cx}:OpR X (Mg .LtE) (rS0 λi j=>.bl<|!decide (j.cps.toList<i.cps.toList)):=by intro b s f H x y v u Q a c d h;obtain⟨i,j,rfl,rfl,q⟩:=h;obtain⟨t,rfl⟩:=c;obtain⟨e,rfl⟩:=d;exact PySem.P.le_str ⟨.bl _,H,a,rfl,q⟩
end L3
namespace MR
open PySem PySem.Spec PyProof.Rows L2 L3
section
variable {X:Cx}{sf sg:O->L O}{C:M.Call}{pos p p2 p3:Pos}{ea eb ec:Rv}{a b c:M.E}{h:Rl}{n:O}{io:U O}{K:Ly}
theorem Dx {Z:Fp}{H:Hp}{x:Str}(hx:M.sOk x=Lw):Wk K (Its x) Z H (x.cps.toList.map λc=>[(.d,.str ⟨#[c]⟩)])/\qF K (Its x) Z H (x.cps.toList.map λc=>[(.d,.str ⟨#[c]⟩)]):=by
 have f:x.cps.size<=M.LIM:=by have:=hx;unfold M.sOk at this;rw[LQ] at this;exact RA this.2
 refine⟨⟨λg i s e=>?_,λg i s e=>?_,by rw[LB,Mn];exact f⟩,λg i v k s e y=>?_⟩
 .rw[LB,Mn] at e;exact e
 .rw[LB,Mn] at e;exact e
 .obtain ⟨rfl,c,j,rfl⟩:=y;refine⟨rfl,(.d,.str ⟨#[c]⟩),by rw[Mr,j];rfl,rfl,?_⟩;exact yn (l:=[c]) hx (λd hd=>by rw[LR.mp hd];exact NA j)<|by show 1<=16777215;decide
theorem D9 {e:M.E}(j:L2.St)(H:Hp)(R:It->Hp->Prop)(h:wI K sf C 1 .chr [e] j H R):Ht (wE K sf C e) j H R:=by
 obtain⟨t,Z,l,y,P,z,F,A,ev,i,k⟩:=h;obtain⟨⟨m,a⟩,D,N,e1,e2,rfl⟩:=aE ev;cases e2;cases a with
 |str x=>cases i;refine⟨t,Z,l,y,_,_,A,e1,λv o g f G d r s=>?_⟩;obtain⟨rfl,hx⟩:=(show v=.str x/\M.sOk x=Lw from r);obtain⟨u,w⟩:=Dx (K:=K) (Z:=λa=>o a\/G a) (H:=g) hx;exact⟨x,rfl,k _ _ g f d.freeze (a9 d.own s) u w⟩
 |_=>cases i
theorem Kv {e:Rv}(d:SE X sf C ea a):PI X e ea (wI X.K sf C 1 .chr [a]):=je (C5 d) D9
theorem qK {K:Ly}{o p:M.Op}{g g':Str->Str->Rl}(inv:∀{u v w:M.W},M.oSem o Lv [u,v]=Y w->∃m n i j,u=(m,.str i)/\v=(n,.str j)/\w=(.d,.bl<|g i j))(t:∀{u v w:M.W},M.oSem p Lv [u,v]=Y w->∃m n i j,u=(m,.str i)/\v=(n,.str j)/\w=(.d,.bl<|g' i j))
  (σ:L2.St) (H:Hp) (Q:VK) (hw:wE K sf C (.chain o p a b c) σ H Q):jR (rS0 λi j=>.bl<|g i j) (rS0 λi j=>.bl<|g' i j) (wE K sf C a) (wE K sf C b) (wE K sf C c) σ H Q:=by
 obtain⟨pv,Z,Fs,η,w,η',A,ev,k⟩:=hw;obtain⟨⟨x,η1⟩,h1,h2⟩:=ae<|show(M.evE C a η).bind (M.kC1 o p (M.evE C b)<|M.evE C c)=_ from ev;obtain⟨⟨y,l⟩,h3,h4⟩:=ae<|show(M.evE C b η1).bind (M.kC2 o p (M.evE C c) x)=_ from h2;obtain⟨⟨kk,η3⟩,h5,h6⟩:=ae<|show(M.ret l<|M.oSem o Lv [x,y]).bind (λk=>M.onB k.1.2 (M.then' (M.evE C c)<|M.kC3 p y) (M.okW (.d,.bl Lv)) k.2)=_ from h4;obtain⟨k',e5,e5'⟩:=aq h5;cases e5';obtain⟨m1,m2,i,j,rfl,rfl,rfl⟩:=inv e5;have dr:∀{Z:Fp} {H:Hp} {F Z1:Fp} {H1:Hp} {f:Fps} {G1:Fp},Step Z H F Z1 H1 (λa=>tot f a\/G1 a)->Step Z H F Z1 H1 (tot f):=λs=>s.mono (λ_ z=>z) λ_ z=>.inl z;refine gi A h1 λvx Z1 H1 f G1 A1 r1 _ s1 _=>?_;have G:=A1.bare;refine gi G h3 λvy Z2 H2 N G2 A2 r2 _ s2 _=>⟨i,j,r1.1,r2.1,g i j,rfl,?_⟩;have r:=A2.bare;have D:=(dr s1).trans<|dr s2;have e:M.onB (.bl (g i j)) (M.then' (M.evE C c) (M.kC3 p (m2,.str j))) (M.okW (.d,.bl Lv)) l=.ok (w,η'):=h6;cases hg:g i j with
 |true=>rw[hg] at e;rw[Rk rfl];obtain⟨⟨z,η4⟩,h7,h8⟩:=ae<|show(M.evE C c l).bind (M.kC3 p (m2,.str j))=_ from e;obtain⟨z',e8,e8'⟩:=aq<|show M.ret η4 (M.oSem p Lv [(m2,.str j),z])=_ from h8;cases e8';obtain⟨n1,n2,i',j',e9,rfl,rfl⟩:=t e8;cases e9;refine gi r h7 λvz Z3 H3 P G3 A3 r3 _ s3 _=>⟨j,j',r2.1,r3.1,?_⟩;exact k _ Z3 H3 P no A3.bare rfl ((D.trans<|dr s3).mono (λ_ z=>z) λ_ z=>z.elim id λq=>q.elim)
 |false=>rw[hg] at e;rw[Rn LX];cases e;exact k _ Z2 H2 N no r rfl (D.mono (λ_ z=>z) λ_ z=>z.elim id λq=>q.elim)
theorem pI {u v w:M.W}(e:M.oSem .leS Lv [u,v]=Y w):∃m n i j,u=(m,.str i)/\v=(n,.str j)/\w=(.d,.bl<|!decide (j.cps.toList<i.cps.toList)):=by
 obtain⟨m,a⟩:=u;obtain⟨n,b⟩:=v;cases a with
 |str i=>cases b with
  |str j=>cases e;exact⟨m,n,i,j,rfl,rfl,rfl⟩
  |_=>cases e
 |_=>cases e
theorem rD (d:SE X sf C ea a)(e:SE X sf C eb b)(f:SE X sf C ec c)(g:Oh [.LtE,.LtE] [eb,ec]=false:=by with_unfolding_all rfl):SE X sf C (.Compare ea [.LtE,.LtE] [eb,ec] pos) (.chain .leS .leS a b c):=
 aj (kN xa xa d e f g) (qK pI pI)
end
end MR

namespace L3
open PySem PySem.Spec PyProof.Rows L2
noncomputable abbrev eT1 (h:Rx)(a:Rj):Rx:=h.push {cls:=.type "tuple_iterator",data:=.fields #[.ref a,.int 0 0]}
abbrev eT2 (h:Rx)(a:Rj):Rx:=(eT1 h a).push {cls:=.type "enumerate",data:=.fields #[.none,.bool Lv,.ref h.objs.size,rawInt 0,.none,.none]}
theorem E9 {e:Type}{c:Prop}[Decidable c]{M:Model}{A:LS}{E:B->Lx->Prop}{s:Lx}{a b:Sem e}{Q:e->Lx->Prop}(f:Rp M A a Q E s)(g:Rp M A b Q E s):Rp M A (if c then a else b) Q E s:=by
 by_cases d:c
 .rw[Rk d];exact f
 .rw[Rn d];exact g
theorem kS (a:Rj)(c:RD B):
  Meets (R5.«enumerate.__new__» ⟨[.type "enumerate",.ref a],[]⟩) (λ_ R s=>s.heap.IsTuple a c/\R (.ok<|.ret<|.ref (eT1 s.heap a).objs.size) {s with heap:=eT2 s.heap a}):=
 .of_wp λprog w A R s h=>by
  obtain⟨hp,g,d,f,os⟩:=s;obtain⟨e,h⟩:=h;have b:=sub_enumerate;have e1:Heap.IsTuple (Shared.heap ⟨hp,g,d,f,os⟩) a c:=e
  wp_walk using Og e1
  refine wpAny_stack λi _ _ _=>LN ?_;show Rp _ _ (if _=Lw then(pure (Value.ref a,(none:L B)) >>= _) else(pure (Value.ref a,(none:L B)) >>= _)) _ _ _;refine E9 ?_ ?_
  .refine LD (LN ?_);show Rp _ _ (pyIter (.ref a) >>= _) _ _ _
   wp_walk using Og e1
   exact⟨_,rfl,h⟩
  .refine LD (LN ?_);show Rp _ _ (pyIter (.ref a) >>= _) _ _ _
   wp_walk using Og e1
   exact⟨_,rfl,h⟩
theorem mP {prog:Ro}{w:LA}{A:LS}{E:B->Lx->Prop}{s:Lx}{a:Rj}{f:RD B}{Q:B->Lx->Prop}(i:s.heap.IsTuple a f)
  (h:∀b,IsEnum b (s.heap.objs.size+1) s.heap.objs.size 0 .none->b.IsTupleIter s.heap.objs.size a 0->(∀c o,s.heap.get? c=Y o->b.get? c=Y o)->Q (.ref<|s.heap.objs.size+1) {s with heap:=b}):
  Rp (LC prog w) A (call (.type "enumerate") [.ref a]) Q E s:=by
 refine callType_new F.called_enumerate (by decide) (F.typeCall_enumerate_1 _) (F.newCall_enumerate_1 _) (λe=>F.args_object_init_2 e _) F.entry_enumerate_new (kS a f) ⟨i,?_⟩;have e1:(eT1 s.heap a).objs.size=s.heap.objs.size+1:=Heap.size_push ..;have d:(eT2 s.heap a).get? (eT1 s.heap a).objs.size=Y _:=Heap.get?_push_size _ rfl;have g:(eT2 s.heap a).get? s.heap.objs.size=Y _:=Heap.get?_push_of_some _<|Heap.get?_push_size _ rfl;show _/\_;rw[e1] at d;rw[e1];exact⟨⟨_,d,rfl⟩,h _ d ⟨_,g,rfl,rfl⟩ λc o x=>Heap.get?_push_of_some _<|Heap.get?_push_of_some _ x⟩
theorem rz {prog:Ro}{w:LA}{A:LS}(p:A.handled=J)(b t:Rj)(f:t≠b)(d:RD B):Draws prog w A b [b,t] d.size (λi v=>d[i]?=Y v) (λi h=>h.IsTupleIter b t i/\h.IsTuple t d) where
 live:=λi h a=>let ⟨o,e,_⟩:=a.1;⟨o,e⟩
 frame:=λi h c a k=>⟨a.1.at λo e=>k b (by simp) o e,by obtain⟨o,e,r⟩:=a.2;exact⟨o,k t (by simp) o e,r⟩⟩
 item:=λi s Q E j a q=>by refine nG a.1 a.2 (x:=d[i]) (PN j) λc g l=>q _ c s.toks (PN j) ⟨g,?_⟩ l;obtain⟨o,e,r⟩:=a.2;exact⟨o,(l.2 t f).trans e,r⟩
 done:=λs Q E a q=>jb p a.1 a.2 (O6<|LM _) λc e m n=>q c e m n
theorem qb {prog:Ro}{w:LA}{A:LS}(j:A.handled=J)(b t:Rj)(n:O)(d:RD B)(m:d.size<=n):Draws prog w A b [b,t] n (λ_ _=>RB) (λi h=>i=n/\h.IsTupleIter b t n/\h.IsTuple t d) where
 live:=λi h a=>let ⟨o,e,_⟩:=a.2.1;⟨o,e⟩
 frame:=λi h c a k=>⟨a.1,a.2.1.at λo e=>k b (by simp) o e,by obtain⟨o,e,r⟩:=a.2.2;exact⟨o,k t (by simp) o e,r⟩⟩
 item:=λi s Q E l a q=>Rm a.1<|L5 l
 done:=λs Q E a q=>jb j a.2.1 a.2.2 (O6 m) λc e f g=>q c e f g
def HY (K:Ly)(a:Rj):It:=
 ⟨fun i H=>∃ b x,SqT K H a b/\b[i]?=Y x,
  λi H v c=>∃p x,v=.ref p/\H p=J/\c=upd H p (.tup [.int (i:I),x])/\∀b,SqT K H a b->b[i]?=Y x,
  λi H=>∃b,SqT K H a b/\b.length<=i⟩
theorem n9 {P:Ro}{w:LA}{K:Ly}{es:U Rv}{kt:O}{pt:Pos}{e l a:Rj}(r:e≠l)(hae:a≠e)(hai:a≠l):qA P w K (.Tuple es kt pt) (HY K a) [e,l] e (λi h=>(∃j,IsEnum h e l (i:I) j)/\h.IsTupleIter l a i) where
 mem:=by simp
 obj:=λi h n b g=>by
  obtain⟨⟨j,m⟩,p⟩:=n;simp only[LK,M9,RG] at g;rcases g with rfl|rfl
  .exact⟨_,m,λv y=>by cases y⟩
  .obtain ⟨o,M,_,d⟩:=p;exact⟨o,M,λv y=>by rw[d] at y;cases y⟩
 keep:=λi h D n k=>by obtain⟨⟨j,m⟩,p⟩:=n;exact⟨⟨j,k e (by simp) _ m⟩,p.at λo z=>k l (by simp) o z⟩
 item:=by
  intro X Z hw Q hc i u s σ H E c F n hg;subst Z hw Q;obtain⟨xs,x,G,hx⟩:=hg;obtain⟨⟨j,m⟩,p⟩:=n;obtain⟨f,v1,o1,z1⟩:=c.tuple G;obtain⟨u1,e1,r1⟩:=v1.get hx
  have lt:∀b∈[e,l],b<s.heap.objs.size:=λb g=>by
   simp only[LK,M9,RG] at g;rcases g with rfl|rfl
   .exact Heap.lt_size m
   .obtain⟨o,M,_⟩:=p;exact Heap.lt_size M
  have hit:i<f.toArray.size:=by have:=(Mo.mp e1).1;simpa using this
  refine wpAny_pyNext_enum_itemD (rz (A:=X.A.in1) (c.ok.hd hc) l a hai f.toArray) m ⟨p,(show s.heap.IsTuple a f.toArray from o1)⟩ hit r (by simp only[LK,M9,RG,not_or];exact⟨r,Mx hae⟩) λx' D tk px y1 y2 y3 y4 y5=>⟨_,rfl,?_⟩
  have ex:x'=u1:=by
   have:f[i]?=Y x':=by simpa using px
   rw[e1] at this;cases this;rfl
  subst ex;refine wpAny_letOwnedTupleGo_enum (s:={s with heap:=D,toks:=tk+1}) y1 λN w1 sb=>?_;have t:Heap.SameBut e D N:=sb;have nz:s.heap.objs.size≠e:=Oq (lt e<|by simp);have kk:∀b o,b ∉ [e,l]->s.heap.get? b=Y o->N.get? b=Y o:=λb o g z=>by simp only[LK,M9,RG,not_or] at g;exact(t.2 b g.1).trans<|y5 b o g.1 g.2 z
  have tp:RV N s.heap.objs.size [.int (i:I) tk,x'].toArray:=⟨_,(t.2 _ nz).trans y3,rfl,_,rfl⟩
  refine⟨.ref s.heap.objs.size,upd H s.heap.objs.size<|.tup [.int (i:I),x],gY (s:=s) (t':=tk+1) c F kk (LM _) (by show 2<=sizeLine;decide) (.cons ⟨_,rfl⟩<|.cons r1 .nil) tp,rfl,
   ⟨_,x,rfl,c.fresh,rfl,λzs hz=>by rw[c.tuple_inj hz G];exact hx⟩,?_,λb g=>?_⟩
  .exact⟨⟨_,w1⟩,y2.1.at λo z=>(t.2 _<|Mx r).trans z⟩
  .rw[ah<|L5<|lt b g];exact(F b g).1
 done:=by
  intro X Z hw Q hc i u s σ H E c F n hg;subst Z hw Q;obtain⟨xs,G,hl⟩:=hg;obtain⟨⟨j,m⟩,p⟩:=n;obtain⟨f,v1,o1,z1⟩:=c.tuple G;have l1:=v1.length;have l2:f.toArray.size<=i:=by simp;lia
  refine wpAny_pyNext_enum_endD (qb (A:=X.A.in1) (c.ok.hd hc) l a i f.toArray l2) m ⟨rfl,p,(show s.heap.IsTuple a f.toArray from o1)⟩ λD eb=>⟨rfl,nV (t':=s.toks) c F λb o g z=>eb b o (λy=>g<|by simp[y]) z⟩
 self:=λ_ _ _ _ _ n h=>by obtain⟨⟨j,m⟩,_⟩:=n;exact wpAny_pyIter_enum m h
def yd (K:Ly)(c:TA):TI:=λf H R=>c f H λd b=>∃a,d=[.ref a]/\(∃e,SqT K b a e)/\R (HY K a) b
theorem uW {X:Cx}{a:Rv}{v:TA}{p i pt:Pos}{x:U Rv}{M:O}(A:Gl X "enumerate")(D:X.mg "enumerate"=J)(z:PA X [a] v)(F:Lz [a] X.env=[(Lv,Rz a X.env)]:=by rfl):
  PI X (.Tuple x M pt) (.Call (.Name "enumerate" p) [a] [] i) (yd X.K v):=by
 intro g s Q H R c h;refine Call_<|eB c A D boot_enumerate<|Oz (thn (z i g s Q H _ c h) λZ j ⟨vs,w,k,r1,l⟩=>?_) F rfl;obtain⟨a,rfl,⟨xs,n⟩,q⟩:=l;cases r1 with
 | cons r P =>
  cases P;cases r;obtain⟨m,v1,u,z1⟩:=k.tuple n;have f:a<j.heap.objs.size:=by obtain⟨o,e,_⟩:=u;exact Heap.lt_size e
  refine mP (show j.heap.IsTuple a m.toArray from u) λy l N G=>?_;refine wpAny_pyIter_enum (s:={j with heap:=y}) l ?_;refine⟨_,_,_,_,w,rfl,k.kept (t':=j.toks) G,n9 (Nat.succ_ne_self _) (L5<|PJ f)<|L5 f,⟨⟨_,l⟩,N⟩,λb t=>?_,q⟩;have d:j.heap.objs.size<=b:=by simp only[LK,M9,RG] at t;rcases t with e|e<;>(rw[e];first|exact Nat.le_add_right _ _|exact LM _)
  exact k.fpOk d<|k.hok.fresh d
end L3
namespace MR
open PySem PySem.Spec PyProof.Rows L2 L3
section
variable {X:Cx}{sf sg:O->L O}{C:M.Call}{pos p p2 p3:Pos}{ea eb ec:Rv}{a b c:M.E}{h:Rl}{n:O}{io:U O}{K:Ly}
theorem zI {e:M.E}(F:L2.St)(H:Hp)(R:It->Hp->Prop)(h:wI K sf C 2 .enmT [e] F H R):yd K (wL K sf C [e]) F H R:=by
 obtain⟨pv,Z,N,η,ws,v,ts,A,ev,D,k⟩:=h;refine⟨pv,Z,N,η,ws,v,A,ev,λvs Z' P u G f r s=>?_⟩;obtain⟨⟨m,a⟩,η1,us,e1,e2,rfl⟩:=aE ev;cases e2;obtain⟨x,rfl,r1⟩:=bc rfl r;obtain⟨o,rfl⟩:∃o,a=.tup o:=by cases a<;>first|exact⟨_,rfl⟩|cases D
 cases D;obtain⟨a,t,rfl,q,l,p⟩:=Rep.sh r1;have l1:=p.length;refine⟨a,rfl,⟨t,q⟩,k _ _ P u f.freeze (a9 f.own s) ⟨λw i s g=>?_,λw i s g=>?_,by rw[dz];lia⟩ λw i x H1 s g y=>?_⟩
 .rw [dz] at g;exact⟨t,t[i]'(by lia),s.sqt q,by simp⟩
 .rw [dz] at g;exact⟨t,s.sqt q,by lia⟩
 .rw [dz] at g;obtain⟨Q,x1,rfl,hp,rfl,hx⟩:=y;obtain⟨x',j,rx⟩:=p.get (show o[i]?=Y o[i] by simp);rw[hx t<|s.sqt q] at j;cases j;refine⟨Q,.int i,x1,(.d,.int ((0+i:O):I)),(.s,o[i]),rfl,DH hp,.inl<|.inl au,jl<|by simp,?_,rx.sany.keep s (λ_ z=>z) λ_ _ z=>z.elim⟩;show V.int (i:I)=V.int ((0+i:O):I);rw[MY]
theorem r8 {e:U Rv}{g:O}{pt p:Pos}(hm:X.mg "enumerate"=J)(f:Gl X "enumerate":=by rfl)(ha:SE X sf C ea a)(d:Lz [ea] X.env=[(Lv,Rz ea X.env)]:=by rfl):PI X (.Tuple e g pt) (.Call (.Name "enumerate" p) [ea] [] pos) (wI X.K sf C 2 .enmT [a]):=je (uW f hm (slc ha sl0 d) d) zI
end
end MR

namespace L3
open PySem PySem.Spec PyProof.Rows L2
theorem KJ {prog:Ro}{w:LA}{A:LS}{E:B->Lx->Prop}{s:Lx}{t b:Rj}{k:U B}{Q:B->Lx->Prop}(p:RV s.heap t ([]:U B).toArray)(o:RV s.heap b k.toArray)(h:Q (.ref b) s):Rp (LC prog w) A (Mv .Add (.ref t)<|.ref b) Q E s:=by
 obtain⟨⟨l,m,i,u⟩,ho,j,n,hd⟩:=id p;obtain⟨⟨g,e,data2,f⟩,d,a,r,c⟩:=id o;simp only at j hd a c;subst j hd a c
 exact RX ⟨_,ho,rfl⟩ ⟨_,d,rfl⟩ O9 RR PV PZ (P1 _ _)
  (tuple_addW0 t b ([]:U B).toArray k.toArray n r m e u f rfl) ⟨ho,d,h⟩
def Cb (K:Ly):R2:=λx y H Q=>∃a b e f,x=.ref a/\y=.ref b/\SqT K H a e/\SqT K H b f/\e.length+f.length<=sizeLine/\∀v d,Same H d->(∃c,v=.ref c/\SqT K d c (e++f))->Q v d
theorem zY {X:Cx}:OpR X (Mv .Add) (Cb X.K):=λd s r H x y v u Q c j k h=>by
 obtain⟨a,b,l,p,e1,e2,g,e,m,q⟩:=h;by_cases hx:l=[]
 .subst hx e1 e2;cases j;cases k;obtain⟨f,r1,n,_⟩:=c.tuple g;obtain⟨i,r2,o,_⟩:=c.tuple e;have:f=[]:=by cases r1;rfl
  subst this;exact KJ n o ⟨.ref b,H,c,rfl,q _ _ (Same.refl _) ⟨b,rfl,e⟩⟩
 .exact pb d s r H x y v u Q c j k ⟨a,b,l,p,e1,e2,g,e,hx,m,q⟩
theorem A7 {X:Cx}{o e:Rv}{c d:Pos}{ty:TE}{ad:Rj}{T:U<|Str×V}(D:DTab X.K X.w ad T)(ho:PE X o<|tC<|.ref ad)(N:PE X e ty)(m:M1 X o "get" c e d):PE X (.Call (.Attribute o "get" c) [e] [] d) (λk H Q=>ty k H λy i=>∃z,y=.str z/\Q ((T.lookup z).getD .non) i):=by
 intro g s k H Q a h;refine wpAny_Call_method m.base m.few m.line PySem.F.plainAttrs_dict QN PySem.F.type_dict_get<|thn (ho g s k H (λx l=>x=.ref ad/\ty k l λy i=>∃z,y=.str z/\Q ((T.lookup z).getD .non) i) a ⟨rfl,h⟩) λu s1 ⟨x,l,p,rx,A,q1⟩=>?_;subst A;obtain rfl:u=Value.ref ad:=rx;obtain⟨f,Z,hf⟩:=D.map (P:=X.prog) p.kIn;obtain⟨es,n,k1,k2,k3⟩:=D.ex;refine⟨Z.typeIs,λb q=>?_,?_⟩
 .cases q;exact⟨_,p.kIn _ _ k1,rfl⟩
 rw[m.trees];refine Calls.callWith_builtin rfl (Calls.evalArgs_plain<|Calls.spliced_cons<|thn (N g s1 k l _ p q1) λiv s2 ⟨y,i,v,ry,z,G,q2⟩=>Calls.spliced_nil ?_);subst G;obtain⟨t,rfl⟩:=ry;obtain⟨M,j,r⟩:=D.map (P:=X.prog) v.kIn;exact call_meetsIn QN j.typeIs PySem.F.entry_dict_get (PySem.F.args_dict_get_2 _ _) (meets_dict_get (strKind X.prog X.w) ad (Oj X.prog X.w z t) D.lo) ⟨M,j,(T.lookup z).getD .non,i,v.tok _,(r z).getD<|show L2.RelV .non Value.none from rfl,q2⟩
theorem iF:∀{a:U Str} {b:U B},Vals (a.map V.str) b->StrsAre b a
|[],_,h=>by cases h;exact .nil
| x::a,_,h=>by
 cases h with
 |cons r c=>obtain⟨t,rfl⟩:=r;exact .cons _ _<|iF c
end L3
namespace MR
open PySem PySem.Spec PyProof.Rows L2 L3
section
variable {X:Cx}{sf sg:O->L O}{C:M.Call}{pos p p2 p3:Pos}{ea eb ec:Rv}{a b c:M.E}{h:Rl}{n:O}{io:U O}{K:Ly}
theorem vB:Loc K 2 .catT h λg H Q=>∀x y,g=[x,y]->Cb K x y H Q:=by
 intro ws w g Z H G Q hn e r P za k x y hx;subst hx;obtain⟨⟨m,a⟩,⟨n,b⟩,rfl⟩:=eV r.length.symm;obtain⟨G1,G2,w1,w2,d,r1,r2⟩:=cS r;cases a with
 | tup t =>
  cases b with
  | tup u =>
   have i:(if M.fits (t.length+u.length)=Lw then Y ((.s,.tup (t++u)):M.W) else J)=Y w:=e;split at i
   .rename_i A;cases i;obtain⟨a,g,rfl,F,hl,p⟩:=cD r1;obtain⟨b,ys,rfl,l,D,p2⟩:=cD r2;have o:=cZ A;have e1:=p.length;have e2:=p2.length;refine⟨a,b,g,ys,rfl,rfl,F,l,LIM_le (by lia),λv H' f N=>gX (m:=.s) (G':=no) P (λ_ z=>z.elim) (by rw[LH];lia) (RepL.append (G1:=no) (G2:=no) (λ_ z=>z) (λ_ z=>z) (λ_ z _=>z) ((RepL.sh p).zmono λb j=>?_) ((RepL.sh p2).zmono λb j=>?_)) k f N⟩
    .exact j.imp id λz=>⟨w1 b z,λq=>q⟩
    .exact j.imp id λz=>⟨w2 b z,λq=>q⟩
   .cases i
  |_=>cases e
 |_=>cases e
theorem ye (d:SE X sf C ea a)(e:SE X sf C eb b):SE X sf C (.BinOp ea .Add eb pos) (.op .catT h [a,b]):=aj (gc zY d e)<|aN vB
theorem Ax {w:LA}{ad:Rj}{T:U<|Str×V}{tab:U<|Str×M.T}{e:M.E}(ht:∀z,match tab.lookup z with
  |some t=>∃v,T.lookup z=Y v/\CstR K t v
  |none=>T.lookup z=J) (F:L2.St) (H:Hp) (Q:VK) (h:wE K sf C (.getT tab e) F H Q):wE K sf C e F H λy P=>∃z,y=.str z/\Q ((T.lookup z).getD .non) P:=by
 obtain⟨pv,Z,N,D,x,η',A,ev,k⟩:=h;obtain⟨⟨u,η1⟩,h1,h2⟩:=ae<|show(M.evE C e D).bind (M.kGet tab)=_ from ev;obtain⟨z,e1,e2,e3⟩:=mH h2;cases e2;refine⟨pv,Z,N,D,u,_,A,h1,λy i g f G d r s=>?_⟩;obtain⟨m,t0⟩:=u;cases(show t0=_ from e1);have q:=ht z;refine⟨z,r.1,?_⟩;cases o:tab.lookup z with
 |none=>rw[o] at q e3;rw[show T.lookup z=J from q];have j:x=(.s,.non):=e3;subst j;exact k _ i g f no d.bare rfl (s.mono (λ_ z=>z) λa l=>l.elim .inl λz=>z.elim)
 |some t=>rw[o] at q e3;obtain⟨v,q1,q2⟩:=q;rw[q1];have j:x=(.s,t):=e3;subst j;exact k v i g f no d.bare (q2 i g)<|s.mono (λ_ z=>z) λa l=>l.elim .inl λz=>z.elim
theorem Il {x:Str}{tab:U<|Str×M.T}{d e:Pos}(T:nW X.K X.w X.mg x tab)(f:SE X sf C ea a)(g:Gl X x:=by rfl)(hd:(x==("__debug__":Str))=false:=by decide)(m:M1 X (.Name x p2) "get" d ea e:=by exact⟨rfl,rfl,rfl,rfl⟩):SE X sf C (.Call (.Attribute (.Name x p2) "get" d) [ea] [] e) (.getT tab a):=by obtain⟨ad,k,i,D,j⟩:=T;exact aj (A7 D (jJ g i hd) f m)<|Ax (w:=X.w) (ad:=ad) j
end
end MR


namespace MR
open L2 L3 M
open PySem (Addr Str sizeLine)
section
variable {K:Ly}{Wx:L2.St->VK}{sl:Cf}{sf sg:O->L O}{C:Call}{σ σ2:L2.St}{Z Z' Z1:Fp}{H H' H1:Hp}{Fs Fs' Fs1:Fps}{η η' η1 ηb:Env}{G G' G1 R F F':Fp}{tg is vs ls io:U O}{pv val:O->L V}{D:cO}
def kT:I ⊕ Str->T
|.inl n=>.int n
|.inr x=>.str x
end
end MR

namespace L3
open PySem PySem.Spec PyProof.Rows L2
theorem lu:∀{b:U B} {a:U Str} {i:O} {v:B},StrsAre b a->b[i]?=Y v->∃y t,a[i]?=Y y/\v=Value.str y t
|_,_,_,_,.nil,h=>by simp at h
|_,_,0,_,.cons y t r,h=>by rw[Ny] at h;cases h;exact⟨y,t,rfl,rfl⟩
|_,_,i+1,_,.cons y t r,h=>by rw[MH] at h;obtain⟨z,c,e1,e2⟩:=lu r h;exact⟨z,c,by rw[MH];exact e1,e2⟩
theorem kW {prog:Ro}{w:LA}{A:LS}(hh:A.handled=J){R:R7->Lx->Prop}{a S t:Rj}(u:S≠a)(h2:S≠t)(h3:t≠a){c:RD B}{f:U Str}(D:StrsAre c.toList f)(n:f.length<1000):∀(k i:O) (s:Lx) (d:U Str),i+k=f.length->d.length<=i->s.heap.IsTupleIter a t i->s.heap.IsTuple t c->Heap.SetOf (NV prog w) s.heap S (λx=>d.contains x) d.length ->
 (∀h tk,(∀b o,b≠S->b≠a->s.heap.get? b=Y o->h.get? b=Y o)->Heap.SetOf (NV prog w) h S (λx=>((f.drop i).foldl M.addS d).contains x) ((f.drop i).foldl M.addS d).length->R (Except.ok<|Flow.ret Value.none) {s with heap:=h,toks:=tk}) ->
 MQ (LC prog w) A (Code.builtin "set.update.loop" {pos:=[Value.ref S,Value.ref a]}) R s
|0,i,s,d,hk,hl,N,tp,Z,q=>by have r:c.toList.length=f.length:=D.length;have hn:c[i]?=none:=O6 (by rw[<- Mn];lia);refine O8 Q4 ?_;unfold R5.«set.update.loop»;refine LD<|RK hh N tp hn λh eb=>?_;refine LN ?_;have e:f.drop i=[]:=List.drop_eq_nil_of_le (by lia);rw[e] at q;refine q h s.toks (λb o _ g n=>eb b o g n) ?_;obtain⟨o,F,ep,tt,G,m⟩:=Z;exact⟨o,F,ep,tt,eb S o u G,m⟩
| k+1,i,s,d,hk,hl,N,tp,Z,q=>by
 have r:c.toList.length=f.length:=D.length;have hi:i<f.length:=by lia
 obtain⟨v,hv⟩:∃v,c.toList[i]?=Y v:=⟨_,Ma<|by lia⟩;obtain⟨y,t',hy,rfl⟩:=lu D hv;refine O8 Q4 ?_;unfold R5.«set.update.loop»;refine LD<|RI N tp (x:=Value.str y t') (by simpa using hv) λh P Q=>?_;refine LD<|N3 ?_;unfold setAdd;refine N3<|LD<|wpAny_pyHash_str ?_;have so':Heap.SetOf (NV prog w) h S (λx=>d.contains x) d.length:=by obtain⟨o,F,ep,tt,G,m⟩:=Z;exact⟨o,F,ep,tt,(Q.2 S u).trans G,m⟩
 refine wpAny_setAddHashed_of (knd:=NV prog w) (k:=y) (Oj prog w y t') rfl so' (by have hsb:2000<scanBound:=(by decide);lia) λm j so2=>?_;refine LN ⟨(by first|rfl|kernel_rfl|(unfold Code.quiet;kernel_rfl)|simp[Code.quiet]),?_⟩;have ed:f.drop i=y::f.drop (i+1):=by rw[QI hi];have:=Ma hi;rw[this] at hy;cases hy;rfl
 rw[ed] at q
 have so3:Heap.SetOf (NV prog w) m S (λx=>(M.addS d y).contains x) (M.addS d y).length:=by
  have e1:(λx=>(M.addS d y).contains x)=λk'=>d.contains k' || decide (k'=y):=by
   funext z;unfold M.addS;split
   .rename_i hc;by_cases l:z=y
    .subst l;rw[hc];rfl
    .rw[Rt l,Qs]
   .rw [List.contains_append];congr 1;by_cases l:z=y
    .subst l;simp
    .rw [Rt l];simp[l]
  have e2:(M.addS d y).length=if d.contains y=Lw then d.length else d.length+1:=by
   unfold M.addS;split
   .rfl
   .rw[LH];rfl
  rw[e1,e2];exact so2
 refine kW hh u h2 h3 D n k (i+1) _ (M.addS d y) (by lia) ?_ (P.at λo e=>(j.2 a<|Mx u).trans e) ?_ so3 λH tk keep so4=>q H tk (λb o p g n=>keep b o p g<|(j.2 b p).trans<|(Q.2 b g).trans n) so4
 .unfold M.addS;split
  .omega
  .rw[LH,L0];lia
 .obtain ⟨o,e1,e2⟩:=tp;exact⟨o,(j.2 t<|Mx h2).trans<|(Q.2 t h3).trans e1,e2⟩
end L3

namespace L3
open PySem PySem.Spec PyProof.Rows L2
theorem qi {prog:Ro}{w:LA}{A:LS}{E:B->Lx->Prop}{s:Lx}{t:Rj}{f:RD B}{Q:B->Lx->Prop}(D:A.handled=J)(tp:s.heap.IsTuple t f){l:U Str}(N:StrsAre f.toList l)(m:l.length<1000)
  (q:∀h r,(∀b o,s.heap.get? b=Y o->h.get? b=Y o)->Heap.SetOf (NV prog w) h s.heap.objs.size (λx=>(M.distS l).contains x) (M.distS l).length->Q (.ref s.heap.objs.size) {s with heap:=h,toks:=r}):Rp (LC prog w) A (call (Value.type "set") [Value.ref t]) Q E s:=by
 obtain⟨c0,tl,G⟩:=F.called_set.mro;refine Om<|codeAny_of_tree ?_;refine LN ?_;refine⟨(by first|rfl|kernel_rfl),O8 F.entry_type_call ?_⟩;rw[Around.under_plain (weight_type_call_type _ _ _) rfl];unfold R5.«type.__call__»;refine Od (by rfl) ?_;refine Od (by show decide _=Lv;rw[F.called_set.canCreate];rfl) ?_;rw[F.typeCall_set_1];refine LD<|LN ?_;rw[G];refine LD<|LN ?_;refine Od (by rfl) ?_;rw[F.called_set.made];refine LD<|LN ?_;refine LD<|LN ?_;refine LD<|N3<|Om<|code_set_new_1 _ λd=>?_;have hT:Shared.TypeIs {heap:=s.heap.push {cls:=Value.type "set",data:=Data.set #[] 0 (SetTable.fresh 0 0 d)},gens:=s.gens,drawn:=s.drawn,toks:=s.toks,os:=s.os} (Value.ref s.heap.objs.size) "set":=⟨_,Heap.get?_push_size _ rfl,rfl⟩;refine LD<|wpAny_isInstance (T:="set") (b:=Lw) hT F.called_set.sub ?_;refine Od (by rfl) ?_;refine LD<|N3<|Oc hT F.called_set.init<|Om<|codeAny_call_builtin F.called_set.init.plain F.entry_set_init<|check_set_init_1 hT ?_;have g:Heap.IsTuple (s.heap.push {cls:=Value.type "set",data:=Data.set #[] 0 (SetTable.fresh 0 0 d)}) t f:=Heap.IsTuple.push tp _;have H:t≠s.heap.objs.size:=by obtain⟨o,e,_⟩:=tp;exact L5<|Heap.lt_size e
 unfold R5.«set.__init__»;have j:(s.heap.push {cls:=Value.type "set",data:=Data.set #[] 0 (SetTable.fresh 0 0 d)}).get? s.heap.objs.size=Y {cls:=Value.type "set",data:=Data.set #[] 0 (SetTable.fresh 0 0 d)}:=Heap.get?_push_size _ rfl;have P:=F.sub_tuple_set;have Z:=F.sub_tuple_frozenset;have y:Shared.TypeIs {heap:=s.heap.push {cls:=Value.type "set",data:=Data.set #[] 0 (SetTable.fresh 0 0 d)},gens:=s.gens,drawn:=s.drawn,toks:=s.toks,os:=s.os} (Value.ref t) "tuple":=by obtain⟨o,e,c,_⟩:=g;exact⟨o,e,c⟩
 refine LD<|wpAny_of_eq (a:=()) rfl ?_
 wp_walk using Og g
 have e1:(s.heap.push {cls:=Value.type "set",data:=Data.set #[] 0 (SetTable.fresh 0 0 d)}).objs.size=s.heap.objs.size+1:=Heap.size_push ..;have p:t<s.heap.objs.size:=by obtain⟨o,e,_⟩:=tp;exact Heap.lt_size e
 have v:Heap.SetOf (NV prog w) ((s.heap.push {cls:=Value.type "set",data:=Data.set #[] 0 (SetTable.fresh 0 0 d)}).push {cls:=Value.type "tuple_iterator",data:=Data.fields #[Value.ref t,Value.int 0 0]}) s.heap.objs.size (λx=>([]:U Str).contains x) 0:=by
  refine⟨_,#[],0,SetTable.fresh 0 0 d,Heap.get?_push_of_some _ j,?_,rfl,?_,?_,?_,?_,rfl⟩
  .exact⟨rfl,rfl,rfl⟩
  .first|exact Nq|exact⟨⟩|(intro e n;cases n)|simp[ElemsOf]
  .intro k;constructor
   .intro z;cases z
   .rintro⟨e,n,_⟩;cases n
  .decide
  .cases d<;>rfl
 refine kW (A:=A.in1.in1) D (by rw[e1];exact L5<|OS _) (Mx H) (by rw[e1];exact L5<|PJ p) N m l.length 0 _ [] (MY _) (Mw _) ⟨_,Heap.get?_push_size _ rfl,rfl,rfl⟩ (Heap.IsTuple.push g _) v λh r keep u=>?_;refine LN<|LN ?_;refine Od (by rfl)<|LN ?_;refine q h r (λb o m=>?_) (by rw[MO] at u;exact u);have i:b<s.heap.objs.size:=Heap.lt_size m;exact keep b o (L5 i) (by rw[e1];exact L5<|PJ i)<|Heap.get?_push_of_some _<|Heap.get?_push_of_some _ m
def pR (K:Ly)(c:U V)(H:Hp)(Q:VK):Prop:=∃(a:Rj) (b:U Str),c=[.ref a]/\SqT K H a (b.map V.str)/\b.length<1000/\Q (.int (M.distS b).length) H
theorem qr {X:Cx}{d:Rv}{r:TA}{p j e c:Pos}(G:X.calm=Lw)(N:Gl X "len")(P:X.mg "len"=J)(l:Gl X "set")(m:X.mg "set"=J)(D:PA X [d] r)(Z:Lz [d] X.env=(Lv,Rz d X.env)::Lz [] X.env)(n:(LY c<|Lz [] X.env).any (·.1)=Lv)(g:Lz [.Call (.Name "set" j) [d] [] c] X.env=(Lv,Rz (.Call (.Name "set" j) [d] [] c) X.env)::Lz [] X.env)(f:(LY e<|Lz [] X.env).any (·.1)=Lv):
  PE X (.Call (.Name "len" p) [.Call (.Name "set" j) [d] [] c] [] e) (tCB (pR X.K) r):=by
 intro i s σ H Q b h;refine N2 (eB b N P PM ?_ (by decide)<|by decide);refine QK ?_ g f;rw[g];show Rp _ _ (spliced ((Lv,Rz (.Call (.Name "set" j) [d] [] c) X.env)::LY e (Lz [] X.env))) _ _ s;refine Calls.spliced_cons ?_;refine N2 (eB b l m Rf ?_ (by decide)<|by decide);refine Oz (thn (D c i s σ H _ b h) λus s1 ⟨vs,v,k,r1,q1⟩=>?_) Z n;obtain⟨a,ss,rfl,A,F,q⟩:=q1;obtain⟨u,rfl,ru⟩:=dQ r1;cases ru;obtain⟨its,rv,tp,hz⟩:=k.tuple A;refine qi (k.ok.hd G) tp (iF rv) F λh' tk keep so=>?_;refine Calls.spliced_nil ?_;obtain⟨o,z,ep,t,e1,e2,e3,e4,e5,w,x,y⟩:=so;refine call_len_set e1 e2 e3 x ?_ ⟨.int (M.distS ss).length,v,(k.kept (t':=tk) keep).tok _,⟨_,by rw[y]⟩,q⟩;have:z.size<2 ^ 63:=Mc w (by decide);exact Int.ofNat_lt.mpr this
end L3
namespace MR
open PySem PySem.Spec PyProof.Rows L2 L3
section
variable {X:Cx}{sf sg:O->L O}{C:M.Call}{pos p p2 p3 pos2:Pos}{ea eb ec:Rv}{a b c:M.E}{h:Rl}{n:O}{io:U O}{K:Ly}
theorem nD:Loc K 1 .lenSet h (pR K):=by
 intro t w u Z H G Q o e r y z k
 match t,o with
 | [(m,a)],_ =>
  obtain⟨x,rfl,r1⟩:=bc rfl r;cases a with
  | tup j =>
   have e2:((M.strsOf j).bind λf=>if decide (f.length<1000)=Lw then Y ((.d,.int (M.distS f).length):M.W) else J)=Y w:=e;cases e3:M.strsOf j with
   |none=>rw[e3] at e2;cases e2
   | some f =>
    rw[e3] at e2;have g:(if decide (f.length<1000)=Lw then Y ((.d,.int (M.distS f).length):M.W) else J)=Y w:=e2;split at g
    .rename_i l;cases g;obtain⟨q,u,s,i,v,pr⟩:=cD r1;rw[mq e3 pr] at i;exact⟨q,f,by rw[s],i,RA l,aQ k⟩
    .cases g
  |_=>cases e
theorem Br (j:X.calm=true:=by rfl)(hm:X.mg "len"=J)(hm2:X.mg "set"=J)(k:Gl X "len":=by rfl)(e:Gl X "set":=by rfl)(ha:SE X sf C ea a)(i:Lz [ea] X.env=(Lv,Rz ea X.env)::Lz [] X.env:=by rfl)(f:(LY pos2<|Lz [] X.env).any (·.1)=false:=by rfl)(g:Lz [.Call (.Name "set" p2) [ea] [] pos2] X.env=(Lv,Rz (.Call (.Name "set" p2) [ea] [] pos2) X.env)::Lz [] X.env:=by rfl)(d:(LY pos<|Lz [] X.env).any (·.1)=false:=by rfl):SE X sf C (.Call (.Name "len" p) [.Call (.Name "set" p2) [ea] [] pos2] [] pos) (.op .lenSet h [a]):=
 aj (qr j k hm e hm2 (slc ha sl0 i) i f g d) (eO nD rfl)
end
end MR












namespace MR
open PySem PySem.Spec PyProof.Rows L2 L3
def nIo:M.E->Rl
|.io _=>Lv
|_=>Lw
noncomputable def lcl (o:L PL):Rl:=match o with
|some .local=>Lw
|some .cell=>Lw
|_=>Lv
def lcO (o:L PL):Rl:=match o with
|some .local=>Lw
|_=>Lv
theorem ET {a:M.E}(h:nIo a=Lw)(i:O):a≠.io i:=by rintro rfl;cases h
theorem yQ {a:RF}{x:Str}(h:lcl (a.names.lookup x)=Lw):L2.Loc a x:=by
 unfold lcl at h;split at h
 .rename_i e;exact L1 e
 .rename_i e;exact LV e
 .cases h
theorem yF {o:L PL}{b:Rl}(h:(b || lcO o)=Lw):b=Lw\/o=Y .local:=by
 cases b
 .refine LV ?_;unfold lcO at h;simp at h;split at h
  .rfl
  .cases h
 .exact L1 rfl
section
variable {X:Cx}{sf:O->L O}{io:U O}{C:M.Call}{pos:Pos}{ea eb:Rv}{a b:M.E}{h:Rl}
theorem zA (j:O){i:O}{x:Str}{m:M.X}{c:Pos}(hN:X.N.Nodup)(f:SE X sf C ea a)(e:io.contains i=Lv)(l:sf i=Y j)(k:X.N[j]?=Y x)(hx:lcl (X.env.scope.names.lookup x)=Lw)
  (d:MI ea (Y<|.Name x c) pos.line X.env=pure Lv) (g:(X.fn x || lcO (X.env.scope.names.lookup x))=Lw):SS X sf io C (.Assign [.Name x c] ea pos) (.asg m i a):=Lh j hN f (λz=>by rw[show io.contains i=Lw from List.elem_eq_true_of_mem z] at e;cases e) l k (yQ hx) d<|yF g
theorem say {c:U Rv}{bs:U M.E}(d:SE X sf C ea a)(e:SA X sf C c bs)(f:nIo a=Lw)(g:Lz (ea::c) X.env=(Lv,Rz ea X.env)::Lz c X.env):SA X sf C (ea::c) (a::bs):=sac d e (ET f) g
end
end MR

namespace MR
open PySem
section
variable {p:U B->Prop}
theorem u0 (h:p [])(a:U B)(e:a.length=0):p a:=by cases a;exact h;cases e
theorem uS {n:O}(h:∀a b,Me b=n->p (a::b))(b:U B)(e:b.length=n+1):p b:=by
 cases b with
 |nil=>cases e
 |cons a r=>exact h a r<|QG e
theorem u1 (h:∀a,p [a])(b:U B)(e:b.length=1):p b:=uS (λa=>u0<|h a) b e
theorem u2 (h:∀a b,p [a,b])(c:U B)(e:c.length=2):p c:=uS (λa=>u1<|h a) c e
theorem u3 (h:∀a b c,p [a,b,c])(d:U B)(e:d.length=3):p d:=uS (λa=>u2<|h a) d e
theorem u4 (h:∀a b c d,p [a,b,c,d])(f:U B)(e:f.length=4):p f:=uS (λa=>u3<|h a) f e
end
end MR







namespace MR
open PySem PySem.Spec PyProof.Rows L2 L3
section
variable {X:Cx}{sf sg:O->L O}{C:M.Call}{pos p p2 p3:Pos}{ea eb ec:Rv}{a b c:M.E}{h:Rl}{n:O}{io:U O}{K:Ly}
theorem Bf {e:M.E}(σ:L2.St)(H:Hp)(R:It->Hp->Prop)(h:wI K sf C 2 .sq2T [e] σ H R):DG K (wE K sf C e) σ H R:=by
 obtain⟨pv,Z,Fs,η,ws,η',ts,A,ev,Q,k⟩:=h;obtain⟨⟨m,a⟩,η1,us,e1,e2,rfl⟩:=aE ev;cases e2;obtain⟨g,rfl⟩:∃g,a=.tup g:=by cases a<;>first|exact⟨_,rfl⟩|cases Q
 have j:M.pairsT g=Y ts:=Q;have P:=hV j;refine⟨pv,Z,Fs,η,_,_,A,e1,λv Z' H' D G f r s=>?_⟩;obtain⟨a,t,rfl,q,l,p⟩:=Rep.sh r;have hl:=p.length;refine⟨a,rfl,⟨t,q⟩,k _ _ H' D f.freeze (a9 f.own s) ⟨λF i s N=>?_,λF i s N=>?_,by lia⟩ λF i x H1 s N y=>?_⟩
 .exact⟨t,t[i]'(by lia),s.sqt q,by simp⟩
 .exact⟨t,s.sqt q,by lia⟩
 .obtain ⟨rfl,y⟩:=y;have hx:=y t (s.sqt q);have hi':i<g.length:=by lia
  obtain⟨x',o,rx⟩:=p.get (show g[i]?=Y g[i] by simp);rw[hx] at o;cases o;obtain⟨u,w,et,eu⟩:=ia j (show g[i]?=Y g[i] by simp);rw[et] at rx;obtain⟨c,ys,rfl,hq,_,y1,r1,G1,G2,rfl,g1,g2,d,p1,y2,r2,G3,G4,e2,g3,g4,d2,p2,q2⟩:=rx;cases e2;obtain rfl:r2=[]:=q2;refine⟨c,y1,y2,(.s,u),(.s,w),rfl,λ_ _ e=>e,s.sqt hq,eu,(p1.mono (G':=no) λa h=>g1 a h).sany.keep s (λ_ z=>z) λ_ _ z=>z.elim,(p2.mono (G':=no) λa h=>g2 a<|g3 a h).sany.keep s (λ_ z=>z) λ_ _ z=>z.elim⟩
theorem tK {e:Rv}(d:SE X sf C ea a):PI X e ea (wI X.K sf C 2 .sq2T [a]):=je (v7 d) Bf
end
end MR








namespace MR
open PySem PySem.Spec PyProof.Rows L2 L3
section
variable {X:Cx}{sf:O->L O}{C:M.Call}{pos p p2:Pos}{ea:Rv}{es:U Rv}{a:M.E}{bs:U M.E}{h:Rl}{x fld:Str}{n:O}{K:Ly}{Z:Fp}{H:Hp}{m:M.Md}{c:O}{fs:U Str}{vs:U M.T}{v:V}{G:Fp}
theorem pk (r:Rep K Z H m (.obj c fs vs) v G):∃a b d,v=.ref a/\H a=Y (.ins c b<|fs.zip d)/\H b=Y (.own a)/\qp K c fs/\fs.length=vs.length/\RepL K Z H .s vs d no:=by
 obtain⟨_,a,b,d,e,q,g,l,r⟩:=r;have f:H a=Y (.ins c b (fs.zip d))/\H b=Y (.own a):=by cases m<;>exact q.2.2
 exact⟨a,b,d,e,f.1,f.2,g,l,r⟩
theorem lW {f:Str}:∀{fs:U Str} {vs:U M.T} {d:U V} {t:M.T},M.lookF f fs vs=Y t->RepL K Z H .s vs d no->∃y,(fs.zip d).lookup f=Y y/\f∈fs/\Rep K Z H .s t y no
| g::i,u::A,d,t,e,r=>by
 obtain⟨y,Q,N,P,rfl,D,F,_,w,o⟩:=r;have e:(if(g==f)=Lw then Y u else M.lookF f i A)=Y t:=e;rw[OB,Na];cases b:(g==f) with
 |true=>rw[b,Rk rfl] at e;cases e;have:=eq_of_beq b;subst this;rw[Rq];exact⟨y,rfl,LI,w.mono D⟩
 |false=>rw[b,Rn<|by decide] at e;obtain⟨z,j,k,l⟩:=lW e<|o.mono F;rw[show(f==g)=Lv from by rw[BEq.comm];exact b];exact⟨z,j,LO _ k,l⟩
|[],_,_,_,e,_=>by cases e
|_::_,[],_,_,e,_=>by cases e
def spP (c:O)(fs:U Str)(d:U I):Sp:=λvs H Q _=>∃a e b,vs=.ref a::b/\fs.length=b.length+d.length/\H a=Y (.ins c e [])/\Q .non (upd H a<|.ins c e<|fs.zip<|b++d.map V.int)
theorem pD:∀b:U M.W,(b.map λw=>w.2)=M.trees b
|[]=>rfl
|w::b=>by rw[LJ,pD b];rfl
theorem ji {Z:Fp}{H:Hp}:∀b:U I,RepL K Z H .s (b.map M.T.int) (b.map V.int) no
|[]=>rfl
|i::b=>⟨.int i,b.map V.int,no,no,rfl,λ_ z=>z,λ_ z=>z,λ_ z=>z.elim,rfl,ji b⟩
theorem EK {i:U I}(cf:qp K c fs)(σ:L2.St)(H:Hp)(Q:VK)(hw:wE K sf C (.op (.mkP c fs i) h bs) σ H Q):wL K sf C bs σ H (λvs F=>∀x d,F x=J->F d=J->d≠x->spP c fs i (.ref x::(vs++[])) (upd (upd F d<|.own x) x<|.ins c d []) (λv f=>v=.non/\Q (.ref x) f) E0):=by
 obtain⟨pv,Z,Fs,η,w,η',A,ev,k⟩:=hw;obtain⟨t,h1,h2⟩:=dX ev;have P:(if decide (fs.length=t.length+i.length)=Lw then Y ((.o .s,.obj c fs ((t.map λw=>w.2)++i.map M.T.int)):M.W) else J)=Y w:=h2;split at P
 case isFalse=>cases P
 rename_i l;have l:=RA l;cases P;refine⟨pv,Z,Fs,η,t,η',A,h1,λvs y f Fs2 r D r2 st x d hx hd hne=>?_⟩;have hvl:vs.length=t.length:=r2.length;rw[LW];refine⟨x,d,vs,rfl,by rw[hvl];exact l,au,rfl,?_⟩;rw[j7];have o:=df D st k;have ne:∀{b u},f b=Y u->b≠x/\b≠d:=λ{b u} e=>⟨(λq=>by subst q;rw[hx] at e;cases e),(λq=>by subst q;rw[hd] at e;cases e)⟩;have j:∀b u,f b=Y u->upd (upd f d (.own x)) x (.ins c d (fs.zip (vs++i.map V.int))) b=Y u:=λb u e=>by obtain⟨n1,n2⟩:=ne e;rw[ah n1,ah n2];exact e
 have gx:upd (upd f d (.own x)) x (.ins c d (fs.zip (vs++i.map V.int))) x=Y (.ins c d (fs.zip (vs++i.map V.int))):=au;have gd:upd (upd f d (.own x)) x (.ins c d (fs.zip (vs++i.map V.int))) d=Y (.own x):=by rw[ah hne,au]
 have al:∀b,f b≠J->upd (upd f d (.own x)) x (.ins c d (fs.zip (vs++i.map V.int))) b≠none:=λb e=>by
  cases q:f b with
  |none=>exact Rm q e
  |some u=>rw[j b u q];simp
 obtain⟨G',g1,rl⟩:=r2.to (N:=.s) λw _=>by cases M.lf w.1 w.2<;>rfl
 have rl2:RepL K (λb=>y b\/r b) f .s (M.trees t) vs no:=(RepL.sh rl).zmono λb h=>h.elim (λh=>h.imp id Nt) λh=>.inr<|g1 b h;have rl3:RepL K (λb=>y b\/r b) f .s (M.trees t++i.map M.T.int) (vs++i.map V.int) no:=RepL.append (λ_ z=>z) (λ_ z=>z) (λ_ z=>z.elim) rl2<|ji i;generalize hH:upd (upd f d<|.own x) x (.ins c d<|fs.zip<|vs++i.map V.int)=H3 at *;have sy:Stay (λb=>y b\/r b) f H3:=⟨λb u _ e=>j b u e,λb xs e=>e.imp (j b _) λ⟨u,q⟩=>⟨u,j b _ q⟩,λb u w e=>j b _ e⟩;have nn:∀b,r b->f b≠none:=λb g=>by obtain⟨_,xs,e⟩:=D.own b g;rw[e];simp
 have nz:∀b,(y b\/r b)->b≠x/\b≠d:=λb g=>by have:f b≠none:=g.elim (D.gd.zal b)<|nn b;exact⟨λq=>this<|by rw[q];exact hx,λq=>this<|by rw[q];exact hd⟩
 refine o (.ref x) (λb=>y b\/r b) H3 (λb=>b=x\/b=d) ⟨(λz=>by cases z),x,d,_,rfl,⟨.inl rfl,.inr rfl,gx,gd⟩,cf,?_,?_⟩ ?_ ?_
 .rw[LH,LB,LB];exact l
 .rw [pD];exact(rl3.keep sy (λ_ z=>z) λ_ _ z=>z.elim).mono λ_ z=>z
 .rintro b (rfl | rfl)
  .exact⟨λz=>(nz _ z).1 rfl,.ins _ _ _,gx⟩
  .exact⟨λz=>(nz _ z).2 rfl,.own _,gd⟩
 .exact⟨λb u e _=>j b u e,λ_ z=>.inl z,λb z=>z.elim .inl λg=>.inr<|.inl g,λb z=>.inr (z.elim (λe=>by rw[e];exact hx) λe=>by rw[e];exact hd),al,λz b q=>al b<|q.elim (z b)<|nn b⟩
structure PCl (P:Ro)(w:LA)(K:Ly)(mg:Str->L B)(base:Rx)(x:Str)(c:O)(fs:U Str)(cs:U I):Prop where
 ex:∃f fd ps,Mk K c f/\Binds K fd ps []/\∀k,dh P w K mg base CX0 (k+1) f fd ps (spP c fs cs)
 cf:qp K c fs
 nm:mg x=Y (.ref c)
theorem Kj {e:U I}(r:PCl X.prog X.w X.K X.mg X.base x c fs e)(l:Room (n+2) X.A)(g:SL X sf C (ea::es) bs)(k:Gl X x:=by rfl)(b:(x==("__debug__":Str))=false:=by decide)(j:Lz (ea::es) X.env=(Lv,Rz ea X.env)::Lz es X.env:=by rfl)(d:(LY pos<|Lz es X.env).any (·.1)=false:=by rfl):
  SE X sf C (.Call (.Name x p) (ea::es) [] pos) (.op (.mkP c fs e) h bs):=by
 obtain⟨f,o,ps,M,i,F⟩:=r.ex;exact aj (yJ M (F n) l k r.nm i .nil vS g b j d)<|EK r.cf
end
end MR




namespace MR
open L2 L3 M
open PySem (Addr Str sizeLine)
section
variable {K:Ly}{Wx:L2.St->VK}{sl:Cf}{sf sg:O->L O}{C:Call}{σ σ2:L2.St}{Z Z' Z1:Fp}{H H' H1:Hp}{Fs Fs' Fs1:Fps}{η η' η1 ηb:Env}{G G' G1 R F F':Fp}{tg is vs ls io:U O}{pv val:O->L V}{D:cO}
theorem zo {i:O}{b:Rj}{o:OO}{w':W}{v:V}(A:At K ⟨sf,pv⟩ σ Z H Fs η no){w0:W}(Q:rd η i=Y w0)(y:Fs i b)(hx:∀j,sf i=Y j->σ[j]?=Y (Y v))(g:∀u,pv i=Y u->v=u)(p:Stay Z H (upd H b o.ho)->Rep K Z (upd H b o.ho) w'.1 w'.2 v (Fs i)):
  At K ⟨sf,pv⟩ σ Z (upd H b o.ho) Fs (M.put η i w') no/\Step Z H (tot Fs) Z (upd H b o.ho) (tot Fs):=by
 have N:tot Fs b:=⟨i,y⟩;obtain⟨nz,ys,k⟩:=A.gd.own b N
 have d:∀a,H a≠J->upd H b o.ho a≠none:=λa h=>by
  by_cases e:a=b
  .rw[e,au];simp
  .rw[ah e];exact h
 have c:∀a u,H a=Y u->a≠b->upd H b o.ho a=Y u:=λa u e ne=>by rw[ah ne];exact e
 have stay:Stay Z H (upd H b o.ho):=⟨λa u x e=>c a u e λz=>nz<|z ▸ x,λa xs e=>by
  rcases e with e|⟨u,e⟩
  .exact .inl (c a _ e λz=>by rw[z,k] at e;exact ot e.symm)
  .exact .inr ⟨u,c a _ e λz=>by rw[z,k] at e;exact iK e.symm⟩,λa u w e=>c a _ e λz=>by rw[z,k] at e;exact iK e.symm⟩
 refine⟨⟨⟨λa ta=>?_,A.gd.dis,λa x=>d a<|A.gd.zal a x⟩,λl m t e=>?_,λa z=>z.elim,λa z=>z.elim,A.lk,A.ln⟩,⟨λa u e n=>c a u e λz=>n<|z ▸ N,λ_ z=>z,λ_ z=>.inl z,λ_ z=>.inl z,d,λz a h=>d a<|z a h⟩⟩
 .obtain ⟨s,zs,hz⟩:=A.gd.own a ta;refine⟨s,?_⟩;by_cases e:a=b
  .exact⟨o,by rw[e,au]⟩
  .exact⟨zs,by rw[ah e];exact hz⟩
 .rw [bQ] at e;split at e
  .rename_i f;obtain⟨rfl,_⟩:=f;cases e;exact⟨v,p stay,hx,g⟩
  .rename_i f;have hl:l≠i:=λz=>f ⟨z,eN Q⟩;obtain⟨u,r,h⟩:=A.env l m t e;exact⟨u,r.keep stay (λ_ z=>z) λa u P e=>c a u e λz=>hl<|A.gd.dis l i b (z ▸ P) y,h⟩
theorem ja {f:Str}{t:T}:∀{fs:U Str} {vs a:U T},d7 f t fs vs=Y a->f∈fs
| g::b,u::vs,a,e=>by
 have e:(if(g==f)=Lw then Y (t::vs) else(d7 f t b vs).map (u::·))=Y a:=e;split at e
 .rename_i h;rw[eq_of_beq h];exact LI
 .obtain ⟨z,h,_⟩:=Oy.mp e;exact LO _<|ja h
|[],_,_,e=>by cases e
|_::_,[],_,e=>by cases e
theorem lE {f:Str}{t:T}{y:V}(l:Rep K Z H .s t y no):∀{fs:U Str} {vs a:U T} {d:U V},d7 f t fs vs=Y a->RepL K Z H .s vs d no->fs.length=vs.length->∃b,L2.putF f y (fs.zip d)=fs.zip b/\RepL K Z H .s a b no/\fs.length=a.length
| g::i,u::vs,a,d,e,⟨x,k,G1,r,m,n,j,hd,p,q⟩,c=>by
 subst m;have e:(if(g==f)=Lw then Y (t::vs) else(d7 f t i vs).map (u::·))=Y a:=e;have c:i.length=vs.length:=QG c;rw[OB];split at e
 .rename_i h;cases e;refine⟨y::k,?_,⟨y,k,no,no,rfl,λ_ z=>z,λ_ z=>z,λ_ z=>z.elim,l,q.mono j⟩,by rw[LG,LG,c]⟩;unfold L2.putF;rw[Rk<|eq_of_beq h,OB]
 .rename_i h;obtain⟨z,o,rfl⟩:=Oy.mp e;obtain⟨b,e1,e2,e3⟩:=lE l o (q.mono j) c;refine⟨x::b,?_,⟨x,b,no,no,rfl,λ_ z=>z,λ_ z=>z,λ_ z=>z.elim,p.mono n,e2⟩,by rw[LG,LG,e3]⟩;unfold L2.putF;rw[Rn λz=>h<|beq_iff_eq.mpr z,OB,e1]
|[],_,_,_,e,_,_=>by cases e
|_::_,[],_,_,e,_,_=>by cases e
theorem rG {f:Str}{u w r:W}(h:fH f u w=Y r):∃m c fs vs a,u=(.o m,.obj c fs vs)/\w.2.leaf=Lw/\fs.length<1000/\d7 f w.2 fs vs=Y a/\r=(.o .s,.obj c fs a):=by
 obtain⟨m,t⟩:=u;obtain⟨n,x⟩:=w;cases m with
 |s=>cases h
 |d=>cases h
 | o m =>
  cases t with
  | obj c fs vs =>
   have h:(if(x.leaf&&decide (fs.length<1000))=Lw then(d7 f x fs vs).map λa=>((.o .s,.obj c fs a):W) else J)=Y r:=h;split at h
   .rename_i b;rw[LQ,Ru] at b;obtain⟨a,e,rfl⟩:=Oy.mp h;exact⟨m,c,fs,vs,a,rfl,b.1,b.2,e,rfl⟩
   .cases h
  |_=>cases h
theorem Bs {x:M.X}{i j:O}{f:Str}{e:E}(hs:sf i=Y j)(D:cO)(σ:L2.St)(H:Hp)(h:wS K Wx sf io C (.setP x i f e) D σ H):
  wE K sf C e σ H λy H1=>rK j σ H1 λo H2=>∃a c g fs,o=.ref a/\H2 a=Y (.ins c g fs)/\Cls K c/\NoAttr K c f/\fs.length<1000/\D.nx σ (upd H2 a<|.ins c g<|L2.putF f y fs):=by
 obtain⟨pv,Z,Fs,η,N,A,f0⟩:=h;obtain⟨⟨w,η1⟩,h2,h3⟩:=b4<|show Fin K Wx ⟨sf,pv⟩ Z H (tot Fs) D (Fl.of η (evX C x e η)<|oz i f) from f0;obtain⟨η3,k,h5⟩:=jG<|show Fin K Wx ⟨sf,pv⟩ Z H (tot Fs) D (nxO η1<|((rd η1 i).bind λu=>fH f u w).map λu=>M.put η1 i u) from h3;refine mR (sl:=⟨sf,pv⟩) A h2 λy Z' H' Fs' G b r s=>?_;cases e1:rd η1 i with
 |none=>rw[e1] at k;cases k
 | some u1 =>
  rw[e1] at k;cases e2:fH f u1 w with
  |none=>rw[show(Y u1).bind (λu=>fH f u w)=fH f u1 w from rfl,e2] at k;cases k
  |some r1=>
   rw[show(Y u1).bind (λu=>fH f u w)=fH f u1 w from rfl,e2] at k;cases k;obtain⟨m,c,fs,vs,us,rfl,t,P,d,rfl⟩:=rG e2;obtain⟨v,⟨ne,a,g,xs,rfl,⟨ga,p,ha,l⟩,n,hl,rl⟩,l4,p4⟩:=b.env i _ _ e1;have ry:Rep K Z' H' .s w.2 y no:=r.leaf (λ_ _ _ e=>e) t;obtain⟨ys,q1,q2,q3⟩:=lE ry d rl hl;have Q:(fs.zip xs).length<1000:=N6 (by rw[List.length_zip];exact Qv _ _) P;refine⟨.ref a,l4 j hs,a,c,g,fs.zip xs,rfl,ha,n.1,n.2 f<|ja d,Q,?_⟩;rw[q1];have nad:g≠a:=λz=>by rw[z,ha] at l;cases l
   obtain⟨B2,s2⟩:=zo (o:=.ins c g<|fs.zip ys) (w':=(.o .s,.obj c fs us)) b.bare e1 ga l4 p4 λst=>⟨(λz=>by cases z),a,g,ys,rfl,⟨ga,p,au,by rw[ah nad];exact l⟩,n,q3,q2.keep st (λ_ z=>z) λ_ _ z=>z.elim⟩;exact h5 σ Z' _ Fs' B2<|s.trans<|s2.mono (λ_ z=>.inl z) λ_ z=>z
end
end MR
namespace MR
open PySem PySem.Spec PyProof.Rows L2 L3
section
variable {X:Cx}{sf:O->L O}{C:M.Call}{pos p p2 apos cpos:Pos}{ea:Rv}{a:M.E}{x fld m:Str}{n c g:O}{io:U O}
theorem vf (j:O){i:O}{r:M.X}{f e:Pos}(h:SE X sf C ea a)(k:sf i=Y j:=by rfl)(hN:X.N[j]?=Y x:=by rfl)(l:Vis X.env.scope x:=by first|exact L1 rfl|exact LV (L1 rfl)|exact LV<|LV rfl)(hd:(x==("__debug__":Str))=false:=by decide)(b:(x==("__classdict__":Str))=false:=by decide)
  (d:MI ea (Y<|.Attribute (.Name x f) fld e) pos.line X.env=pure false:=by rfl):
  SS X sf io C (.Assign [.Attribute (.Name x f) fld e] ea pos) (.setP r i fld a):=
 dM (j6 (bR hN l hd b) h d) λD s H o=>Bs k D s H o
theorem fE (j:O){i:O}{h:Pos}(hs:sf i=Y j:=by rfl)(hN:X.N[j]?=Y x:=by rfl)(hv:Vis X.env.scope x:=by first|exact L1 rfl|exact LV (L1 rfl)|exact LV<|LV rfl)(hd:(x==("__debug__":Str))=false:=by decide)(o:(x==("__classdict__":Str))=false:=by decide)
  (hb:MP (.Name x h) fld X.env (Rz (.Name x h) X.env)=Rz (.Name x h) X.env:=by rfl):SE X sf C (.Attribute (.Name x h) fld pos) (.attV i fld):=
 aj (Fv (bR hN hv hd o) hb) fun σ H Q hw=>by
  obtain⟨pv,Z,F,D,w,η',A,ev,k⟩:=hw;obtain⟨w',f,h2⟩:=aq<|show M.ret D (M.attVT fld<|M.rd D i)=_ from ev;cases h2;cases e:M.rd D i with
  |none=>rw[e] at f;cases f
  | some u =>
   obtain⟨md,t0⟩:=u;rw[e] at f;cases t0 with
   | obj c fs vs =>
    have h3:((M.lookF fld fs vs).map λt=>((M.lfM t,t):M.W))=Y w:=f;obtain⟨t,ht,ew⟩:=Oy.mp h3;subst ew;obtain⟨v,r,l4,p4⟩:=A.env i _ _ e;obtain⟨G,dx,xs,rfl,q1,q2,P,l,rl⟩:=pk r;obtain⟨y,ly,mf,ry⟩:=lW ht rl;refine⟨.ref G,l4 j hs,G,c,dx,_,y,rfl,q1,P.1,P.2 fld mf,ly,?_⟩;refine k y Z H F no A ?_<|(Step.refl Z H<|tot F).mono (λ_ z=>z) λb z=>z.elim id λy=>y.elim;show Rep X.K Z H (if t.leaf=Lw then .d else .s) t y no;split
    .rename_i hl;exact ry.leaf (λ_ _ _ q=>q) hl
    .exact ry
   |_=>cases f
theorem qB {X:Cx}:dN X (.type "str") (λe H Q=>(∃i,e=[.int i]/\i.natAbs<10000000000000000000/\Q (.str<|Str.ofString<|toString i) H)\/∃z,e=[.str z]/\Q (.str z) H):=by
 intro d s k H e j Q b r h;rcases h with h|⟨z,rfl,q⟩
 .exact jy d s k H e j Q b r h
 .obtain ⟨u,rfl,f⟩:=dQ r;obtain⟨t,rfl⟩:=f;exact PySem.P.str_of_str ⟨.str z,H,b,⟨_,rfl⟩,q⟩
theorem wB {K:Ly}{h:Rl}:Loc K 1 .strX h λb H Q=>(∃i,b=[.int i]/\i.natAbs<10000000000000000000/\Q (.str<|Str.ofString<|toString i) H)\/∃z,b=[.str z]/\Q (.str z) H:=by
 intro j w b Z H G Q d e r f l k
 match j,d with
 | [(m,a)],_ =>
  cases a with
  |int i=>exact .inl<|oE (h:=h) [(m,.int i)] w b Z H G Q rfl e r f l k
  |str z=>obtain⟨x,rfl,r1⟩:=bc rfl r;cases e;exact .inr ⟨z,by rw[show x=_ from r1.1],fB k r1.2⟩
  |_=>cases e
theorem Ie {h:Rl}(hm:X.mg "str"=J)(e:Gl X "str":=by rfl)(ha:SE X sf C ea a)(d:Lz [ea] X.env=(Lv,Rz ea X.env)::Lz [] X.env:=by rfl)(b:(LY pos<|Lz [] X.env).any (·.1)=false:=by rfl):SE X sf C (.Call (.Name "str" p) [ea] [] pos) (.op .strX h [a]):=
 aj (cI qB e hm Ow (slc ha sl0 d) (by decide) (by decide) d b) (eO wB rfl)
structure Dm (K:Ly)(c:O)(x qual:Str)(st:Ry)(ps:U Str):Prop where
 ex:∃f fd,L2.Fun K x qual st f fd/\Binds K fd ps []/\yK K c x f
 cl:Cls K c
def dC (P:Ro)(w:LA)(K:Ly)(h:Str->L B)(b:Rx)(n:O)(C:M.Call)(c:O)(x:Str)(f:O)(io:U O):Prop:=
 Cls K c/\∃d e ps,dh P w K h b CX0 n d e ps (spS K C f io)/\yK K c x d/\Binds K e ps []
section
variable {P:Ro}{w:LA}{K:Ly}{mg:Str->L B}{base:Rx}{x qual:Str}{st:Ry}{ps N:U Str}{n g c:O}{io:U O}{C C':M.Call}
theorem Dm.z (e:Dm K c x qual st ps)(h:∀i,C g i=.no:=by intro _;rfl):dC P w K mg base n C c x g io:=by obtain⟨f,d,F,b,m⟩:=e.ex;exact⟨e.cl,f,d,ps,fn0 h,m,b⟩
theorem Dm.s (d:M.Fn)(e:Dm K c x qual st ps)(S:af N ps<|defScope st)
  (y:∀{f:Rj} {k:B} {A:LS} {j:U Env} {s:Lx} {H:Hp} {E:XK},Room n (A.deeper<|MC qual (defScope st) s.heap.objs.size f k)->SSs (iT CX0 P w K mg base N qual (defScope st) f k A j s H E).nox (slN N.length) d.io C (defBody st) d.body)
  (v:∀t,C' g t=M.runF C d t:=by intro _;rfl) (r:d.ps=ps.length:=by rfl) (o:ps.length<=N.length:=by decide) (z:d.io.Nodup:=by decide) (l:∀i∈d.io,i<ps.length:=by decide):dC P w K mg base (n+1) C' c x g d.io:=by
 obtain⟨f,u,F,b,m⟩:=e.ex;exact⟨e.cl,f,u,ps,Fun.okM F S r o z l (λ_ _ _ _ _ _ h=>y h) v,m,b⟩
def jM:Ry->U Ry
|.ClassDef _ _ _ b _ _ _ _ _ _ _=>b
|_=>[]
end
theorem gQ {m:Str}:∀{fs:U Str} {b:U V},m ∉ fs->(fs.zip b).lookup m=J
|[],_,_=>rfl
|_::_,[],_=>rfl
|g::d,x::b,h=>by rw[OB,Na,show(m==g)=Lv from beq_eq_false_iff_ne.mpr λz=>h<|z ▸ LI];exact gQ λz=>h<|LO _ z
theorem ic (j:O){i:O}{G:Pos}(k:dC X.prog X.w X.K X.mg X.base n C c m g [0])(hr:Room n X.A)(hs:sf i=Y j:=by rfl)(hN:X.N[j]?=Y x:=by rfl)(hv:Vis X.env.scope x:=by first|exact L1 rfl|exact LV (L1 rfl)|exact LV<|LV rfl)(hd:(x==("__debug__":Str))=false:=by decide)(y:(x==("__classdict__":Str))=false:=by decide)
  {pl:Sem Rl}
  (ht:Rz (.Call (.Attribute (.Name x G) m apos) [] [] pos) X.env=(do
   let ov <- Rz (.Name x G) X.env
   standAt apos.atName
   let (f,first) <- holding [ov] (R1 ov m pl)
   callWith pos f first (LY pos<|Lz [] X.env) (Nj pos<|Nm [] X.env)):=by rfl):
  SE X sf C (.Call (.Attribute (.Name x G) m apos) [] [] pos) (.meth c g i):=by
 obtain⟨cl,fa,fd,ps,F,mt,hb⟩:=k;refine aj (vY (E:=E0) (bR hN hv hd y) cl mt F hr hb .nil vS ht) λP H Q hw=>?_;obtain⟨pv,Z,Fs,b,w,l,A,ev,kk⟩:=hw;obtain⟨u,h,h2⟩:=ae<|show(M.ofO<|M.methT c<|M.rd b i).bind (M.kMeth C g i b)=_ from ev;have h:=cX h;cases e:M.rd b i with
 |none=>rw[e] at h;cases h
 | some u0 =>
  obtain⟨md,t0⟩:=u0;rw[e] at h;cases t0 with
  | obj d fs vs =>
   have t:(if d=c then Y ((md,.obj d fs vs):M.W) else J)=Y u:=h;split at t
   .rename_i D;subst D;cases t;have s:M.evE C (.call g [.io i]) b=.ok (w,l):=by show(((M.Res.ok (([]:U M.W),b)).bind (M.kIo i)).bind (M.kCall C g [i]))=_;show((M.ofO (M.rd b i)).bind (λw=>M.Res.ok ([w],M.del b i))).bind (M.kCall C g [i])=_;rw[e];exact h2
    obtain⟨v,e5,q⟩:=jC hs P H _<|oC (io:=[0]) (.inl rfl) P H Q ⟨pv,Z,Fs,b,w,l,A,s,kk⟩;have q2:=vg P H _ q;obtain⟨v',r,o,_⟩:=A.env i _ _ e;have o:=o j hs;rw[e5] at o;cases o;obtain⟨a',dx,xs,rfl,q1,_,cf,_,_⟩:=pk r;refine⟨.ref a',e5,a',dx,fs.zip xs,rfl,q1,gQ λz=>?_,q2⟩;have e6:=(show Mp X.K (.ref d) m=Y J from cf.2 m z).symm.trans mt.at_;cases e6
   .cases t
  |_=>cases h
end
end MR

namespace A12
open M
open PySem (Str)
noncomputable abbrev q:=Str.ofString
noncomputable abbrev ba:O:=304
noncomputable def keys_AHEAD:U Str:=[q "num",q "name",q "none",q "let",q "each",q "times"]
noncomputable def tab_AHEAD:U (Str×T):=[(q "num",.str<|q "number"),(q "name",.str<|q "name"),(q "none",.str<|q "kind"),(q "let",.str<|q "name"),(q "each",.str<|q "name"),(q "times",.str<|q "name")]
noncomputable def tab_BINDING:U (Str×T):=[(q "let",.int 1),(q "each",.int 1),(q "times",.int 2)]
noncomputable def keys_PARTS:U Str:=[q "num",q "yes",q "no",q "name",q "none",q "not",q "first",q "second",q "one",q "upto",q "long",q "sum",q "sums",q "most",q "flat",q "add",q "sub",q "mul",q "div",q "rest",q "less",q "same",q "both",q "pair",q "pick",q "join",q "keep",q "cut",q "let",q "if",q "each",q "times"]
noncomputable def tab_PARTS:U (Str×T):=[(q "num",.int 0),(q "yes",.int 0),(q "no",.int 0),(q "name",.int 0),(q "none",.int 0),(q "not",.int 1),(q "first",.int 1),(q "second",.int 1),(q "one",.int 1),(q "upto",.int 1),(q "long",.int 1),(q "sum",.int 1),(q "sums",.int 1),(q "most",.int 1),(q "flat",.int 1),(q "add",.int 2),(q "sub",.int 2),(q "mul",.int 2),(q "div",.int 2),(q "rest",.int 2),(q "less",.int 2),(q "same",.int 2),(q "both",.int 2),(q "pair",.int 2),(q "pick",.int 2),(q "join",.int 2),(q "keep",.int 2),(q "cut",.int 2),(q "let",.int 2),(q "if",.int 3),(q "each",.int 2),(q "times",.int 3)]
noncomputable def keys_WITHIN:U Str:=[q "num",q "truth",q "pair",q "row"]
noncomputable def tab_WITHIN:U (Str×T):=[(q "num",.int 0),(q "truth",.int 0),(q "pair",.int 2),(q "row",.int 1)]
noncomputable def cJ:Fn:={ps:=1,ns:=0,io:=[],body:=[
  .ret [] (.call 216 [.mv 0,.cst<|.int 5])]}
noncomputable def aZ:Fn:={ps:=2,ns:=1,io:=[],body:=[
  .ite (.q [0,1] []) (.or (.op .eq Lv [.var 1,.cst (.int 0)]) (.or (.not (.op (.isI ["tuple"]) Lv [.var 0])) (.op .eq Lv [.op .len Lv [.var 0],.cst (.int 0)]))) [
   .ret [] (.cst<|.bl Lv)] [],
  .ite (.q [0] []) (.or (.not (.op (.isI ["str"]) Lv [.op .ix Lv [.var 0,.cst (.int 0)]])) (.inT Lw keys_WITHIN (.op .ix Lv [.var 0,.cst (.int 0)]))) [
   .ret [] (.cst<|.bl Lv)] [],
  .ite (.q [0] []) (.op .ne Lv [.op .len Lv [.var 0],.op .add Lv [.cst (.int 1),.ixT tab_WITHIN (.op .ix Lv [.var 0,.cst (.int 0)])]]) [
   .ret [] (.cst<|.bl Lv)] [],
  .ret [1] (.op .all Lv [.comp Lv .seq [.op .sl1 Lv [.mv 0,.cst<|.int 1]] [2] J<|.call 216 [.var 2,.op .sub Lv [.var 1,.cst<|.int 1]]])]}
noncomputable def a7:Fn:={ps:=1,ns:=1,io:=[],body:=[
  .ret [0] (.op .join Lv [.cst<|.str<|q " ",.op .add Lv [.lst Lv [.op .ix Lv [.var 0,.cst<|.int 0]],.comp Lv .seq [.op .sl1 Lv [.var 0,.cst<|.int 1]] [1] J<|.call 364 [.var 1]]])]}
noncomputable def cn:Fn:={ps:=2,ns:=0,io:=[],body:=[
  .ret [] (.call 367 [.mv 0,.mv 1,.cst<|.int 5])]}
noncomputable def av:Fn:={ps:=3,ns:=5,io:=[],body:=[
  .ite (.q [0,1] []) (.or (.op .ge Lv [.var 1,.op .len Lv [.var 0]]) (.inT Lw keys_WITHIN (.op .ix Lv [.var 0,.var 1]))) [
   .stop] [],
  .asg (.q [0,1] []) 3 (.ixT tab_WITHIN<|.op .ix Lv [.var 0,.var 1]),
  .ite (.q [2] [3]) (.and (.op .gt Lv [.var 3,.cst (.int 0)]) (.op .eq Lv [.var 2,.cst (.int 1)])) [
   .stop] [],
  .asg (.q [0,1] []) 4 (.lst Lv [.op .ix Lv [.var 0,.var 1]]),
  .asg (.q [1] []) 5 (.op .add Lv [.var 1,.cst<|.int 1]),
  .forS [] [3] .rng [.var 3] [6] [
   .asg (.q [0,2] [5]) 7 (.call 367 [.var 0,.var 5,.op .sub Lv [.var 2,.cst<|.int 1]]),
   .app (.q [7] []) 4 (.op .ix Lv [.var 7,.cst<|.int 0]),
   .asg (.q [7] []) 5 (.op .ix Lv [.var 7,.cst<|.int 1])],
  .ret [] (.tup [.op .tuple Lv [.mv 4],.mv 5])]}
noncomputable def cR:Fn:={ps:=2,ns:=0,io:=[],body:=[
  .ite (.q [0] []) (.op .eq Lv [.op .ix Lv [.var 0,.cst (.int 0)],.cst (.str (q "num"))]) [
   .ret [] (.call 3 [.mv 1])] [],
  .ite (.q [0] []) (.op .eq Lv [.op .ix Lv [.var 0,.cst (.int 0)],.cst (.str (q "truth"))]) [
   .ret [] (.op (.isI ["bool"]) Lv [.mv 1])] [],
  .ite (.q [0] []) (.op .eq Lv [.op .ix Lv [.var 0,.cst (.int 0)],.cst (.str (q "pair"))]) [
   .ret [] (.call 4 [.mv 0,.mv 1])] [],
  .ret [] (.call 5 [.mv 0,.mv 1])]}
noncomputable def bI:Fn:={ps:=1,ns:=0,io:=[],body:=[
  .ite (.q [0] []) (.or (.not (.op (.isI ["int"]) Lv [.var 0])) (.op (.isI ["bool"]) Lv [.var 0])) [
   .ret [] (.cst<|.bl Lv)] [],
  .ret [] (.chain .le .le (.op .neg Lv [.cst<|.int 1000000000000000000]) (.mv 0)<|.cst<|.int 1000000000000000000)]}
noncomputable def bK:Fn:={ps:=1,ns:=2,io:=[],body:=[
  .ite (.q [0] []) (.op (.isI ["bool"]) Lv [.var 0]) [
   .ret [] (.ifx (.mv 0) (.cst<|.str<|q "yes")<|.cst<|.str<|q "no")] [],
  .ite (.q [0] []) (.op (.isI ["int"]) Lv [.var 0]) [
   .ret [] (.op .str Lv [.mv 0])] [],
  .asg (.q [0] []) 1 (.comp Lv .seq [.var 0] [2] J<|.call 162 [.var 2]),
  .ite (.q [0] []) (.op (.isI ["tuple"]) Lv [.var 0]) [
   .ret [] (.op .join Lv [.cst<|.str<|q " ",.mv 1])] [],
  .ret [] (.op .join Lv [.cst<|.str<|q " ",.op .add Lv [.op .add Lv [.lst Lv [.cst<|.str<|q "["],.mv 1],.lst Lv [.cst<|.str<|q "]"]]])]}
noncomputable def bM:Fn:={ps:=3,ns:=1,io:=[],body:=[
  .ite (.q [0] []) (.op .eq Lv [.op .ix Lv [.var 0,.cst (.int 0)],.cst (.str (q "pair"))]) [
   .ret [] (.call 167 [.mv 0,.mv 1,.mv 2])] [],
  .ite (.q [0] []) (.op .eq Lv [.op .ix Lv [.var 0,.cst (.int 0)],.cst (.str (q "row"))]) [
   .ret [] (.call 168 [.mv 0,.mv 1,.mv 2])] [],
  .ite (.q [1,2] []) (.op .ge Lv [.var 2,.op .len Lv [.var 1]]) [
   .stop] [],
  .asg (.q [0,1,2] []) 3 (.ifx (.op .eq Lv [.op .ix Lv [.var 0,.cst<|.int 0],.cst<|.str<|q "num"]) (.call 165 [.op .ix Lv [.var 1,.var 2]])<|.call 166 [.op .ix Lv [.var 1,.var 2]]),
  .ite (.q [3] []) (.op .is Lv [.var 3,.cst (.non)]) [
   .stop] [],
  .ret [] (.tup [.mv 3,.op .add Lv [.mv 2,.cst<|.int 1]])]}
noncomputable def cq:Fn:={ps:=1,ns:=1,io:=[],body:=[
  .tri [
   .asg (.q [0] []) 1 (.op .intS Lv [.var 0])],
  .ite (.q [0] [1]) (.or (.op .ne Lv [.op .str Lv [.var 1],.var 0]) (.not (.call 3 [.var 1]))) [
   .ret [] (.cst<|.non)] [],
  .ret [] (.mv 1)]}
noncomputable def bz:Fn:={ps:=1,ns:=1,io:=[],body:=[
  .ite (.q [0] []) (.or (.not (.op (.isI ["str"]) Lv [.var 0])) (.not (.chain .le .le (.cst (.int 1)) (.op .len Lv [.var 0]) (.cst (.int 8))))) [
   .ret [] (.cst<|.bl Lv)] [],
  .ite (.q [0] []) (.or (.inT Lv keys_PARTS (.var 0)) (.op .isin Lv [.var 0,.tup [.cst (.str (q "truth")),.cst (.str (q "row"))]])) [
   .ret [] (.cst<|.bl Lv)] [],
  .ret [] (.op .all Lv [.comp Lv .chr [.mv 0] [1] J<|.chain .leS .leS (.cst<|.str<|q "a") (.var 1)<|.cst<|.str<|q "z"])]}
noncomputable def aO:Fn:={ps:=1,ns:=2,io:=[],body:=[
  .ite (.q [0] []) (.or (.not (.op (.isI ["tuple"]) Lv [.var 0])) (.op .eq Lv [.op .len Lv [.var 0],.cst (.int 0)])) [
   .ret [] (.cst<|.bl Lv)] [],
  .ite (.q [0] []) (.or (.not (.op (.isI ["str"]) Lv [.op .ix Lv [.var 0,.cst (.int 0)]])) (.inT Lw keys_PARTS (.op .ix Lv [.var 0,.cst (.int 0)]))) [
   .ret [] (.cst<|.bl Lv)] [],
  .asg (.q [0] []) 1 (.call 175 [.op .ix Lv [.var 0,.cst<|.int 0]]),
  .ite (.q [0] [1]) (.op .ne Lv [.op .len Lv [.var 0],.op .add Lv [.var 1,.ixT tab_PARTS (.op .ix Lv [.var 0,.cst (.int 0)])]]) [
   .ret [] (.cst<|.bl Lv)] [],
  .ite (.q [0] [1]) (.and (.op .eq Lv [.var 1,.cst (.int 2)]) (.not (.call 228 [.ixT tab_AHEAD (.op .ix Lv [.var 0,.cst (.int 0)]),.op .ix Lv [.var 0,.cst (.int 1)]]))) [
   .ret [] (.cst<|.bl Lv)] [],
  .ret [] (.op .all Lv [.comp Lv .seq [.op .sl1 Lv [.mv 0,.mv 1]] [2] J<|.call 227 [.var 2]])]}
noncomputable def aB:Fn:={ps:=2,ns:=0,io:=[],body:=[
  .ite (.q [0] []) (.op .eq Lv [.var 0,.cst (.str (q "number"))]) [
   .ret [1] (.and (.call 2 [.tup [.cst<|.str<|q "num"],.var 1])<|.op .ge Lv [.var 1,.cst<|.int 0])] [],
  .ite (.q [0] []) (.op .eq Lv [.var 0,.cst (.str (q "kind"))]) [
   .ret [] (.call 215 [.mv 1])] [],
  .ret [] (.call 226 [.mv 1])]}
noncomputable def bg:Fn:={ps:=1,ns:=0,io:=[],body:=[
  .ret [] (.ifx (.inT Lv keys_AHEAD<|.mv 0) (.cst<|.int 2)<|.cst<|.int 1)]}
noncomputable def eD:Fn:={ps:=1,ns:=0,io:=[],body:=[
  .ret [0] (.op .sl1 Lv [.var 0,.call 175 [.op .ix Lv [.var 0,.cst<|.int 0]]])]}
noncomputable def bA:Fn:={ps:=2,ns:=0,io:=[],body:=[
  .ret [0] (.op .add Lv [.op .sl2 Lv [.var 0,.call 175 [.op .ix Lv [.var 0,.cst<|.int 0]]],.op .tuple Lv [.mv 1]])]}
noncomputable def dq:Fn:={ps:=1,ns:=0,io:=[],body:=[
  .ret [] (.getT tab_BINDING<|.op .ix Lv [.mv 0,.cst<|.int 0])]}
noncomputable def dU:Fn:={ps:=1,ns:=1,io:=[],body:=[
  .asg (.q [] []) 1 (.lst Lv []),
  .exp (.l [0]) (.call 254 [.var 0,.tup [],.io 1]),
  .ret [] (.mv 1)]}
noncomputable def bW:Fn:={ps:=3,ns:=2,io:=[2],body:=[
  .forS [0] [] .enmT [.call 176 [.var 0]] [3,4] [
   .exp (.l [1,4]) (.call 254 [.var 4,.op .catT Lv [.var 1,.tup [.var 3]],.io 2])],
  .app (.q [1] []) 2 (.var 1)]}
noncomputable def aP:Fn:={ps:=1,ns:=2,io:=[],body:=[
  .ite (.q [0] []) (.or (.not (.op (.isI ["tuple"]) Lv [.var 0])) (.op .ne Lv [.op .len Lv [.var 0],.cst (.int 2)])) [
   .ret [] (.cst<|.bl Lv)] [],
  .ite (.q [0] []) (.or (.not (.call 508 [.op .ix Lv [.var 0,.cst (.int 0)]])) (.not (.call 227 [.op .ix Lv [.var 0,.cst (.int 1)]]))) [
   .ret [] (.cst<|.bl Lv)] [],
  .asg (.q [0] []) 1 (.call 253 [.op .ix Lv [.var 0,.cst<|.int 1]]),
  .ite (.q [1] []) (.or (.op .gt Lv [.op .len Lv [.var 1],.cst (.int 200)]) (.op .ge Lv [.op .max1 Lv [.comp Lv .seq [.var 1] [2] J (.op .len Lv [.var 2])],.cst (.int 20)])) [
   .ret [] (.cst<|.bl Lv)] [],
  .ret [0] (.call 243 [.op .ix Lv [.var 0,.cst<|.int 1],.call 509 [.op .ix Lv [.var 0,.cst<|.int 0]]])]}
noncomputable def bH:Fn:={ps:=1,ns:=1,io:=[],body:=[
  .ite (.q [0] []) (.or (.not (.op (.isI ["tuple"]) Lv [.var 0])) (.op .gt Lv [.op .len Lv [.var 0],.cst (.int 6)])) [
   .ret [] (.cst<|.bl Lv)] [],
  .ite (.q [0] []) (.not (.op .all Lv [.comp Lv .seq [.var 0] [1] J (.call 241 [.var 1])])) [
   .ret [] (.cst<|.bl Lv)] [],
  .ret [0] (.op .eq Lv [.op .lenSet Lv [.call 509 [.var 0]],.op .len Lv [.var 0]])]}
noncomputable def dn:Fn:={ps:=1,ns:=0,io:=[],body:=[
  .ite (.q [0] []) (.or (.not (.op (.isI ["tuple"]) Lv [.var 0])) (.op .ne Lv [.op .len Lv [.var 0],.cst (.int 2)])) [
   .ret [] (.cst<|.bl Lv)] [],
  .ret [0] (.and (.call 226 [.op .ix Lv [.var 0,.cst<|.int 0]])<|.call 215 [.op .ix Lv [.var 0,.cst<|.int 1]])]}
noncomputable def b7:Fn:={ps:=1,ns:=1,io:=[],body:=[
  .ret [] (.op .tuple Lv [.comp Lw .seq [.mv 0] [1] J<|.op .ix Lv [.var 1,.cst<|.int 0]])]}
noncomputable def aI:Fn:={ps:=2,ns:=3,io:=[],body:=[
  .asg (.q [0] []) 2 (.call 233 [.var 0]),
  .ite (.q [0,1,2] []) (.and (.op .isnot Lv [.var 2,.cst (.non)]) (.op .isin Lv [.op .ix Lv [.var 0,.cst (.int 1)],.var 1])) [
   .ret [] (.cst<|.bl Lv)] [],
  .forS [0] [] .enmT [.call 176 [.var 0]] [3,4] [
   .ite (.q [0,1,2,4] [3]) (.not (.call 243 [.var 4,.ifx (.op .eq Lv [.var 3,.var 2]) (.op .catT Lv [.var 1,.tup [.op .ix Lv [.var 0,.cst (.int 1)]]]) (.var 1)])) [
    .ret [] (.cst<|.bl Lv)] []],
  .ret [] (.cst<|.bl Lw)]}
noncomputable def bw:Fn:={ps:=1,ns:=3,io:=[],body:=[
  .asg (.q [] []) 1 (.lst Lv []),
  .forS [0] [] .sq2T [.op .ix Lv [.var 0,.cst (.int 0)]] [2,3] [
   .app (.q [2] []) 1 (.var 2),
   .app (.q [3] []) 1 (.call 364 [.var 3])],
  .app (.q [] []) 1 (.cst<|.str<|q ":"),
  .app (.q [0] []) 1 (.call 490 [.op .ix Lv [.var 0,.cst<|.int 1]]),
  .ret [] (.op .join Lv [.cst<|.str<|q " ",.mv 1])]}
noncomputable def aR:Fn:={ps:=1,ns:=2,io:=[],body:=[
  .ite (.q [0] []) (.op .eq Lv [.op .ix Lv [.var 0,.cst (.int 0)],.cst (.str (q "num"))]) [
   .ret [] (.call 162 [.op .ix Lv [.mv 0,.cst<|.int 1]])] [],
  .ite (.q [0] []) (.op .eq Lv [.op .ix Lv [.var 0,.cst (.int 0)],.cst (.str (q "name"))]) [
   .ret [] (.op .ix Lv [.mv 0,.cst<|.int 1])] [],
  .ite (.q [0] []) (.op .eq Lv [.op .ix Lv [.var 0,.cst (.int 0)],.cst (.str (q "none"))]) [
   .ret [] (.op .add Lv [.cst<|.str<|q "none ",.call 364 [.op .ix Lv [.mv 0,.cst<|.int 1]]])] [],
  .asg (.q [0] []) 1 (.ifx (.op .is Lv [.call 233 [.var 0],.cst<|.non]) (.lst Lv [.op .ix Lv [.var 0,.cst<|.int 0]])<|.lst Lv [.op .ix Lv [.var 0,.cst<|.int 0],.op .ix Lv [.var 0,.cst<|.int 1]]),
  .ret [] (.op .join Lv [.cst<|.str<|q " ",.op .add Lv [.mv 1,.comp Lv .seq [.call 176 [.mv 0]] [2] J<|.call 490 [.var 2]]])]}
noncomputable def br:Fn:={ps:=1,ns:=3,io:=[],body:=[
  .asg (.q [0] []) 1 (.op (.mkP ba [q "words",q "at",q "spare"] [0,199]) Lv [.op .split Lv [.var 0,.cst<|.str<|q " "]]),
  .asg (.l []) 2 (.call 511 [.io 1]),
  .asg (.l [2]) 3 (.call 495 [.io 1,.call 509 [.var 2],.cst<|.int 1]),
  .ite (.l []) (.op .isnot Lv [.meth ba 505 1,.cst (.non)]) [
   .stop] [],
  .ret [] (.tup [.mv 2,.mv 3])]}
noncomputable def bN:Fn:={ps:=1,ns:=2,io:=[0],body:=[
  .asg (.q [] []) 1 (.lst Lv []),
  .whl (.l []) (.op .ne Lv [.meth ba 505 0,.cst (.str (q ":"))]) [
   .ite (.q [1] []) (.op .eq Lv [.op .len Lv [.var 1],.cst (.int 6)]) [
    .stop] [],
   .asg (.l []) 2 (.call 493 [.io 0,.qx [1] []<|.call 509 [.var 1]]),
   .app (.l [2]) 1 (.tup [.var 2,.call 494 [.io 0]])],
  .exp (.l []) (.meth ba 506 0),
  .ret [] (.op .tuple Lv [.mv 1])]}
noncomputable def cw:Fn:={ps:=2,ns:=1,io:=[0],body:=[
  .asg (.l []) 2 (.meth ba 505 0),
  .ite (.q [1,2] []) (.or (.not (.call 226 [.var 2])) (.op .isin Lv [.var 2,.var 1])) [
   .stop] [],
  .exp (.l []) (.meth ba 506 0),
  .ret [] (.mv 2)]}
noncomputable def cy:Fn:={ps:=1,ns:=1,io:=[0],body:=[
  .asg (.l []) 1 (.call 366 [.attV 0<|q "words",.attV 0<|q "at"]),
  .setP (.q [1] []) 0 (q "at") (.op .ix Lv [.var 1,.cst<|.int 1]),
  .ret [] (.op .ix Lv [.mv 1,.cst<|.int 0])]}
noncomputable def aK:Fn:={ps:=3,ns:=2,io:=[0],body:=[
  .asg (.l []) 3 (.call 497 [.meth ba 505 0]),
  .ite (.q [3] []) (.op .is Lv [.var 3,.cst (.non)]) [
   .stop] [],
  .asg (.q [3] []) 4 (.op .len Lv [.call 176 [.var 3]]),
  .ite (.l [2]) (.or (.op .gt Lv [.var 4,.attV 0 (q "spare")]) (.and (.op .gt Lv [.var 4,.cst (.int 0)]) (.op .eq Lv [.var 2,.cst (.int 20)]))) [
   .stop] [],
  .setP (.l []) 0 (q "spare") (.op .sub Lv [.attV 0<|q "spare",.var 4]),
  .exp (.l []) (.meth ba 506 0),
  .ite (.q [3] []) (.op .eq Lv [.op .ix Lv [.var 3,.cst (.int 0)],.cst (.str (q "none"))]) [
   .ret [] (.tup [.cst<|.str<|q "none",.call 494 [.io 0]])] [],
  .ite (.q [3] []) (.op .isnot Lv [.call 233 [.var 3],.cst (.non)]) [
   .asg (.l [1,3]) 3 (.op .add Lv [.tup [.op .ix Lv [.var 3,.cst<|.int 0],.call 493 [.io 0,.var 1]],.call 176 [.var 3]])] [],
  .ret [3] (.call 334 [.var 3,.call 496 [.io 0,.var 3,.mv 1,.mv 2]])]}
noncomputable def bU:Fn:={ps:=4,ns:=3,io:=[0],body:=[
  .asg (.q [] []) 4 (.lst Lv []),
  .forS [1] [] .rng [.op .len Lv [.call 176 [.var 1]]] [5] [
   .asg (.q [1,2] [5]) 6 (.ifx (.op .eq Lv [.var 5,.call 233 [.var 1]]) (.op .catT Lv [.var 2,.tup [.op .ix Lv [.var 1,.cst<|.int 1]]])<|.var 2),
   .app (.l [3,6]) 4 (.call 495 [.io 0,.var 6,.op .add Lv [.var 3,.cst<|.int 1]])],
  .ret [] (.mv 4)]}
noncomputable def bF:Fn:={ps:=1,ns:=1,io:=[],body:=[
  .ite (.q [0] []) (.op .is Lv [.var 0,.cst (.non)]) [
   .ret [] (.cst<|.non)] [],
  .ite (.q [0] []) (.call 226 [.var 0]) [
   .ret [] (.tup [.cst<|.str<|q "name",.mv 0])] [],
  .ite (.q [0] []) (.op .eq Lv [.var 0,.cst (.str (q "none"))]) [
   .ret [] (.tup [.cst<|.str<|q "none",.tup [.cst<|.str<|q "num"]])] [],
  .forS [] [] .seq [.glb (q "BLANKS") (.tup [.tup [],.tup [.tup [.str (q "yes")]],.tup [.tup [.str (q "yes")],.tup [.str (q "yes")]],.tup [.tup [.str (q "yes")],.tup [.str (q "yes")],.tup [.str (q "yes")]],.tup [.str (q "x"),.tup [.str (q "yes")],.tup [.str (q "yes")]],.tup [.str (q "x"),.tup [.str (q "yes")],.tup [.str (q "yes")],.tup [.str (q "yes")]]])] [1] [
   .ite (.q [0,1] []) (.call 227 [.op .add Lv [.tup [.var 0],.var 1]]) [
    .ret [] (.op .add Lv [.tup [.mv 0],.mv 1])] []],
  .ret [] (.call 498 [.mv 0])]}
noncomputable def bu:Fn:={ps:=1,ns:=1,io:=[],body:=[
  .tri [
   .asg (.q [0] []) 1 (.call 164 [.tup [.cst<|.str<|q "num"],.lst Lv [.var 0],.cst<|.int 0])],
  .ret [1] (.ifx (.op .ge Lv [.op .ix Lv [.var 1,.cst<|.int 0],.cst<|.int 0]) (.tup [.cst<|.str<|q "num",.op .ix Lv [.var 1,.cst<|.int 0]])<|.cst<|.non)]}
noncomputable def aU:Fn:={ps:=2,ns:=1,io:=[],body:=[
  .asg (.q [] [0]) 2 (.op .mod Lv [.var 0,.cst<|.int 6]),
  .ite (.q [] [1,2]) (.or (.op .eq Lv [.var 1,.cst (.int 0)]) (.op .lt Lv [.var 2,.cst (.int 2)])) [
   .ret [] (.op .ix Lv [.lst Lv [.tup [.cst<|.str<|q "num"],.tup [.cst<|.str<|q "truth"]],.op .mod Lv [.mv 0,.cst<|.int 2]])] [],
  .ite (.q [] [2]) (.op .eq Lv [.var 2,.cst (.int 2)]) [
   .ret [] (.tup [.cst<|.str<|q "pair",.call 171 [.op .fdiv Lv [.var 0,.cst<|.int 6],.op .sub Lv [.var 1,.cst<|.int 1]],.call 171 [.op .fdiv Lv [.var 0,.cst<|.int 216],.op .sub Lv [.var 1,.cst<|.int 1]]])] [],
  .ret [] (.tup [.cst<|.str<|q "row",.call 171 [.op .fdiv Lv [.mv 0,.cst<|.int 6],.op .sub Lv [.mv 1,.cst<|.int 1]]])]}
noncomputable def cN:Fn:={ps:=1,ns:=3,io:=[],body:=[
  .asg (.q [] [0]) 1 (.op .ix Lv [.lst Lv [.cst<|.str<|q "x",.cst<|.str<|q "addx",.cst<|.str<|q "rowe",.cst<|.str<|q "numb",.cst<|.str<|q "ab",.cst<|.str<|q "z",.cst<|.str<|q "abcdefgh",.cst<|.str<|q "nots",.cst<|.str<|q "truths",.cst<|.str<|q "y"],.op .mod Lv [.op .fdiv Lv [.var 0,.cst<|.int 5],.cst<|.int 10]]),
  .asg (.q [] [0]) 2 (.op .ix Lv [.lst Lv [.cst<|.int 0,.cst<|.int 1,.op .pow Lv [.cst<|.int 10,.cst<|.int 18],.cst<|.int 5,.op .mod Lv [.var 0,.op .add Lv [.op .pow Lv [.cst<|.int 10,.cst<|.int 18],.cst<|.int 1]]],.op .mod Lv [.op .fdiv Lv [.var 0,.cst<|.int 5],.cst<|.int 5]]),
  .asg (.q [1] [0,2]) 3 (.lst Lv [.tup [.cst<|.str<|q "num",.var 2],.tup [.cst<|.str<|q "yes"],.tup [.cst<|.str<|q "no"],.tup [.cst<|.str<|q "name",.var 1],.tup [.cst<|.str<|q "none",.call 171 [.op .fdiv Lv [.var 0,.cst<|.int 5],.cst<|.int 2]]]),
  .ret [] (.op .ix Lv [.mv 3,.op .mod Lv [.mv 0,.cst<|.int 5]])]}
noncomputable def f_law_tree:Fn:={ps:=2,ns:=6,io:=[0],body:=[
  .asg (.l []) 2 (.ifx (.op .gt Lv [.lenV 0,.cst<|.int 0]) (.pop 0 [])<|.cst<|.int 0),
  .ite (.q [] [1,2]) (.or (.op .eq Lv [.var 1,.cst (.int 0)]) (.op .eq Lv [.op .mod Lv [.var 2,.cst (.int 5)],.cst (.int 0)])) [
   .ret [] (.call 499 [.op .fdiv Lv [.mv 2,.cst<|.int 5]])] [],
  .asg (.q [] []) 3 (.lst Lv [.cst<|.str<|q "not",.cst<|.str<|q "first",.cst<|.str<|q "second",.cst<|.str<|q "one",.cst<|.str<|q "upto",.cst<|.str<|q "long",.cst<|.str<|q "sum",.cst<|.str<|q "sums",.cst<|.str<|q "most",.cst<|.str<|q "flat",.cst<|.str<|q "add",.cst<|.str<|q "sub",.cst<|.str<|q "mul",.cst<|.str<|q "div"]),
  .asg (.q [3] []) 3 (.op .add Lv [.var 3,.lst Lv [.cst<|.str<|q "rest",.cst<|.str<|q "less",.cst<|.str<|q "same",.cst<|.str<|q "both",.cst<|.str<|q "pair",.cst<|.str<|q "pick",.cst<|.str<|q "join",.cst<|.str<|q "keep",.cst<|.str<|q "cut",.cst<|.str<|q "let",.cst<|.str<|q "if",.cst<|.str<|q "each",.cst<|.str<|q "times"]]),
  .asg (.q [] [2]) 4 (.op .mod Lv [.op .fdiv Lv [.var 2,.cst<|.int 5],.cst<|.int 27]),
  .asg (.q [3] [4]) 5 (.op .add Lv [.op .add Lv [.cst<|.int 1,.op .int Lv [.op .gt Lv [.var 4,.cst<|.int 9]]],.op .int Lv [.op .isin Lv [.op .ix Lv [.var 3,.var 4],.tup [.cst<|.str<|q "if",.cst<|.str<|q "times"]]]]),
  .asg (.q [3] [4]) 6 (.tup [.op .ix Lv [.var 3,.var 4]]),
  .ite (.q [3] [4]) (.op .isin Lv [.op .ix Lv [.var 3,.var 4],.tup [.cst (.str (q "let")),.cst (.str (q "each")),.cst (.str (q "times"))]]) [
   .asg (.q [6] [2]) 6 (.op .add Lv [.var 6,.tup [.op .ix Lv [.lst Lv [.cst<|.str<|q "x",.cst<|.str<|q "rowy",.cst<|.str<|q "addx",.cst<|.str<|q "b",.cst<|.str<|q "numbs"],.op .mod Lv [.op .fdiv Lv [.var 2,.cst<|.int 135],.cst<|.int 5]]]])] [],
  .forS [] [5] .rng [.var 5] [7] [
   .asg (.l [6]) 6 (.op .add Lv [.var 6,.tup [.call 500 [.io 0,.op .sub Lv [.var 1,.cst<|.int 1]]]])],
  .ret [] (.mv 6)]}
noncomputable def aJ:Fn:={ps:=3,ns:=5,io:=[],body:=[
  .ite (.q [0] []) (.op .isin Lv [.op .ix Lv [.var 0,.cst (.int 0)],.tup [.cst (.str (q "num")),.cst (.str (q "name")),.cst (.str (q "none"))]]) [
   .ret [] (.mv 0)] [],
  .asg (.q [0] []) 3 (.op .add Lv [.cst<|.int 1,.op .int Lv [.op .isin Lv [.op .ix Lv [.var 0,.cst<|.int 0],.tup [.cst<|.str<|q "let",.cst<|.str<|q "each",.cst<|.str<|q "times"]]]]),
  .asg (.q [0] [3]) 4 (.op .sl2 Lv [.var 0,.var 3]),
  .asg (.q [1] []) 5 (.var 1),
  .ite (.q [0,1] [3]) (.and (.op .eq Lv [.var 3,.cst (.int 2)]) (.op .isin Lv [.op .ix Lv [.var 0,.cst (.int 1)],.var 1])) [
   .asg (.q [0] [2]) 4 (.tup [.op .ix Lv [.var 0,.cst<|.int 0],.op .add Lv [.cst<|.str<|q "u",.op .ix Lv [.cst<|.str<|q "abcdefghijklmnopqrstuvwxyz",.op .mod Lv [.var 2,.cst<|.int 26]]]])] [],
  .ite (.q [] [3]) (.op .eq Lv [.var 3,.cst (.int 2)]) [
   .asg (.q [1,4] []) 5 (.op .add Lv [.var 1,.lst Lv [.op .ix Lv [.var 4,.cst<|.int 1]]])] [],
  .forS [0] [3] .rng [.var 3,.op .len Lv [.var 0]] [6] [
   .asg (.q [0] [3,6]) 7 (.and (.op .eq Lv [.var 3,.cst<|.int 2])<|.op .eq Lv [.var 6,.op .sub Lv [.op .len Lv [.var 0],.cst<|.int 1]]),
   .asg (.q [0,1,4,5] [2,6,7]) 4 (.op .add Lv [.var 4,.tup [.call 501 [.op .ix Lv [.var 0,.var 6],.ifx (.var 7) (.var 5)<|.var 1,.op .add Lv [.var 2,.cst<|.int 1]]]])],
  .ret [] (.mv 4)]}
noncomputable def cA:Fn:={ps:=1,ns:=5,io:=[],body:=[
  .asg (.q [0] []) 1 (.ifx (.op .gt Lv [.op .len Lv [.var 0],.cst<|.int 0]) (.op .ix Lv [.var 0,.cst<|.int 0])<|.cst<|.int 0),
  .asg (.q [] []) 2 (.lst Lv [.cst<|.str<|q "x",.cst<|.str<|q "q",.cst<|.str<|q "rowy",.cst<|.str<|q "abcdefgh",.cst<|.str<|q "b",.cst<|.str<|q "n",.cst<|.str<|q "addx",.cst<|.str<|q "numbs",.cst<|.str<|q "cuts",.cst<|.str<|q "zz",.cst<|.str<|q "nones"]),
  .asg (.q [] []) 3 (.lst Lv []),
  .forS [] [1] .rng [.op .mod Lv [.var 1,.cst (.int 7)]] [4] [
   .asg (.q [] [1,4]) 5 (.op .mod Lv [.op .add Lv [.op .mod Lv [.op .fdiv Lv [.var 1,.cst<|.int 7],.cst<|.int 11],.op .mul Lv [.var 4,.op .add Lv [.cst<|.int 1,.op .mod Lv [.op .fdiv Lv [.var 1,.cst<|.int 77],.cst<|.int 3]]]],.cst<|.int 11]),
   .app (.q [2] [1,4,5]) 3 (.tup [.op .ix Lv [.var 2,.var 5],.call 171 [.op .fdiv Lv [.var 1,.op .add Lv [.cst<|.int 7,.var 4]],.cst<|.int 4]])],
  .ret [] (.op .tuple Lv [.mv 3])]}
noncomputable def ax:Fn:={ps:=1,ns:=2,io:=[],body:=[
  .asg (.q [0] []) 1 (.lst Lv [.op .ix Lv [.var 0,.cst<|.int 0]]),
  .forS [0] [] .seq [.op .sl1 Lv [.var 0,.cst (.int 1)]] [2] [
   .ext (.q [2] []) 1 (.call 503 [.var 2])],
  .ret [] (.mv 1)]}
noncomputable def aS:Fn:={ps:=1,ns:=3,io:=[],body:=[
  .ite (.q [0] []) (.op .isin Lv [.op .ix Lv [.var 0,.cst (.int 0)],.tup [.cst (.str (q "num")),.cst (.str (q "name"))]]) [
   .ret [] (.lst Lv [.op .strX Lv [.op .ix Lv [.mv 0,.cst<|.int 1]]])] [],
  .ite (.q [0] []) (.op .eq Lv [.op .ix Lv [.var 0,.cst (.int 0)],.cst (.str (q "none"))]) [
   .ret [] (.op .add Lv [.lst Lv [.cst<|.str<|q "none"],.call 503 [.op .ix Lv [.mv 0,.cst<|.int 1]]])] [],
  .asg (.q [0] []) 1 (.op .add Lv [.cst<|.int 1,.op .int Lv [.op .isin Lv [.op .ix Lv [.var 0,.cst<|.int 0],.tup [.cst<|.str<|q "let",.cst<|.str<|q "each",.cst<|.str<|q "times"]]]]),
  .asg (.q [0] [1]) 2 (.op .list Lv [.op .sl2 Lv [.var 0,.var 1]]),
  .forS [0] [1] .seq [.op .sl1 Lv [.var 0,.var 1]] [3] [
   .ext (.q [3] []) 2 (.call 504 [.var 3])],
  .ret [] (.mv 2)]}
noncomputable def f_law:Fn:={ps:=1,ns:=9,io:=[],body:=[
  .asg (.q [0] []) 1 (.call 502 [.var 0]),
  .asg (.q [0,1] []) 2 (.call 501 [.call 500 [.op .list Lv [.op .sl2 Lv [.var 0,.cst<|.int 24]],.cst<|.int 6],.comp Lv .seq [.var 1] [9] J<|.op .ix Lv [.var 9,.cst<|.int 0],.cst<|.int 0]),
  .asg (.q [] []) 3 (.lst Lv []),
  .forS [1] [] .sq2T [.var 1] [4,5] [
   .asg (.q [3,4,5] []) 3 (.op .add Lv [.op .add Lv [.var 3,.lst Lv [.var 4]],.call 503 [.var 5]])],
  .asg (.q [2,3] []) 6 (.op .join Lv [.cst<|.str<|q " ",.op .add Lv [.op .add Lv [.var 3,.lst Lv [.cst<|.str<|q ":"]],.call 504 [.var 2]]]),
  .ite (.q [1,2,6] []) (.or (.op .isnB Lv [.call 507 [.tup [.var 1,.var 2]],.cst (.bl Lw)]) (.op .ne Lv [.call 489 [.tup [.var 1,.var 2]],.var 6])) [
   .ret [] (.cst<|.bl Lv)] [],
  .forS [] [] .rng [.cst (.int 2)] [7] [
   .asg (.q [6] []) 8 (.call 510 [.var 6]),
   .ite (.q [1,2,6,8] []) (.or (.op .ne Lv [.var 8,.tup [.var 1,.var 2]]) (.or (.op .isnB Lv [.call 507 [.var 8],.cst (.bl Lw)]) (.op .ne Lv [.call 489 [.var 8],.var 6]))) [
    .ret [] (.cst<|.bl Lv)] []],
  .ret [] (.cst<|.bl Lw)]}
noncomputable def fL:Fn:={ps:=1,ns:=0,io:=[0],body:=[
  .ret [] (.ifx (.op .lt Lv [.attV 0<|q "at",.op .len Lv [.attV 0<|q "words"]]) (.op .ix Lv [.attV 0<|q "words",.attV 0<|q "at"])<|.cst<|.non)]}
noncomputable def fz:Fn:={ps:=1,ns:=0,io:=[0],body:=[
  .setP (.l []) 0 (q "at") (.op .add Lv [.attV 0<|q "at",.cst<|.int 1])]}
noncomputable def prog:U Fn:=[f_law,zf,cR,bI,zf,zf,zf,zf,zf,zf,zf,zf,zf,zf,zf,zf,zf,zf,zf,zf,zf,zf,zf,zf,zf,zf,zf,zf,zf,zf,zf,zf,zf,zf,zf,zf,zf,zf,zf,zf,zf,zf,zf,zf,zf,zf,zf,zf,zf,zf,zf,zf,zf,zf,zf,zf,zf,zf,zf,zf,zf,zf,zf,zf,zf,zf,zf,zf,zf,zf,zf,zf,zf,zf,zf,zf,zf,zf,zf,zf,zf,zf,zf,zf,zf,zf,zf,zf,zf,zf,zf,zf,zf,zf,zf,zf,zf,zf,zf,zf,zf,zf,zf,zf,zf,zf,zf,zf,zf,zf,zf,zf,zf,zf,zf,zf,zf,zf,zf,zf,zf,zf,zf,zf,zf,zf,zf,zf,zf,zf,zf,zf,zf,zf,zf,zf,zf,zf,zf,zf,zf,zf,zf,zf,zf,zf,zf,zf,zf,zf,zf,zf,zf,zf,zf,zf,zf,zf,zf,zf,zf,zf,bK,zf,bM,cq,zf,zf,zf,zf,zf,aU,zf,zf,zf,bg,eD,zf,zf,zf,zf,zf,zf,zf,zf,zf,zf,zf,zf,zf,zf,zf,zf,zf,zf,zf,zf,zf,zf,zf,zf,zf,zf,zf,zf,zf,zf,zf,zf,zf,zf,zf,zf,zf,zf,cJ,aZ,zf,zf,zf,zf,zf,zf,zf,zf,zf,bz,aO,aB,zf,zf,zf,zf,dq,zf,zf,zf,zf,zf,zf,zf,dn,zf,aI,zf,zf,zf,zf,zf,zf,zf,zf,zf,dU,bW,zf,zf,zf,zf,zf,zf,zf,zf,zf,zf,zf,zf,zf,zf,zf,zf,zf,zf,zf,zf,zf,zf,zf,zf,zf,zf,zf,zf,zf,zf,zf,zf,zf,zf,zf,zf,zf,zf,zf,zf,zf,zf,zf,zf,zf,zf,zf,zf,zf,zf,zf,zf,zf,zf,zf,zf,zf,zf,zf,zf,zf,zf,zf,zf,zf,zf,zf,zf,zf,zf,zf,zf,zf,zf,zf,zf,zf,zf,zf,bA,zf,zf,zf,zf,zf,zf,zf,zf,zf,zf,zf,zf,zf,zf,zf,zf,zf,zf,zf,zf,zf,zf,zf,zf,zf,zf,zf,zf,zf,a7,zf,cn,av,zf,zf,zf,zf,zf,zf,zf,zf,zf,zf,zf,zf,zf,zf,zf,zf,zf,zf,zf,zf,zf,zf,zf,zf,zf,zf,zf,zf,zf,zf,zf,zf,zf,zf,zf,zf,zf,zf,zf,zf,zf,zf,zf,zf,zf,zf,zf,zf,zf,zf,zf,zf,zf,zf,zf,zf,zf,zf,zf,zf,zf,zf,zf,zf,zf,zf,zf,zf,zf,zf,zf,zf,zf,zf,zf,zf,zf,zf,zf,zf,zf,zf,zf,zf,zf,zf,zf,zf,zf,zf,zf,zf,zf,zf,zf,zf,zf,zf,zf,zf,zf,zf,zf,zf,zf,zf,zf,zf,zf,zf,zf,zf,zf,zf,zf,zf,zf,zf,zf,zf,zf,bw,aR,zf,zf,cw,cy,aK,bU,bF,bu,cN,f_law_tree,aJ,cA,ax,aS,fL,fz,aP,bH,b7,br,bN]
end A12

set_option compiler.extract_closed false
namespace P12
section
open M A12
open PySem (Str)
local macro_rules
 | `(tactic| simp_all only [$ls,*])=>`(tactic| simp only [Cy,EI,C9,DQ,De,Dh,EJ,Ea,zh,yS,yH,yV,yt,zG,Af,zp,yA,yu,Bq,Aa,zX,zi,zt,AR,Bj,yM,Bb,Ab,zq,wx,vW,yE,Bn,Bi,yx,uT,wK,kOp,rC,kOr,wR,kC3,kC2,kC1,kBack,kCall,ju,dS,ll,fK,k9,qQ,ox,aW,kX,kT,kT2,kIf,zB,wJ,xN,BO,Kc,mO,kNx,kRt,wH,A8,tw,okW,then',wm,g9,trees,aw,ios,putAll,Fj,Ki,CK,Dj,FE,yL,y7,zM,Dp,CS,FG,CF,Co,Em,CP,HQ,FT,IW,Ha,Hr,IP,AI,Bc,Au,yZ,GL,Fd,xO,rO,vj,uR,EC,Bp,yG,xy,uV,Ge,Hv,Jm,Ju,xq,wY,wq,EZ,EB,C7,CB,CZ,DR,Ft,EH,zy,Bt,Bw,FC,ti,uM,xf,Ho,vZ,vF,BL,Gn,Fm,EG,Ed,DK,Dz,DN,Kt,KW,JD,K2,Iq,Iz,Fy,Fc,Cz,BW,GZ,EU,IE,zV,Ez,Jh,Hq,Bm,Aq,GA,Fu,Fz,E3,E6,vU,xn,rV,G8,tJ,s8,As,yR,zL,yX,Fb,DX,Cq,wu,fD,qU,qP,qg,ED,Fh,EF,Dq,EX,Ey,Fx,Fe,GW,xU,sA,DU,Cg,at0,at1,at2,at3,at4,MA,Ml,LW,LJ,Mi,Nz,List.replicate_zero,reduceIte,if_true,if_false,String.reduceBEq,Nw,Nx,Bool.false_eq_true,Bool.and_self,MZ,Bool.and_true,Ay,kIo,CU,Ew,rh,v5,qJ,qw,qm,qX,sY,q0,vV,rf,qe,l7,nF,nX,pX,Eo,og,mW,uX,qO,qt,nU,ve,qE,qa,oj,okS,FD,KH,Io,Cu,Ei,EW,DC,yp,zj,Gz,HE,E2,xb,FL,F3,tY,DZ,Dd,CI,EM,Ee,CC,Am,lz,Jy,EY,CG,yW,yU,vQ,tR,rg,qH,E5,Bg,pY,KN,AG,CQ,Ek,I0,Hk,F8,JV,Hy,ID,IQ,Ii,HI,H9,JW,Gr,GJ,F9,Hj,Jd,FV,Jl,GP,JZ,IB,Gi,IF,GU,Ir,HR,F6,GS,JA,JT,Lc,Dg,Ff,EV,CY,KU,mY,oz,IK,AK,nR,oo,mS,nJ,Av,y8,kMeth,A6,zl,$ls,*])
abbrev C (n:O):Call:=callR prog 1000000 1000001 n
theorem lM (n:O)(a:U W):C (n+1) 2 a=runF (C n) cR a:=rfl
theorem eX (n:O)(a:U W):C (n+1) 3 a=runF (C n) bI a:=rfl
theorem iZ (n:O)(a:U W):C (n+1) 162 a=runF (C n) bK a:=rfl
theorem iW (n:O)(a:U W):C (n+1) 164 a=runF (C n) bM a:=rfl
theorem jX (n:O)(a:U W):C (n+1) 165 a=runF (C n) cq a:=rfl
theorem cV (n:O)(a:U W):C (n+1) 171 a=runF (C n) aU a:=rfl
theorem iu (n:O)(a:U W):C (n+1) 175 a=runF (C n) bg a:=rfl
theorem lF (n:O)(a:U W):C (n+1) 176 a=runF (C n) eD a:=rfl
theorem iJ (n:O)(a:U W):C (n+1) 215 a=runF (C n) cJ a:=rfl
theorem fF (n:O)(a:U W):C (n+1) 216 a=runF (C n) aZ a:=rfl
theorem nY (n:O)(a:U W):C (n+1) 226 a=runF (C n) bz a:=rfl
theorem bq (n:O)(a:U W):C (n+1) 227 a=runF (C n) aO a:=rfl
theorem bE (n:O)(a:U W):C (n+1) 228 a=runF (C n) aB a:=rfl
theorem om (n:O)(a:U W):C (n+1) 233 a=runF (C n) dq a:=rfl
theorem nO (n:O)(a:U W):C (n+1) 241 a=runF (C n) dn a:=rfl
theorem iQ (n:O)(a:U W):C (n+1) 243 a=runF (C n) aI a:=rfl
theorem pW (n:O)(a:U W):C (n+1) 253 a=runF (C n) dU a:=rfl
theorem i5 (n:O)(a:U W):C (n+1) 254 a=runF (C n) bW a:=rfl
theorem eM (n:O)(a:U W):C (n+1) 334 a=runF (C n) bA a:=rfl
theorem cF (n:O)(a:U W):C (n+1) 364 a=runF (C n) a7 a:=rfl
theorem kf (n:O)(a:U W):C (n+1) 366 a=runF (C n) cn a:=rfl
theorem aX (n:O)(a:U W):C (n+1) 367 a=runF (C n) av a:=rfl
theorem gr (n:O)(a:U W):C (n+1) 489 a=runF (C n) bw a:=rfl
theorem kA (n:O)(a:U W):C (n+1) 490 a=runF (C n) aR a:=rfl
theorem jF (n:O)(a:U W):C (n+1) 493 a=runF (C n) cw a:=rfl
theorem jL (n:O)(a:U W):C (n+1) 494 a=runF (C n) cy a:=rfl
theorem dI (n:O)(a:U W):C (n+1) 495 a=runF (C n) aK a:=rfl
theorem iU (n:O)(a:U W):C (n+1) 496 a=runF (C n) bU a:=rfl
theorem d8 (n:O)(a:U W):C (n+1) 497 a=runF (C n) bF a:=rfl
theorem gq (n:O)(a:U W):C (n+1) 498 a=runF (C n) bu a:=rfl
theorem k7 (n:O)(a:U W):C (n+1) 499 a=runF (C n) cN a:=rfl
theorem f7 (n:O)(a:U W):C (n+1) 500 a=runF (C n) f_law_tree a:=rfl
theorem bS (n:O)(a:U W):C (n+1) 501 a=runF (C n) aJ a:=rfl
theorem j3 (n:O)(a:U W):C (n+1) 502 a=runF (C n) cA a:=rfl
theorem bp (n:O)(a:U W):C (n+1) 503 a=runF (C n) ax a:=rfl
theorem kB (n:O)(a:U W):C (n+1) 504 a=runF (C n) aS a:=rfl
theorem oK (n:O)(a:U W):C (n+1) 505 a=runF (C n) fL a:=rfl
theorem rY (n:O)(a:U W):C (n+1) 506 a=runF (C n) fz a:=rfl
theorem b9 (n:O)(a:U W):C (n+1) 507 a=runF (C n) aP a:=rfl
theorem fh (n:O)(a:U W):C (n+1) 508 a=runF (C n) bH a:=rfl
theorem gb (n:O)(a:U W):C (n+1) 509 a=runF (C n) b7 a:=rfl
theorem gh (n:O)(a:U W):C (n+1) 510 a=runF (C n) br a:=rfl
theorem iS (n:O)(a:U W):C (n+1) 511 a=runF (C n) bN a:=rfl
theorem qeq (a b:Rr):(q a==q b)=(a==b):=by
 by_cases h:a=b
 .subst h;simp
 .have g:q a≠q b:=fun z=>h (by
   have:=Rw (λs:Str=>s.cps.toList) z;rw[q,Str.ofString_eq_toList,Str.ofString_eq_toList] at this;simp only at this
   have j:a.toList=b.toList:=by
    have inj:∀f e:U Char,f.map L7=e.map L7->f=e:=by
     intro f;induction f with
     |nil=>intro e h;cases e with
      |nil=>rfl
      |cons=>cases h
     | cons c l k=>intro e h; cases e with
      |nil=>cases h
      |cons d ds=>
       rw[LJ,LJ] at h;injection h with i g
       rw[k ds g,Char.toNat_inj.mp i]
    exact inj _ _<|by simpa using this
   exact String.toList_inj.mp j)
  rw[beq_eq_false_iff_ne.mpr g,beq_eq_false_iff_ne.mpr h]
theorem d5 {l:Type}{tg:U O}{f:Env->Fl}{g:l->U W}(a:U l->Env->Prop):∀(j pre:U l) (b:Env),a pre b->(∀p x r b,pre++j=p++x::r->a p b->∃d i,bC tg (g x) b=Y d/\f d=.nx i/\a (p++[x]) i) ->
 ∃c,bY tg f (j.map g) b=.nx c/\a (pre++j) c
|[],pre,b,h,_=>⟨b,rfl,by rw[LW];exact h⟩
|x::j,pre,b,h,k=>by obtain⟨d,i,n,o,s⟩:=k pre x j b rfl h;obtain⟨c,e,m⟩:=d5 a j (pre++[x]) i s λp y r b e=>k p y r b (by rw[<- e,L6];rfl);refine⟨c,?_,by rw[L6] at m;exact m⟩;rw[LJ];show Fl.of _ (ofO<|bC tg (g x) b) _=_;rw[n];show Fl.turn (f d) _=_;rw[o];exact e
theorem fS {b:Type}(a:b)(r:U b):cut (a::r) (Y 1) J=r:=by
 have e:sIx (a::r).length 0 (Y 1)=1:=by show(if(1:I)<0 then((1:I)+((a::r).length:I)).toNat else min (1:I).toNat (a::r).length)=1;rw[Rn<|by decide,LG];show min 1 (r.length+1)=1;lia
 have e2:sIx (a::r).length (a::r).length J=(a::r).length:=rfl;rw[cut,e,e2];exact PU<|by rw[NR];lia
theorem iR {c:Type}(a b:c)(r:U c):cut (a::b::r) (Y 2) J=r:=by
 have e:sIx (a::b::r).length 0 (Y 2)=2:=by show(if(2:I)<0 then((2:I)+((a::b::r).length:I)).toNat else min (2:I).toNat (a::b::r).length)=2;rw[Rn<|by decide,LG,LG];show min 2 (r.length+1+1)=2;lia
 have e2:sIx (a::b::r).length (a::b::r).length J=(a::b::r).length:=rfl;rw[cut,e,e2];exact PU<|by rw[NR];lia
theorem bj (h:Rl)(m n:Md)(a:U T)(i:I):oSem .sl1 h [(m,.tup a),(n,.int i)]=Y (.s,.tup<|cut a (Y i) J):=rfl
theorem dH (n:O)(s:Str)(m:Md):C (n+1) 175 [(m,.str s)]=.ok ((.d,.int<|if keys_AHEAD.contains s then 2 else 1),[]):=by
 rw[iu,x_run _ _ _ rfl];cases h:keys_AHEAD.contains s with
 |true=>simp_all only[bg,h,N8]
 |false=>simp_all only[bg,h,N8]
theorem dJ:∀bs:U Rl,aY (bs.map T.bl)=Y bs
|[]=>rfl
|b::bs=>by show(aY<|bs.map T.bl).map (b::·)=_;rw[dJ bs];rfl
theorem bb {b:Type}(f:b->Md)(g:b->T):∀a:U b,trees (a.map λx=>(f x,g x))=a.map g
|[]=>rfl
|x::a=>by show g x::trees _=g x::a.map g;rw[bb f g a]
theorem fo (x:Str):(["str"].any λc=>isOne c<|T.str x)=true:=rfl
theorem eI (a:U T):(["tuple"].any λc=>isOne c<|T.tup a)=true:=rfl
theorem uU (i:I):(["int"].any λc=>isOne c<|T.int i)=true:=rfl
theorem BX (i:I):(["bool"].any λc=>isOne c<|T.int i)=false:=rfl
def le2 (c:O):Rl:=!decide ([c]<(q "a").cps.toList)&&!decide ((q "z").cps.toList < [c])
def nmA (x:Str):Rl:=decide (1<=(x.cps.size:I))&&decide ((x.cps.size:I)<=8)&&!(keys_PARTS.contains x)&&!([T.str<|q "truth",.str<|q "row"].any λt=>eqT t<|.str x)&&(x.cps.toList.map le2).all id
theorem fl2 (x a b:Str):(M.flatT (.str x)&&[T.str a,.str b].all M.flatT)=true:=rfl
theorem f6 (n:O)(x:Str)(m:Md):C (n+1) 226 [(m,.str x)]=.ok ((.d,.bl<|nmA x),[]):=by
 rw[nY,x_run _ _ _ rfl]
 have c1:∀b,aH [1] (dS (evE (C n) (.chain .leS .leS (.cst (.str (q "a"))) (.var 1) (.cst (.str (q "z")))))) (x.cps.toList.map λc=>[((.d,.str ⟨#[c]⟩):W)]) [b,J] []=.ok ([]++x.cps.toList.map (λc=>((.d,.bl (le2 c)):W)),[b,J]):=λb=>bh _ _ [] λc j=>by
  cases a:decide ([c]<(q "a").cps.toList) with
  |true=>
   have e:le2 c=false:=by unfold le2;rw[a];rfl
   rw[e];exact⟨_,[b,Y (.d,.str ⟨#[c]⟩)],rfl,by simp_all only[a],rfl⟩
  |false=>
   have e:le2 c=!decide ((q "z").cps.toList < [c]):=by unfold le2;rw[a];rfl
   rw[e];exact⟨_,[b,Y (.d,.str ⟨#[c]⟩)],rfl,by simp_all only[a],rfl⟩
 have i:trees (x.cps.toList.map (λc=>((.d,.bl (le2 c)):W)))=(x.cps.toList.map le2).map T.bl:=by rw[bb (λ_=>Md.d) λu=>T.bl<|le2 u,Mt];rfl
 unfold nmA;cases a:decide (1<=(x.cps.size:I)) with
 |false=>simp_all only[bz,a,Mz,fo]
 | true =>
  cases f:decide ((x.cps.size:I)<=8) with
  |false=>simp_all only[bz,a,f,Mz,M0,fo]
  | true =>
   cases g:keys_PARTS.contains x with
   |true=>simp_all only[bz,a,f,g,Mz,M0,fo,N8]
   |false=>
    cases h:[T.str<|q "truth",.str<|q "row"].any λt=>eqT t (.str x) with
    |true=>simp_all only[bz,a,f,g,h,fl2,Mz,M0,fo,N8]
    |false=>simp_all only[bz,a,f,g,h,fl2,c1,i,dJ,Mz,M0,fo,N8]
theorem f27:fits 27=true:=rfl
inductive KK:O->T->Prop
 |num {j:O}:KK (j+1) (.tup [.str (q "num")])
 |truth {j:O}:KK (j+1) (.tup [.str (q "truth")])
 |row {j:O} {t:T}:KK j t->KK (j+1) (.tup [.str (q "row"),t])
 |pair {j:O} {t u:T}:KK j t->KK j u->KK (j+1) (.tup [.str (q "pair"),t,u])
theorem zr {a:Type}(f:a->Rl)(ps:U a)(h:∀u∈ps,f u=Lw):(ps.map f).all id=true:=by rw[MN];intro b c;obtain⟨u,d,rfl⟩:=Mm.mp c;exact h u d
theorem gA (n:O)(e:I)(j:(e==0)=Lv)(s:Rr)(k:O)(hk:keys_WITHIN.contains (q s)=Lw)(l:tab_WITHIN.lookup (q s)=Y (.int k))(ps:U T)(c:ps.length=k)
  (hp:∀u∈ps,∀m m',C n 216 [(m,u),(m',.int<|e-1)]=.ok ((.d,.bl Lw),[])) (m m':Md):
  C (n+1) 216 [(m,.tup (.str (q s)::ps)),(m',.int e)]=.ok ((.d,.bl Lw),[]):=by
 have c1:∀b a,aH [2] (dS (evE (C n) (.call 216 [.var 2,.op .sub Lv [.var 1,.cst (.int 1)]]))) (ps.map λt=>[((.s,t):W)]) [b,Y (a,.int e),J] []=.ok ([]++ps.map (λu=>((.d,.bl Lw):W)),[b,Y (a,.int e),J]):=λb a=>bh _ _ [] λu o=>⟨_,[b,Y (a,.int e),Y (.s,u)],rfl,by
  have h:=λm m'=>hp u o m m';simp_all only[h],rfl⟩
 have v:trees (ps.map (λu=>((.d,.bl Lw):W)))=(ps.map λ_=>Lw).map T.bl:=by rw[bb (λ_=>Md.d) λu=>T.bl Lw,Mt];rfl
 have f:(ps.map λ_=>Lw).all id=true:=zr _ _ λ_ _=>rfl;have i:=fS (T.str<|q s) ps;have p:(((T.str (q s)::ps).length:I)==0)=false:=by rw[LG];exact beq_eq_false_iff_ne.mpr<|by lia
 have r:(!(((T.str (q s)::ps).length:I)==1+(k:I)))=false:=by rw[LG,c];simp;lia
 have w:(!(((T.str (q s)::ps).length:I)==(k:I)+1))=false:=by rw[LG,c];simp
 have g:(keys_WITHIN.contains (q s) != Lw)=false:=by rw[hk];rfl
 rw[fF,x_run _ _ _ rfl];simp_all only[aZ,fo,eI,j,p,r,g,l,bj,i,c1,v,f,dJ]
theorem xT:∀(j:O) (t:T),KK j t->∀(n:O) (e:I),(j:I)<=e->∀m a,C (n+j) 216 [(m,t),(a,.int e)]=.ok ((.d,.bl Lw),[])
|0,_,h,_,_,_,_,_=>nomatch h
|j+1,_,h,n,e,k,m,a=>by
 have c:(e==0)=false:=beq_eq_false_iff_ne.mpr (by lia);have g:=λ(u:T) (b:KK j u) m a=>xT j u b n (e-1) (by lia) m a;cases h with
 |num=>exact gA (n+j) e c "num" 0 (by decide +kernel) (by kernel_rfl) [] rfl (λu b=>nomatch b) m a
 |truth=>exact gA (n+j) e c "truth" 0 (by decide +kernel) (by kernel_rfl) [] rfl (λu b=>nomatch b) m a
 |row f=>exact gA (n+j) e c "row" 1 (by decide +kernel) (by kernel_rfl) _ rfl (λu b m a=>by rw[LR.mp b];exact g _ f m a) m a
 | pair f i=>exact gA (n+j) e c "pair" 2 (by decide +kernel) (by kernel_rfl) _ rfl (fun u b m a=>by
   rcases LK.mp b with rfl|b
   .exact g _ f m a
   .rw[LR.mp b];exact g _ i m a) m a
theorem md2 (i:I)(n:I)(a:0<n):∃j:O,(j:I)<n/\i % n=(j:I):=⟨(i % n).toNat,by have:=Px i (show n≠0 by lia);have:=Qg i a;lia,by have:=Px i (show n≠0 by lia);lia⟩
theorem fq:∀(k:O) (n:O) (c:I),∃D t,(∀m e,C (n+k+1) 171 [(m,.int c),(e,.int (k:I))]=.ok ((D,t),[]))/\KK (k+1) t
| k,n,c=>by
 obtain⟨j,hj,g⟩:=md2 c 6 (by decide);obtain⟨i,Z,r⟩:=md2 c 2<|by decide
 have a:∀b:Rl,((((k:I)==0)=Lw/\b=Lw)\/(((k:I)==0)=Lv/\decide ((j:I)<2)=Lw/\b=Lv))->∃D t,(∀m e,C (n+k+1) 171 [(m,.int c),(e,.int (k:I))]=.ok ((D,t),[]))/\KK (k+1) t:=λb M=>by
  have y:i=0\/i=1:=by lia
  have u:decide ((0:I)<2)=true:=rfl;have f:decide ((0:I)<6)=true:=rfl;rcases y with rfl|rfl
  .refine ⟨.s,.tup [.str (q "num")],fun m e=>?_,.num⟩;rw[cV,x_run _ _ _ rfl];have e1:atI [T.tup [.str (q "num")],.tup [.str (q "truth")]] ((0:O):I)=Y (.tup [.str (q "num")]):=rfl;rcases M with⟨d,_⟩|⟨d,x,_⟩
   .simp_all only[aU,u,f,g,r,d,e1]
   .simp_all only[aU,u,f,g,r,d,x,e1]
  .refine ⟨.s,.tup [.str (q "truth")],fun m e=>?_,.truth⟩;rw[cV,x_run _ _ _ rfl];have e1:atI [T.tup [.str (q "num")],.tup [.str (q "truth")]] ((1:O):I)=Y (.tup [.str (q "truth")]):=rfl;rcases M with⟨d,_⟩|⟨d,x,_⟩
   .simp_all only[aU,u,f,g,r,d,e1]
   .simp_all only[aU,u,f,g,r,d,x,e1]
 cases k with
 |zero=>exact a Lw<|.inl ⟨rfl,rfl⟩
 | succ k =>
  have w:(((k+1:O):I)==0)=false:=beq_eq_false_iff_ne.mpr (by lia);by_cases h:(j:I)<2
  .exact a Lv (.inr ⟨w,Ri h,rfl⟩)
  .have G:decide ((j:I)<2)=false:=Rt h;have f:decide ((0:I)<6)=true:=rfl;have p:decide ((6:I)<1073741824)=true:=rfl;have l:decide ((216:I)<1073741824)=true:=rfl;have o:decide ((0:I)<216)=true:=rfl;have H:((k+1:O):I)-1=(k:I):=by lia
   by_cases z:j=2
   .subst z;obtain⟨P,F,e1,A⟩:=fq k n<|c / 6;obtain⟨m2,Q,e2,N⟩:=fq k n<|c / 216;have v:(((2:O):I)==2)=true:=rfl;exact⟨_,.tup [.str<|q "pair",F,Q],λm e=>by rw[show n+(k+1)+1=(n+k+1)+1 by lia,cV,x_run _ _ _ rfl];simp_all only[aU,f,p,l,o,g,w,G,v,H,e1,e2];rfl,.pair A N⟩
   .obtain ⟨P,F,e1,A⟩:=fq k n<|c / 6;have v:((j:I)==2)=false:=beq_eq_false_iff_ne.mpr (by lia);exact⟨_,.tup [.str<|q "row",F],λm e=>by rw[show n+(k+1)+1=(n+k+1)+1 by lia,cV,x_run _ _ _ rfl];simp_all only[aU,f,p,g,w,G,v,H,e1];rfl,.row A⟩
abbrev LF:U Rr:=["num","name","none"]
abbrev BF:U Rr:=["let","each","times"]
noncomputable abbrev NF:U Rr:=["yes","no","not","first","second","one","upto","long","sum","sums","most","flat","add","sub","mul","div","rest","less","same","both","pair","pick","join","keep","cut","if"]
noncomputable def ar (s:Rr):O:=if s∈["yes","no"] then 0 else if s="if" then 3 else if s∈["add","sub","mul","div","rest","less","same","both","pair","pick","join","keep","cut"] then 2 else 1
def arB (s:Rr):O:=if s="times" then 3 else 2
def iOf:L T->L I
|some (.int i)=>Y i
|_=>J
theorem fQ {o:L T}{i:I}(h:iOf o=Y i):o=Y (.int i):=by
 unfold iOf at h;split at h
 .cases h;rfl
 .cases h
def sOf:L T->L Str
|some (.str i)=>Y i
|_=>J
theorem jD {o:L T}{i:Str}(h:sOf o=Y i):o=Y (.str i):=by
 unfold sOf at h;split at h
 .cases h;rfl
 .cases h
abbrev b3:U T:=[.str<|q "let",.str<|q "each",.str<|q "times"]
theorem fl3 (x a b c:Str):(M.flatT (.str x)&&[T.str a,.str b,.str c].all M.flatT)=true:=rfl
theorem inP:∀s∈NF,(keys_PARTS.contains (q s) != Lw)=Lv/\keys_AHEAD.contains (q s)=Lv/\iOf (tab_PARTS.lookup<|q s)=Y (ar s:I):=by decide +kernel
theorem eW (x:T)(ps:U T):(((x::ps).length:O):I)=(ps.length:I)+1:=by rw[LG];lia
theorem Gy (n:O)(s:Rr)(r:s∈NF)(ps:U T):
  (ps.length≠ar s->∀m,C (n+2) 227 [(m,.tup (.str (q s)::ps))]=.ok ((.d,.bl Lv),[])) /\
  (ps.length=ar s->∀b:T->Rl,(∀u∈ps,∀m,C (n+1) 227 [(m,u)]=.ok ((.d,.bl<|b u),[]))->∀m,C (n+2) 227 [(m,.tup (.str (q s)::ps))]=.ok ((.d,.bl<|(ps.map b).all id),[])):=by
 obtain⟨k,w,c⟩:=inP s r;have c:=fQ c;have a:=λm=>dH n (q s) m;rw[w,Rn LX] at a;have c0:((((T.str (q s)::ps).length:O):I)==0)=false:=by rw[eW];exact beq_eq_false_iff_ne.mpr<|by lia
 have j:((1:I)==2)=false:=rfl;refine⟨λg m=>?_,λg b i m=>?_⟩
 .have c1:((((T.str (q s)::ps).length:O):I)==1+(ar s:I))=false:=by rw [eW]; exact beq_eq_false_iff_ne.mpr (by lia)
  have l:((((T.str (q s)::ps).length:O):I)==(ar s:I)+1)=false:=by rw[eW];exact beq_eq_false_iff_ne.mpr<|by lia
  rw[bq,x_run _ _ _ rfl];simp_all only[aO,fo,eI,c0,c1,k,c,a]
 .have c1:((((T.str (q s)::ps).length:O):I)==1+(ar s:I))=true:=by rw [eW,g]; simp; lia
  have l:((((T.str (q s)::ps).length:O):I)==(ar s:I)+1)=true:=by rw[eW,g];simp
  have p:=fS (T.str<|q s) ps
  have o:∀e f,aH [2] (dS (evE (C (n+1)) (.call 227 [.var 2]))) (ps.map λt=>[((.s,t):W)]) [e,f,J] []=.ok ([]++ps.map (λu=>((.d,.bl (b u)):W)),[e,f,J]):=λe f=>bh _ _ [] λu v=>⟨_,[e,f,Y (.s,u)],rfl,by
   have h:=λm=>i u v m;simp_all only[h],rfl⟩
  have x:trees (ps.map (λu=>((.d,.bl (b u)):W)))=(ps.map b).map T.bl:=by rw[bb (λ_=>Md.d) λu=>T.bl<|b u,Mt];rfl
  rw[bq,x_run _ _ _ rfl];simp_all only[aO,fo,eI,c0,c1,k,c,a,j,bj,p,o,x,dJ]
theorem hU:∀s∈BF,(keys_PARTS.contains (q s) != Lw)=Lv/\keys_AHEAD.contains (q s)=Lw/\iOf (tab_PARTS.lookup<|q s)=Y (arB s:I)/\sOf (tab_AHEAD.lookup<|q s)=Y (q "name"):=by decide +kernel
theorem lr (n:O)(y:Str)(m m':Md):C (n+2) 228 [(m,.str<|q "name"),(m',.str y)]=.ok ((.d,.bl<|nmA y),[]):=by
 have e:=λm=>f6 n y m;have e1:(q "name"==q "number")=false:=by decide +kernel
 have e2:(q "name"==q "kind")=false:=by decide +kernel
 rw[bE,x_run _ _ _ rfl];simp_all only[aB,e,e1,e2]
theorem Js (n:O)(s:Rr)(x:s∈BF)(y:Str)(ps:U T):
  (ps.length≠arB s->∀m,C (n+3) 227 [(m,.tup (.str (q s)::.str y::ps))]=.ok ((.d,.bl Lv),[])) /\
  (ps.length=arB s->nmA y=Lw->∀b:T->Rl,(∀u∈ps,∀m,C (n+2) 227 [(m,u)]=.ok ((.d,.bl<|b u),[]))->∀m,C (n+3) 227 [(m,.tup (.str (q s)::.str y::ps))]=.ok ((.d,.bl<|(ps.map b).all id),[])):=by
 obtain⟨o,D,c,j⟩:=hU s x;have c:=fQ c;have j:=jD j;have a:=λm=>dH (n+1) (q s) m;rw[D,Rk rfl] at a;have l:=λm A=>lr n y m A;have c0:((((T.str (q s)::.str y::ps).length:O):I)==0)=false:=by rw[eW];exact beq_eq_false_iff_ne.mpr<|by lia
 have k:((2:I)==2)=true:=rfl;refine⟨λg m=>?_,λg w b i m=>?_⟩
 .have c1:((((T.str (q s)::.str y::ps).length:O):I)==2+(arB s:I))=false:=by rw [eW,eW]; exact beq_eq_false_iff_ne.mpr (by lia)
  have p:((((T.str (q s)::.str y::ps).length:O):I)==(arB s:I)+2)=false:=by rw[eW,eW];exact beq_eq_false_iff_ne.mpr<|by lia
  rw[bq,x_run _ _ _ rfl];simp_all only[aO,fo,eI,c0,c1,o,c,a]
 .have c1:((((T.str (q s)::.str y::ps).length:O):I)==2+(arB s:I))=true:=by rw [eW,eW,g]; simp; lia
  have p:((((T.str (q s)::.str y::ps).length:O):I)==(arB s:I)+2)=true:=by rw[eW,eW,g];simp;lia
  rw[w] at l;have v:=iR (T.str<|q s) (.str y) ps
  have r:∀e f,aH [2] (dS (evE (C (n+2)) (.call 227 [.var 2]))) (ps.map λt=>[((.s,t):W)]) [e,f,J] []=.ok ([]++ps.map (λu=>((.d,.bl (b u)):W)),[e,f,J]):=λe f=>bh _ _ [] λu z=>⟨_,[e,f,Y (.s,u)],rfl,by
   have h:=λm=>i u z m;simp_all only[h],rfl⟩
  have F:trees (ps.map (λu=>((.d,.bl (b u)):W)))=(ps.map b).map T.bl:=by rw[bb (λ_=>Md.d) λu=>T.bl<|b u,Mt];rfl
  rw[bq,x_run _ _ _ rfl];simp_all only[aO,fo,eI,c0,c1,o,c,j,l,a,k,bj,v,r,F,dJ]
theorem dg:∀s∈LF,(keys_PARTS.contains (q s) != Lw)=Lv/\keys_AHEAD.contains (q s)=Lw/\iOf (tab_PARTS.lookup<|q s)=Y 0:=by decide +kernel
theorem g8 (a b:T):atI [a,b] 1=Y b:=rfl
theorem zJ (n:O)(i:I)(j:0<=i)(k:i<=1000000000000000000):∀m,C (n+5) 227 [(m,.tup [.str<|q "num",.int i])]=.ok ((.d,.bl Lw),[]):=λm=>by
 obtain⟨r,s,c⟩:=dg "num" (by decide);have c:=fQ c;have b:=λm=>dH (n+3) (q "num") m;rw[s,Rk rfl] at b;have t:tab_AHEAD.lookup (q "num")=Y (.str (q "number")):=jD (by decide +kernel);have f:(q "num"==q "num")=true:=by decide +kernel
 have g:(q "number"==q "number")=true:=by decide +kernel
 have l:decide (-1000000000000000000<=i)=true:=Ri (by lia);have o:decide (i<=1000000000000000000)=true:=Ri k;have p:decide (0<=i)=true:=Ri j;have u:∀m,C (n+2) 3 [(m,.int i)]=.ok ((.d,.bl Lw),[]):=λm=>by rw[eX,x_run _ _ _ rfl];simp_all only[bI,uU,BX,l,o]
 have v:∀m a,C (n+3) 2 [(m,.tup [.str (q "num")]),(a,.int i)]=.ok ((.d,.bl Lw),[]):=λm a=>by rw[lM,x_run _ _ _ rfl];simp_all only[cR,f,u]
 have w:∀m a,C (n+4) 228 [(m,.str (q "number")),(a,.int i)]=.ok ((.d,.bl Lw),[]):=λm a=>by rw[bE,x_run _ _ _ rfl];simp_all only[aB,g,v,p]
 have c0:((([T.str (q "num"),.int i].length:O):I)==0)=false:=rfl;have c1:((([T.str (q "num"),.int i].length:O):I)==2+0)=true:=rfl;have x:((([T.str (q "num"),.int i].length:O):I)==2)=true:=rfl;have e:((2:I)==2)=true:=rfl;have h:=iR (T.str<|q "num") (.int i) [];have z:(decide ((0:I)<=18)&&decide ((18:I)<=1000000)&&decide ((10:I).natAbs<18446744073709551616))=true:=rfl;have y:(10:I) ^ (18:I).toNat=1000000000000000000:=by decide +kernel
 rw[bq,x_run _ _ _ rfl];simp_all only[aO,fo,eI,c0,c1,r,c,t,w,b,e,bj,h,aH,dJ,aY,Pd]
theorem vO (n:O)(y:Str)(g:nmA y=Lw):∀m,C (n+5) 227 [(m,.tup [.str<|q "name",.str y])]=.ok ((.d,.bl Lw),[]):=λm=>by
 obtain⟨i,j,b⟩:=dg "name" (by decide);have b:=fQ b;have a:=λm=>dH (n+3) (q "name") m;rw[j,Rk rfl] at a;have k:tab_AHEAD.lookup (q "name")=Y (.str (q "name")):=jD (by decide +kernel);have e1:(q "name"==q "num")=false:=by decide +kernel
 have o:(q "name"==q "name")=true:=by decide +kernel
 have e:=λm h=>lr (n+2) y m h;rw[g] at e;have c0:((([T.str (q "name"),.str y].length:O):I)==0)=false:=rfl;have c1:((([T.str (q "name"),.str y].length:O):I)==2+0)=true:=rfl;have l:((([T.str (q "name"),.str y].length:O):I)==2)=true:=rfl;have c:((2:I)==2)=true:=rfl;have f:=iR (T.str<|q "name") (.str y) [];rw[bq,x_run _ _ _ rfl];simp_all only[aO,fo,eI,c0,c1,i,b,k,e,a,c,bj,f,aH,dJ,aY,Pd]
theorem sd (n:O)(k:T)(hk:KK 5 k):∀m,C (n+9) 227 [(m,.tup [.str<|q "none",k])]=.ok ((.d,.bl Lw),[]):=λm=>by
 obtain⟨j,l,c⟩:=dg "none" (by decide);have c:=fQ c;have a:=λm=>dH (n+7) (q "none") m;rw[l,Rk rfl] at a;have o:tab_AHEAD.lookup (q "none")=Y (.str (q "kind")):=jD (by decide +kernel);have e1:(q "none"==q "num")=false:=by decide +kernel
 have e2:(q "none"==q "name")=false:=by decide +kernel
 have e3:(q "none"==q "none")=true:=by decide +kernel
 have f:(q "kind"==q "number")=false:=by decide +kernel
 have g:(q "kind"==q "kind")=true:=by decide +kernel
 have i:=λm b=>xT 5 k hk (n+1) 5 (by decide) m b;have p:∀m,C (n+7) 215 [(m,k)]=.ok ((.d,.bl Lw),[]):=λm=>by rw[iJ,x_run _ _ _ rfl];simp_all only[cJ,i]
 have r:∀m b,C (n+8) 228 [(m,.str (q "kind")),(b,k)]=.ok ((.d,.bl Lw),[]):=λm b=>by rw[bE,x_run _ _ _ rfl];simp_all only[aB,f,g,p]
 have c0:((([T.str (q "none"),k].length:O):I)==0)=false:=rfl;have c1:((([T.str (q "none"),k].length:O):I)==2+0)=true:=rfl;have s:((([T.str (q "none"),k].length:O):I)==2)=true:=rfl;have e:((2:I)==2)=true:=rfl;have h:=iR (T.str<|q "none") k [];rw[bq,x_run _ _ _ rfl];simp_all only[aO,fo,eI,c0,c1,j,c,o,r,a,e,bj,h,aH,dJ,aY,Pd]
noncomputable abbrev NL:U Rr:=["x","addx","rowe","numb","ab","z","abcdefgh","nots","truths","y"]
noncomputable abbrev NU:U Rr:=["ua","ub","uc","ud","ue","uf","ug","uh","ui","uj","uk","ul","um","un","uo","up","uq","ur","us","ut","uu","uv","uw","ux","uy","uz"]
noncomputable abbrev NB:U Rr:=["x","rowy","addx","b","numbs","ua","ub","uc","ud","ue","uf","ug","uh","ui","uj","uk","ul","um","un","uo","up","uq","ur","us","ut","uu","uv","uw","ux","uy","uz"]
theorem nlA:∀s∈NL,nmA (q s)=true:=by decide +kernel
theorem nbA:∀s∈NB,nmA (q s)=true:=by decide +kernel
inductive WT:O->T->Prop
 |num {d:O} {i:I}:0<=i->i<=1000000000000000000->WT (d+1) (.tup [.str (q "num"),.int i])
 |name {d:O} {s:Rr}:s∈NL->WT (d+1) (.tup [.str (q "name"),.str (q s)])
 |none {d:O} {k:T}:KK 5 k->WT (d+1) (.tup [.str (q "none"),k])
 |node {d:O} {s:Rr} {ps:U T}:s∈NF->ps.length=ar s->(∀p∈ps,WT d p)->WT (d+1) (.tup (.str (q s)::ps))
 |bind {d:O} {s x:Rr} {ps:U T}:s∈BF->x∈NB->ps.length=arB s->(∀p∈ps,WT d p)->WT (d+1) (.tup (.str (q s)::.str (q x)::ps))
def Ag (d:O)(t:T)(b:Rl):Prop:=∀n m,C (n+d+12) 227 [(m,t)]=.ok ((.d,.bl b),[])
theorem Ag.up {d d':O}{t:T}{b:Rl}(h:Ag d t b)(hd:d<=d'):Ag d' t b:=λn m=>by have:=h (n+(d'-d)) m;rw[show n+(d'-d)+d+12=n+d'+12 by lia] at this;exact this
theorem AD {d:O}{s:Rr}{ps:U T}(c:s∈NF)(b:ps.length=ar s)(a:T->Rl)(h:∀p∈ps,Ag d p<|a p):Ag (d+1) (.tup (.str (q s)::ps)) ((ps.map a).all id):=λn m=>by have:=(Gy (n+d+11) s c ps).2 b a (λu e m=>h u e n m) m;exact this
theorem yB {d:O}{s x:Rr}{ps:U T}(c:s∈BF)(hx:x∈NB)(b:ps.length=arB s)(a:T->Rl)(h:∀p∈ps,Ag d p<|a p):Ag (d+1) (.tup (.str (q s)::.str (q x)::ps)) ((ps.map a).all id):=λn m=>by have:=(Js (n+d+10) s c (q x) ps).2 b (nbA x hx) a (λu e m=>h u e n m) m;exact this
theorem va:∀{d:O} {t:T},WT d t->Ag d t Lw
|0,_,h=>nomatch h
| d+1,_,h=>by
 cases h with
 |num c e=>exactλn m=>zJ (n+d+8) _ c e m
 |name a=>exactλn m=>vO (n+d+8) _ (nlA _ a) m
 |none hk=>exactλn m=>sd (n+d+4) _ hk m
 |node a b hp=>have:=AD (d:=d) a b (λ_=>Lw) λp h=>va<|hp p h;rw[zr _ _ λ_ _=>rfl] at this;exact this
 |bind a hx b hp=>have:=yB (d:=d) a hx b (λ_=>Lw) λp h=>va<|hp p h;rw[zr _ _ λ_ _=>rfl] at this;exact this
theorem WT.sg {d:O}{t:T}(h:WT d t):∃s r,t=.tup (.str (q s)::r)/\(s∈LF\/s∈BF\/s∈NF):=by
 cases h with
 |num _ _=>exact⟨_,_,rfl,.inl<|by decide⟩
 |name _=>exact⟨_,_,rfl,.inl<|by decide⟩
 |none _=>exact⟨_,_,rfl,.inl<|by decide⟩
 |node a _ _=>exact⟨_,_,rfl,.inr<|.inr a⟩
 |bind a _ _ _=>exact⟨_,_,rfl,.inr<|.inl a⟩
theorem mdj (i:I)(n:O)(c:0<n):∃j:O,j<n/\i % (n:I)=(j:I):=by obtain⟨j,b,a⟩:=md2 i n (by lia);exact⟨j,by lia,a⟩
abbrev Jk:U T:=[.str<|q "x",.str<|q "addx",.str<|q "rowe",.str<|q "numb",.str<|q "ab",.str<|q "z",.str<|q "abcdefgh",.str<|q "nots",.str<|q "truths",.str<|q "y"]
theorem KK.up1:∀{j:O} {t:T},KK j t->KK (j+1) t
|0,_,h=>nomatch h
|j+1,_,h=>by
 cases h with
 |num=>exact .num
 |truth=>exact .truth
 |row h=>exact .row<|KK.up1 h
 |pair a b=>exact .pair (KK.up1 a)<|KK.up1 b
theorem ar3 (s:Rr):ar s<=3:=by
 unfold ar
 repeat' split
 all_goals lia
theorem nN (s:Rr):arB s<=3:=by unfold arB;split<;>lia
theorem bD (n:O)(s:Str)(r:U T)(m:Md):C (n+1) 233 [(m,.tup (.str s::r))]=.ok ((.s,(tab_BINDING.lookup s).getD .non),[]):=by rw[om,x_run _ _ _ rfl];simp_all only[dq]
theorem ahN:∀s∈NF,keys_AHEAD.contains (q s)=false:=by decide +kernel
theorem kz (n:O)(s:Rr)(a:s∈NF)(ps:U T)(m:Md):C (n+2) 176 [(m,.tup (.str (q s)::ps))]=.ok ((.s,.tup ps),[]):=by have p:=λm=>dH n (q s) m;rw[ahN s a,Rn LX] at p;have c:=fS (T.str<|q s) ps;rw[lF,x_run _ _ _ rfl];simp_all only[eD,p,bj,c]
theorem cP (n:O)(s:Rr)(a:keys_AHEAD.contains (q s)=Lw)(x:T)(ps:U T)(m:Md):C (n+2) 176 [(m,.tup (.str (q s)::x::ps))]=.ok ((.s,.tup ps),[]):=by have p:=λm=>dH n (q s) m;rw[a,Rk rfl] at p;have c:=iR (T.str<|q s) x ps;rw[lF,x_run _ _ _ rfl];simp_all only[eD,p,bj,c]
abbrev lf3:U T:=[.str<|q "num",.str<|q "name",.str<|q "none"]
def c9:T->U T
|.tup (.str s::r)=>if keys_AHEAD.contains s then r.drop 1 else r
|_=>[]
theorem cT (s:Rr)(a:keys_AHEAD.contains (q s)=Lw)(x:T)(ps:U T):c9 (.tup (.str (q s)::x::ps))=ps:=Rk a
theorem fC (s:Rr)(a:keys_AHEAD.contains (q s)=Lv)(ps:U T):c9 (.tup (.str (q s)::ps))=ps:=Rn<|by rw[a];exact LX
theorem kE {d:O}{t:T}(h:WT (d+1) t):∃s r k ps,t=.tup (.str (q s)::r)/\(∀n m,C (n+2) 176 [(m,t)]=.ok ((.s,.tup ps),[]))/\R4/\cut (T.str (q s)::r) (Y k) J=ps/\c9 t=ps/\ps.length<=3/\∀p∈ps,WT d p:=by
 cases h with
 |num c e=>exact⟨"num",_,2,[],rfl,λn m=>cP n "num" (dg "num"<|by decide).2.1 _ [] m,trivial,iR _ _ [],cT "num" (dg "num"<|by decide).2.1 _ [],by decide,λp hp=>nomatch hp⟩
 |name a=>exact⟨"name",_,2,[],rfl,λn m=>cP n "name" (dg "name"<|by decide).2.1 _ [] m,trivial,iR _ _ [],cT "name" (dg "name"<|by decide).2.1 _ [],by decide,λp hp=>nomatch hp⟩
 |none hk=>exact⟨"none",_,2,[],rfl,λn m=>cP n "none" (dg "none"<|by decide).2.1 _ [] m,trivial,iR _ _ [],cT "none" (dg "none"<|by decide).2.1 _ [],by decide,λp hp=>nomatch hp⟩
 |node a b hp=>exact⟨_,_,1,_,rfl,λn m=>kz n _ a _ m,trivial,fS _ _,fC _ (ahN _ a) _,by rw[b];exact ar3 _,hp⟩
 |bind a hx b hp=>exact⟨_,_,2,_,rfl,λn m=>cP n _ (hU _ a).2.1 _ _ m,trivial,iR _ _ _,cT _ (hU _ a).2.1 _ _,by rw[b];unfold arB;split<;>decide,hp⟩
def bnd:T->L Str
|.tup (.str s::.str x::_)=>if b3.any (λt=>eqT t<|.str s) then Y x else J
|_=>J
theorem fO {s:Rr}(a:(b3.any λt=>eqT t<|.str<|q s)=Lv)(r:U T):bnd (.tup (.str (q s)::r))=none:=by
 unfold bnd;split
 .rename_i h;cases h;rw[a];rfl
 .rfl
abbrev NB5:U Rr:=["x","rowy","addx","b","numbs"]
theorem Jb:∀s∈NB5,s∈NB:=by decide
def n5F:O->T->Rl
|0,_=>Lw
|d+1,t=>(match bnd t with
 |none=>Lw
 |some x=>NB5.any λs=>q s==x)&&(c9 t).all (n5F d)
def WG (d:O)(t:T):Prop:=WT d t/\n5F d t=Lw
theorem jg {d:O}{s:Rr}{r ps:U T}(a:(b3.any λt=>eqT t<|.str<|q s)=Lv)(hp:c9 (.tup (.str (q s)::r))=ps)(h:∀p∈ps,n5F d p=Lw):n5F (d+1) (.tup (.str (q s)::r))=true:=by rw[n5F,fO a,hp,MZ,MN];exact h
theorem KC {d:O}{s x:Rr}{ps:U T}(a:(b3.any λt=>eqT t<|.str<|q s)=Lw)(hx:x∈NB5)(hp:c9 (.tup (.str (q s)::.str (q x)::ps))=ps)(h:∀p∈ps,n5F d p=Lw):n5F (d+1) (.tup (.str (q s)::.str (q x)::ps))=true:=by have e:bnd (.tup (.str (q s)::.str (q x)::ps))=Y (q x):=Rk a;rw[n5F,e,hp,LQ,P5,MN];exact⟨⟨x,hx,Rq _⟩,h⟩
def dD (f:T->U (U O)):O->U T->U (U O)
|_,[]=>[]
|i,p::ps=>(f p).map (i::·)++dD f (i+1) ps
def aC:O->T->U (U O)
|0,_=>[]
|d+1,t=>dD (aC d) 0 (c9 t)++[[]]
def szF (d:O)(t:T):O:=(aC d t).length
theorem fw (f:T->U (U O)):∀(ps:U T) (i:O),(dD f i ps).length=(ps.map λp=>(f p).length).sum
|[],_=>rfl
|p::ps,i=>by rw[dD,LH,LB,fw f ps<|i+1,LJ,ML]
theorem sz1 {d:O}{t:T}(h:c9 t=[]):szF (d+1) t=1:=by rw[szF,aC,h];rfl
theorem An (n d:O)(c:I):∃Q t,(∀m,C (n+6) 499 [(m,.int c)]=.ok ((Q,t),[]))/\WG (d+1) t/\szF (d+1) t=1:=by
 obtain⟨j,u,F⟩:=mdj (c / 5) 10 (by decide);obtain⟨i,hi,D⟩:=mdj (c / 5) 5 (by decide);obtain⟨k,hk,G⟩:=mdj c 5 (by decide);obtain⟨mk,A,e1,w⟩:=fq 2 (n+2)<|c / 5;have w:=w.up1.up1
 have a:∃s,s∈NL/\atI Jk (j:I)=Y (.str (q s)):=by
  have H:NL.getD j ""∈NL:=by rw[MV,Ma<|show j<NL.length from u];exact OR _
  refine⟨NL.getD j "",H,atN rfl ?_⟩;have:Jk=NL.map λs=>T.str (q s):=rfl;rw[this,Mr,Ma<|show j<NL.length from u,MV,Ma<|show j<NL.length from u];rfl
 obtain⟨s,M,a⟩:=a;have f:∀m P,C (n+5) 171 [(m,.int (c / 5)),(P,.int 2)]=.ok ((mk,A),[]):=e1
 have b:∃v,0<=v/\v<=1000000000000000000/\atI [T.int 0,.int 1,.int 1000000000000000000,.int 5,.int (c % (1000000000000000000+1))] (i:I)=Y (.int v):=by
  have r:i=0\/i=1\/i=2\/i=3\/i=4:=by lia
  rcases r with rfl|rfl|rfl|rfl|rfl
  .exact⟨0,by decide,by decide,rfl⟩
  .exact⟨1,by decide,by decide,rfl⟩
  .exact⟨1000000000000000000,by decide,by decide,rfl⟩
  .exact⟨5,by decide,by decide,rfl⟩
  .exact⟨c % (1000000000000000000+1),Px _<|by decide,by have:=Qg c (show(0:I)<1000000000000000000+1 by decide);lia,rfl⟩
 obtain⟨v,v0,v1,b⟩:=b;have Z:decide ((0:I)<5)=true:=rfl;have z:decide ((5:I)<1073741824)=true:=rfl;have x:decide ((0:I)<10)=true:=rfl;have y:decide ((0:I)<1000000000000000000+1)=true:=rfl;have pw:(decide ((0:I)<=18)&&decide ((18:I)<=1000000)&&decide ((10:I).natAbs<18446744073709551616))=true:=rfl;have pe:(10:I) ^ (18:I).toNat=1000000000000000000:=by decide +kernel
 have l:c / 5 % 10=(j:I):=F;have g:c / 5 % 5=(i:I):=D;have o:c % 5=(k:I):=G
 have e:∃t,WG (d+1) t/\szF (d+1) t=1/\atI [T.tup [.str (q "num"),.int v],.tup [.str (q "yes")],.tup [.str (q "no")],.tup [.str (q "name"),.str (q s)],.tup [.str (q "none"),A]] (k:I)=Y t:=by
  have r:k=0\/k=1\/k=2\/k=3\/k=4:=by lia
  rcases r with rfl|rfl|rfl|rfl|rfl
  .exact⟨_,⟨.num v0 v1,jg (s:="num") (by decide +kernel) (cT "num" (dg "num"<|by decide).2.1 _ []) λ_ h=>nomatch h⟩,sz1<|cT "num" (dg "num"<|by decide).2.1 _ [],rfl⟩
  .exact⟨_,⟨.node (s:="yes") (ps:=[]) (by decide) rfl (by intro p hp;cases hp),jg (s:="yes") (by decide +kernel) (fC "yes" (ahN _<|by decide) []) λ_ h=>nomatch h⟩,sz1<|fC "yes" (ahN _<|by decide) [],rfl⟩
  .exact⟨_,⟨.node (s:="no") (ps:=[]) (by decide) rfl (by intro p hp;cases hp),jg (s:="no") (by decide +kernel) (fC "no" (ahN _<|by decide) []) λ_ h=>nomatch h⟩,sz1<|fC "no" (ahN _<|by decide) [],rfl⟩
  .exact⟨_,⟨.name M,jg (s:="name") (by decide +kernel) (cT "name" (dg "name"<|by decide).2.1 _ []) λ_ h=>nomatch h⟩,sz1<|cT "name" (dg "name"<|by decide).2.1 _ [],rfl⟩
  .exact⟨_,⟨.none w,jg (s:="none") (by decide +kernel) (cT "none" (dg "none"<|by decide).2.1 _ []) λ_ h=>nomatch h⟩,sz1<|cT "none" (dg "none"<|by decide).2.1 _ [],rfl⟩
 obtain⟨t,wt,N,e⟩:=e;exact⟨_,t,λm=>by rw[k7,x_run _ _ _ rfl];simp_all only[cN,Z,z,x,y,Bx,pw,pe,l,g,o,a,b,e,f];rfl,wt,N⟩
theorem Lb (a:U I)(c:I):jS (.d,.lst<|(a++[c]).map T.int) []=Y ((.d,.int c),(.d,.lst<|a.map T.int)):=by rw[L8];simp[jS,Md.kid]
theorem Ak (n:O)(b:U I)(f g h i j k:L W):∃(c:I) (a:U I),evS (C n) (.asg (.l []) 2<|.ifx (.op .gt Lv [.lenV 0,.cst<|.int 0]) (.pop 0 [])<|.cst<|.int 0) [Y (.d,.lst<|b.map T.int),f,J,g,h,i,j,k]=.nx [Y (.d,.lst<|a.map T.int),f,Y (.d,.int c),g,h,i,j,k]/\a.length<=b.length/\(c=0\/a.length+1=b.length):=by
 rcases List.eq_nil_or_concat b with rfl|⟨ns0,c,rfl⟩
 .have e:decide ((0:I)<(([]:U I).map T.int).length)=false:=rfl;exact⟨0,[],by simp_all only[Mi,N9,e];rfl,LM _,.inl rfl⟩
 .have e:decide ((0:I)<((((ns0.concat c).map T.int).length:O):I))=true:=Ri (by rw [LB,O4,LH,L0]; lia);have e2:=Lb ns0 c;rw[<- O4] at e2;refine⟨c,ns0,?_,by rw[O4,LH];lia,.inr<|by rw[O4,LH];rfl⟩;generalize m:(ns0.concat c).map T.int=l at e e2;simp_all only[e,e2]
theorem pB (C:Call):∀(a b:U S) (c:Env),evSs C (a++b) c=(evSs C a c).seq (evSs C b)
|[],b,c=>rfl
|s::a,b,c=>by show(evS C s c).seq (evSs C<|a++b)=((evS C s c).seq<|evSs C a).seq (evSs C b);cases evS C s c<;>first|rfl|exact pB C a b _
theorem go1 {C:Call}{a b:U S}{d c:Env}(h:evSs C a d=.nx c):evSs C (a++b) d=evSs C b c:=by rw[pB,h];rfl
abbrev Bk (f:Fn)(i j:O):U S:=(f.body.drop i).take j
noncomputable abbrev g27:U Rr:=["not","first","second","one","upto","long","sum","sums","most","flat","add","sub","mul","div","rest","less","same","both","pair","pick","join","keep","cut","let","if","each","times"]
def S27:U T:=[T.str<|q "not",T.str<|q "first",T.str<|q "second",T.str<|q "one",T.str<|q "upto",T.str<|q "long",T.str<|q "sum",T.str<|q "sums",T.str<|q "most",T.str<|q "flat",T.str<|q "add",T.str<|q "sub",T.str<|q "mul",T.str<|q "div",T.str<|q "rest",T.str<|q "less",T.str<|q "same",T.str<|q "both",T.str<|q "pair",T.str<|q "pick",T.str<|q "join",T.str<|q "keep",T.str<|q "cut",T.str<|q "let",T.str<|q "if",T.str<|q "each",T.str<|q "times"]
theorem eS:[T.str<|q "not",T.str<|q "first",T.str<|q "second",T.str<|q "one",T.str<|q "upto",T.str<|q "long",T.str<|q "sum",T.str<|q "sums",T.str<|q "most",T.str<|q "flat",T.str<|q "add",T.str<|q "sub",T.str<|q "mul",T.str<|q "div",T.str<|q "rest",T.str<|q "less",T.str<|q "same",T.str<|q "both",T.str<|q "pair",T.str<|q "pick",T.str<|q "join",T.str<|q "keep",T.str<|q "cut",T.str<|q "let",T.str<|q "if",T.str<|q "each",T.str<|q "times"]=S27:=rfl
theorem Kn:∀j<27,(g27.getD j ""∈NF/\(b3.any λt=>eqT t<|.str<|q<|g27.getD j "")=Lv/\1+b2i (decide ((9:I)<(j:I)))+b2i ([T.str<|q "if",.str<|q "times"].any λt=>eqT t<|.str<|q<|g27.getD j "")=(ar (g27.getD j ""):I)) \/
  (g27.getD j ""∈BF/\(b3.any λt=>eqT t<|.str<|q<|g27.getD j "")=Lw/\1+b2i (decide ((9:I)<(j:I)))+b2i ([T.str<|q "if",.str<|q "times"].any λt=>eqT t<|.str<|q<|g27.getD j "")=(arB (g27.getD j ""):I)):=by decide +kernel
theorem Le (j:O)(a:j<27):atI S27 (j:I)=Y (.str<|q<|g27.getD j ""):=by refine atN rfl ?_;have:S27=g27.map λs=>T.str (q s):=rfl;rw[this,Mr,Ma<|show j<g27.length from a,MV,Ma<|show j<g27.length from a];rfl
abbrev nb5:U T:=[.str<|q "x",.str<|q "rowy",.str<|q "addx",.str<|q "b",.str<|q "numbs"]
theorem at5 (j:O)(a:j<5):atI nb5 (j:I)=Y (.str<|q<|NB5.getD j ""):=by refine atN rfl ?_;have:nb5=NB5.map λs=>T.str (q s):=rfl;rw[this,Mr,Ma<|show j<NB5.length from a,MV,Ma<|show j<NB5.length from a];rfl
theorem sE (n:O)(g h:L W)(c:I)(j:O)(s:Rr)(f:I)(b:Rl)(k:c / 5 % 27=(j:I))(i:atI S27 (j:I)=Y (.str<|q s))(l:(b3.any λt=>eqT t<|.str<|q s)=b)(m:1+b2i (decide ((9:I)<(j:I)))+b2i ([T.str<|q "if",.str<|q "times"].any λt=>eqT t<|.str<|q s)=f):evSs (C n) (Bk f_law_tree 2 5) [g,h,Y (.d,.int c),J,J,J,J,J]=.nx [g,h,Y (.d,.int c),Y (.o .s,.lst S27),Y (.d,.int j),Y (.d,.int f),Y (.d,.tup [.str<|q s]),J]:=by have p:decide ((0:I)<5)=true:=rfl;have e:decide ((5:I)<1073741824)=true:=rfl;have a:decide ((0:I)<27)=true:=rfl;simp_all only[Bk,f_law_tree,Ng,MO,M3,M8,LG,N9,Nat.reduceAdd,f27,eS,p,e,a,k,i,fl2,fl3,l,m]
theorem Ba (n:O)(h i l:L W)(c:I)(j:O)(s:Rr)(m:atI S27 (j:I)=Y (.str<|q s)):(b3.any λt=>eqT t<|.str<|q s)=Lw->∃x∈NB5,∃v w,evSs (C n) (Bk f_law_tree 7 1) [h,i,Y (.d,.int c),Y (.o .s,.lst S27),Y (.d,.int j),l,Y (.d,.tup [.str<|q s]),J]=.nx [h,i,Y (.d,.int c),Y (v,.lst S27),Y (.d,.int j),l,Y (w,.tup [.str<|q s,.str<|q x]),J]:=λu=>by
 obtain⟨k,hk,p⟩:=mdj (c / 135) 5 (by decide);have e:c / 135 % 5=(k:I):=p;have f:=at5 k hk;have g:NB5.getD k ""∈NB5:=by rw[MV,Ma<|show k<NB5.length from hk];exact OR _
 have y:decide ((0:I)<5)=true:=rfl;have b:decide ((0:I)<135)=true:=rfl;have a:decide ((135:I)<1073741824)=true:=rfl;have r:(fits (1+1)&&!([T.str (q s)]:U T).isEmpty)=true:=rfl;generalize NB5.getD k ""=x at f g;exact⟨x,g,_,_,by simp_all only[Bk,f_law_tree,Ng,MO,M3,M8,LG,N9,MY,y,b,a,e,m,f,fl3,u,r];rfl⟩
theorem Du (n:O)(a b c e f:L W)(j:O)(s:Rr)(g:atI S27 (j:I)=Y (.str<|q s)):(b3.any λt=>eqT t<|.str<|q s)=Lv->∃i,evSs (C n) (Bk f_law_tree 7 1) [a,b,c,Y (.o .s,.lst S27),Y (.d,.int j),e,f,J]=.nx [a,b,c,Y (i,.lst S27),Y (.d,.int j),e,f,J]:=λh=>by exact⟨_,by simp_all only[Bk,f_law_tree,Ng,MO,M3,M8,g,fl3,h];rfl⟩
noncomputable abbrev TB:U S:=[.asg (.l [6]) 6<|.op .add Lv [.var 6,.tup [.call 500 [.io 0,.op .sub Lv [.var 1,.cst<|.int 1]]]]]
def Dr (a l:O):Prop:=∀c:U I,∃e t b,C a 500 [(.d,.lst<|c.map T.int),(.d,.int (l:I))]=.ok ((e,t),[(.d,.lst<|(b:U I).map T.int)])/\WG (l+1) t/\szF (l+1) t+3 * b.length<=3 * c.length+1
theorem pd (a l:O)(Q:Dr a l)(m n o u:L W)(p0:U T)(M:p0.isEmpty=Lv)(hp:p0.length<=2)(j:O)(hn:j<=3)(h:U I)(y:Md):∃b c rs e,rs.length=j/\(∀p∈rs,WG (l+1) p)/\(rs.map λp=>szF (l+1) p).sum+3 * b.length<=3 * h.length+rs.length /\
  bY [7] (evSs (C a) TB) ((L4 j).map λ(k:O)=>[((.d,.int k):W)]) [Y (.d,.lst<|h.map T.int),Y (.d,.int ((l+1:O):I)),m,n,o,u,Y (y,.tup p0),J]=.nx [Y (.d,.lst<|(b:U I).map T.int),Y (.d,.int ((l+1:O):I)),m,n,o,u,Y (c,.tup<|p0++rs),e]:=by
 obtain⟨η',Z,b,c,rs,e,i,x,A,rfl⟩:=d5 (tg:=[7]) (f:=evSs (C a) TB) (g:=λ(k:O)=>[((.d,.int k):W)])
  (λpre D=>∃(b:U I) (c:Md) (rs:U T) (e:L W),rs.length=pre.length/\(∀p∈rs,WG (l+1) p)/\(rs.map λp=>szF (l+1) p).sum+3 * b.length<=3 * h.length+rs.length/\D=[Y (.d,.lst<|b.map T.int),Y (.d,.int ((l+1:O):I)),m,n,o,u,Y (c,.tup<|p0++rs),e])
  (L4 j) [] [Y (.d,.lst (h.map T.int)),Y (.d,.int ((l+1:O):I)),m,n,o,u,Y (y,.tup p0),J] ⟨h,y,[],J,rfl,(by intro p hp; cases hp),(by show 0+_<=_+0; lia),by rw [LW]⟩ (by
   rintro p k r D v ⟨b,c,rs,e,i,x,A,N⟩;subst N;have w:=Rw Me v;simp only[Ml,Nd,LH,LG] at w;obtain⟨md,t,z,e2,wt,P⟩:=Q b;have G:((l+1:O):I)-1=(l:I):=by lia
   have H:(fits ((p0++rs).length+[t].length)&&!(p0++rs).isEmpty)=true:=by
    rw[LQ];refine⟨Ri ?_,?_⟩
    .rw [LH,L0];show _<=16777215;lia
    .cases p0 with
     |nil=>cases M
     |cons=>rfl
   refine⟨_,_,rfl,?_,z,.s,rs++[t],Y (.d,.int (k:I)),by rw[LH,LH,i];rfl,?_,(by rw[L8,OE,LH];simp only[LJ,Mi,ML,Pc,L0];lia),rfl⟩
   .have F:p0++rs++[t]=p0++(rs++[t]):=L6 _ _ _;simp_all only[G,e2,H,F]
   .intro p hp;rcases Ms.mp hp with hp|hp
    .exact x p hp
    .rw[LR.mp hp];exact wt)
 rw[Ml,Nd] at i;exact⟨b,c,rs,e,i,x,A,Z⟩
theorem uJ {mn:O}(h:mn<=3):(decide ((mn:I).natAbs<4611686018427387904)&&fits mn)=Lw/\(mn:I).toNat=mn:=by
 have e:(mn:I).toNat=mn:=by lia
 refine⟨?_,e⟩;rw[LQ];exact⟨Ri<|by lia,Ri<|by show _<=16777215;lia⟩
theorem pP (n:O)(j l m o p r:L W)(b:O)(s:b<=3){a:U I}{c e f g h w:L W}{u:Md}{i:U T}(t:bY [7] (evSs (C n) TB) ((L4 b).map λ(k:O)=>[((.d,.int k):W)]) [j,l,m,o,p,Y (.d,.int b),r,J]=.nx [Y (.d,.lst<|a.map T.int),c,e,f,g,h,Y (u,.tup i),w]):∃v x,evSs (C n) (f_law_tree.body.drop 8) [j,l,m,o,p,Y (.d,.int b),r,J]=.rt (v,.tup i) (Y (.d,.lst<|a.map T.int)::x):=by obtain⟨r1,r2⟩:=uJ s;exact⟨_,_,by simp_all only[f_law_tree,Ng,MO,r1,r2,t];rfl⟩
theorem I9 (w:W)(a:W)(b:Env):Fl.out [0] (.rt w (Y a::b))=.ok (w,[a]):=rfl
theorem oU:∀(l n:O),Dr (n+l+8) l
| l,n,i=>by
 obtain⟨c,b,D,hn1,w⟩:=Ak (n+l+7) i (Y (.d,.int (l:I))) J J J J J;have P:decide ((0:I)<5)=true:=rfl;have A:decide ((5:I)<1073741824)=true:=rfl
 have f:((((l:I)==0)=Lw)\/((((l:I)==0)=Lv)/\((c % 5==0)=Lw)))->∃o t a,C (n+l+8) 500 [(.d,.lst (i.map T.int)),(.d,.int (l:I))]=.ok ((o,t),[(.d,.lst ((a:U I).map T.int))])/\WG (l+1) t/\szF (l+1) t+3 * a.length<=3 * i.length+1:=λk=>by
  obtain⟨o,t,e,wt,u⟩:=An (n+l+1) l<|c / 5;rw[f7,x_run _ _ _ rfl];rcases k with r|⟨r,m⟩
  .exact⟨_,t,b,by simp_all only[f_law_tree,D,r,P,A,e];rfl,wt,by lia⟩
  .exact⟨_,t,b,by simp_all only[f_law_tree,D,r,m,P,A,e];rfl,wt,by lia⟩
 cases l with
 |zero=>exact f<|.inl rfl
 | succ l =>
  have r:(((l+1:O):I)==0)=false:=beq_eq_false_iff_ne.mpr (by lia);cases m:c % 5==0 with
  |true=>exact f<|.inr ⟨r,m⟩
  | false =>
   have ih:Dr (n+l+8) l:=λi=>oU l n i;obtain⟨j,Z,Q⟩:=mdj (c / 5) 27 (by decide);have v:=Le j Z;have g:=Kn j Z;generalize g27.getD j ""=s at v g;rw[show n+(l+1)+7=n+l+8 by lia] at D;have hA:evSs (C (n+l+8)) (Bk f_law_tree 0 2) [Y (.d,.lst (i.map T.int)),Y (.d,.int ((l+1:O):I)),J,J,J,J,J,J]=.nx [Y (.d,.lst (b.map T.int)),Y (.d,.int ((l+1:O):I)),Y (.d,.int c),J,J,J,J,J]:=by simp_all only[Bk,f_law_tree,Ng,MO,M3,M8,D,r,m,P]
   rw[show n+(l+1)+8=(n+l+8)+1 by lia,f7,x_run _ _ _ rfl];rw[show f_law_tree.body=Bk f_law_tree 0 2++(Bk f_law_tree 2 5++(Bk f_law_tree 7 1++f_law_tree.body.drop 8)) from rfl];show∃o t a,Fl.out [0] (evSs (C<|n+l+8) (Bk f_law_tree 0 2++(Bk f_law_tree 2 5++(Bk f_law_tree 7 1++f_law_tree.body.drop 8))) [Y (.d,.lst<|i.map T.int),Y (.d,.int ((l+1:O):I)),J,J,J,J,J,J])=.ok ((o,t),[(.d,.lst<|(a:U I).map T.int)])/\WG (l+1+1) t/\szF (l+1+1) t+3 * a.length<=3 * i.length+1;rw[go1 hA];rcases g with⟨g,k,H⟩|⟨g,k,H⟩
   .rw [go1 (sE (n+l+8) _ _ c j s (ar s:I) Lv Q v k H)];obtain⟨N,F⟩:=Du (n+l+8) (Y (.d,.lst (b.map T.int))) (Y (.d,.int ((l+1:O):I))) (Y (.d,.int c)) (Y (.d,.int (ar s:I))) (Y (.d,.tup [.str (q s)])) j s v k;rw[go1 F];have hc:b.length+1=i.length:=w.resolve_left λz=>by rw[z] at m;cases m
    obtain⟨a,m7,rs,o7,G,y,u,M⟩:=pd (n+l+8) l ih (Y (.d,.int c)) (Y (N,.lst S27)) (Y (.d,.int j)) (Y (.d,.int (ar s:I))) [.str<|q s] rfl (by show 1<=2;lia) (ar s) (ar3 s) b .d;obtain⟨o,η,e⟩:=pP (n+l+8) _ _ _ _ _ _ (ar s) (ar3 s) M;rw[e,I9];refine⟨o,_,a,rfl,⟨.node g G λp h=>(y p h).1,jg k (fC s (ahN s g) rs) λp h=>(y p h).2⟩,?_⟩;show(aC (l+1+1)<|.tup (.str (q s)::rs)).length+_<=_;rw[aC,fC s<|ahN s g,LH,fw];have:=ar3 s;have u:(rs.map λp=>(aC (l+1) p).length).sum+3 * a.length<=3 * b.length+rs.length:=u;simp only[L0];lia
   .rw [go1 (sE (n+l+8) _ _ c j s (arB s:I) Lw Q v k H)];obtain⟨x,hx,N,m6,F⟩:=Ba (n+l+8) (Y (.d,.lst (b.map T.int))) (Y (.d,.int ((l+1:O):I))) (Y (.d,.int (arB s:I))) c j s v k;rw[go1 F];have hc:b.length+1=i.length:=w.resolve_left λz=>by rw[z] at m;cases m
    obtain⟨a,m7,rs,o7,G,y,u,M⟩:=pd (n+l+8) l ih (Y (.d,.int c)) (Y (N,.lst S27)) (Y (.d,.int j)) (Y (.d,.int (arB s:I))) [.str<|q s,.str<|q x] rfl (by show 2<=2;lia) (arB s) (nN s) b m6;obtain⟨o,η,e⟩:=pP (n+l+8) _ _ _ _ _ _ (arB s) (nN s) M;rw[e,I9];refine⟨o,_,a,rfl,⟨.bind g (Jb x hx) G λp h=>(y p h).1,KC k hx (cT s (hU s g).2.1 _ rs) λp h=>(y p h).2⟩,?_⟩;show(aC (l+1+1)<|.tup (.str (q s)::.str (q x)::rs)).length+_<=_;rw[aC,cT s (hU s g).2.1,LH,fw];have:=nN s;have u:(rs.map λp=>(aC (l+1) p).length).sum+3 * a.length<=3 * b.length+rs.length:=u;simp only[L0];lia
def mxN:U O->O
|[]=>0
|a::l=>max a<|mxN l
def dpF:O->T->O
|0,_=>0
|d+1,t=>1+mxN ((c9 t).map<|dpF d)
theorem mT:∀a b:U O,mxN (a++b)=max (mxN a) (mxN b)
|[],b=>(Nat.zero_max _).symm
|x::a,b=>by rw[MA,mxN,mT a b,mxN];lia
theorem xF (i:O):∀c:U<|U O,c≠[]->mxN ((c.map (i::·)).map Me)=mxN (c.map Me)+1
|[],h=>Rm rfl h
|[a],_=>by simp[mxN]
|a::b::c,_=>by have d:=xF i (b::c) (by simp);rw[LJ,LJ,mxN,d,LJ (f:=Me) (a:=a),mxN,LG];lia
theorem wo {d:O}{t:T}(h:WT d t):aC d t≠[]:=by
 cases d with
 |zero=>exact nomatch h
 |succ d=>rw[aC];exactλe=>Rm (Rw Me e)<|by rw[LH];simp
theorem GK (d:O):∀(ps:U T) (i:O),(∀p∈ps,aC d p≠[]/\mxN ((aC d p).map Me)+1=dpF d p)->mxN ((dD (aC d) i ps).map Me)=mxN (ps.map<|dpF d)
|[],_,_=>rfl
|p::ps,i,h=>by obtain⟨a,b⟩:=h p LI;rw[dD,L8,mT,xF i _ a,b,GK d ps (i+1) λq c=>h q<|LO _ c,LJ,mxN]
theorem v8:∀(d:O) (t:T),WT d t->mxN ((aC d t).map Me)+1=dpF d t
|0,_,h=>nomatch h
|d+1,t,h=>by obtain⟨s,r,k,ps,rfl,c,e,f,b,g,a⟩:=kE h;rw[aC,dpF,b,L8,mT,GK d ps 0 λp hp=>⟨wo<|a p hp,v8 d p<|a p hp⟩];simp only[LJ,Mi,N9,mxN];lia
noncomputable abbrev nT (l:U O):U T:=l.map λ(i:O)=>T.int (i:I)
abbrev plT (b:U O)(a:U<|U O):U T:=a.map λl=>T.tup<|nT<|b++l
noncomputable abbrev PB:U S:=[
   .exp (.l [1,4]) (.call 254 [.var 4,.op .catT Lv [.var 1,.tup [.var 3]],.io 2])]
theorem J1 (a:U O)(i:O)(c:a.length<=1000)(m n:Md):oSem .catT Lv [(m,.tup<|nT a),(n,.tup [.int (i:I)])]=Y (.s,.tup<|nT<|a++[i]):=by show(if fits ((nT a).length+[T.int (i:I)].length)=Lw then Y ((.s,.tup<|nT a++[.int (i:I)]):W) else J)=_;have b:fits ((nT a).length+[T.int (i:I)].length)=true:=Ri (by rw[LB,L0];show _<=16777215;lia);rw[Rk b,nT,nT,L8];rfl
theorem BA {l d:O}{t:T}{b:U O}(z:b.length<=1000):∀(ps:U T) (i:O) (a:U T) (k w x:Md) (o3 y:L W),k≠.s ->
 (∀p∈ps,∀(i:O) (a:U T) (k m m':Md),k≠.s->a.length+(aC d p).length<=100000->C l 254 [(m,p),(m',.tup<|nT<|b++[i]),(k,.lst a)]=.ok ((.d,.non),[(.o .s,.lst<|a++plT (b++[i]) (aC d p))])) ->
 a.length+(dD (aC d) i ps).length<=100000 ->
 ∃r c f g j,r≠.s/\bY [3,4] (evSs (C l) PB) (eL .s i ps) [Y (w,t),Y (x,.tup<|nT b),Y (k,.lst a),o3,y]=.nx [Y (c,t),Y (f,.tup<|nT b),Y (r,.lst<|a++plT b (dD (aC d) i ps)),g,j]
|[],i,a,k,w,x,o3,y,u,_,_=>⟨k,w,x,o3,y,u,by rw[dD];show Fl.nx _=_;rw[plT,Mi,LW]⟩
| p::ps,i,a,k,w,x,o3,y,u,h,F=>by
 rw[dD,LH,LB] at F;have e:=λm m'=>h p LI i a k m m' u (by lia);have A:=λm n=>J1 b i z m n;have step:∃c f g j,evSs (C l) PB [Y (w,t),Y (x,.tup (nT b)),Y (k,.lst a),Y (.d,.int (i:I)),Y (.s,p)]=.nx [Y (c,t),Y (f,.tup (nT b)),Y (.o .s,.lst (a++plT (b++[i]) (aC d p))),g,j]:=⟨_,_,_,_,by simp_all only[A,e];rfl⟩;obtain⟨c,f,g,j,step⟩:=step;obtain⟨r,M,N,P,Q,v,H⟩:=BA (t:=t) z ps (i+1) (a++plT (b++[i]) (aC d p)) (.o .s) c f g j (by simp) (λq G=>h q<|LO _ G) (by rw[LH,LB];lia);refine⟨r,M,N,P,Q,v,?_⟩;have D:a++plT b (dD (aC d) i (p::ps))=a++plT (b++[i]) (aC d p)++plT b (dD (aC d) (i+1) ps):=by rw[dD,plT,L8,Mt,L6];congr 2;refine Q1 λl _=>?_;simp[L6]
 rw[D];exact(Rw (Fl.turn · _) step).trans H
theorem jP:∀(d:O) (t:T),WT d t->∀(n:O) (a:U O) (b:U T) (g m m':Md),g≠.s->a.length+d<=1000->b.length+(aC d t).length<=100000 ->
 C (n+d+3) 254 [(m,t),(m',.tup<|nT a),(g,.lst b)]=.ok ((.d,.non),[(.o .s,.lst<|b++plT a (aC d t))])
|0,_,h,_,_,_,_,_,_,_,_,_=>nomatch h
| d+1,t,h,n,a,b,g,m,m',f,hb,l=>by
 obtain⟨s,r,k,ps,rfl,M,h2,h3,D,h5,N⟩:=kE h;have hp:=λm=>M (n+d+1) m;rw[aC,D,LH,L0] at l
 have P:∀v j,∃c w y z A,c≠.s/\bY [3,4] (evSs (C (n+d+3)) PB) (eL .s 0 ps) [Y (v,.tup (.str (q s)::r)),Y (j,.tup (nT a)),Y (g,.lst b),J,J]=.nx [Y (w,.tup (.str (q s)::r)),Y (y,.tup (nT a)),Y (c,.lst (b++plT a (dD (aC d) 0 ps))),z,A]:=λv j=>
  BA (d:=d) (by lia) ps 0 b g v j J J f (λp hp i b g m m' f l=>jP d p (N p hp) n (a++[i]) b g m m' f (by rw[LH,L0];lia) l) (by lia)
 obtain⟨c,Q,Z,a3,a4,e,u⟩:=P .s m';have e2:b++plT a (aC (d+1) (.tup (.str (q s)::r)))=b++plT a (dD (aC d) 0 ps)++[.tup (nT a)]:=by rw[aC,D,plT,L8,<- L6];simp
 have G:∀j:Md,iM (c,.lst (b++plT a (dD (aC d) 0 ps))) (.s,.tup (nT a))=Y (.o .s,.lst (b++plT a (dD (aC d) 0 ps)++[.tup (nT a)])):=λ_=>by
  have F:(b++plT a (dD (aC d) 0 ps)).length<LIM:=by rw[LH,LB];show _<16777215;lia
  cases c with
  |s=>exact Rm rfl e
  |d=>show(if _ then _ else _)=_;rw[Rk F];rfl
  |o x=>show(if _ then _ else _)=_;rw[Rk F];cases x<;>rfl
 have H:fT (Y (c,T.lst (b++plT a (dD (aC d) 0 ps))))=.ok ():=by
  cases c with
  |s=>exact Rm rfl e
  |_=>rfl
 rw[e2,show n+(d+1)+3=(n+d+3)+1 by lia,i5,x_run _ _ _ rfl];simp_all only[bW,hp,u,G .s,H]
theorem JS (a:U<|U O):plT [] a=a.map λl=>T.tup (nT l):=rfl
theorem qu (d:O)(t:T)(h:WT d t)(hd:d<=1000)(b:(aC d t).length<=100000)(n:O)(m:Md):C (n+d+4) 253 [(m,t)]=.ok ((.o .s,.lst<|plT []<|aC d t),[]):=by have e1:=λm a=>jP d t h n [] [] .d m a (by simp) (by simpa using hd) (by simpa using b);have e2:=λm a=>jP d t h n [] [] (.o .d) m a (by simp) (by simpa using hd) (by simpa using b);have e3:=λm a=>jP d t h n [] [] (.o .s) m a (by simp) (by simpa using hd) (by simpa using b);rw[show nT []=[] from rfl,Ml] at e1 e2 e3;rw[pW,x_run _ _ _ rfl];simp_all only[dU,e1,e2,e3]
abbrev aA (a:U Str):U T:=a.map T.str
theorem tbN:∀s∈NF,tab_BINDING.lookup (q s)=none:=λs a=>by
 have:∀s∈NF,(tab_BINDING.lookup<|q s).isSome=false:=by decide +kernel
 cases h:tab_BINDING.lookup (q s) with
 |none=>rfl
 |some t=>have:=this s a;rw[h] at this;cases this
theorem tbL:∀s∈LF,tab_BINDING.lookup (q s)=none:=λs a=>by
 have:∀s∈LF,(tab_BINDING.lookup<|q s).isSome=false:=by decide +kernel
 cases h:tab_BINDING.lookup (q s) with
 |none=>rfl
 |some t=>have:=this s a;rw[h] at this;cases this
def wh (s:Rr):O:=if s="times" then 2 else 1
theorem tbB:∀s∈BF,tab_BINDING.lookup (q s)=Y (.int (wh s:I)):=λs a=>by
 have:∀s∈BF,iOf (tab_BINDING.lookup<|q s)=Y (wh s:I):=by decide +kernel
 exact fQ<|this s a
theorem yh (a:U Str)(x:Str)(c:a.length<=1000)(m n:Md):oSem .catT Lv [(m,.tup<|aA a),(n,.tup [.str x])]=Y (.s,.tup<|aA<|a++[x]):=by show(if fits ((aA a).length+[T.str x].length)=Lw then Y ((.s,.tup<|aA a++[.str x]):W) else J)=_;have b:fits ((aA a).length+[T.str x].length)=true:=Ri (by rw[LB,L0];show _<=16777215;lia);rw[Rk b,aA,aA,L8];rfl
def whT:L O->T
|some j=>.int (j:I)
|none=>.non
theorem fI:whT J=.non:=rfl
theorem eP (j:O):whT (Y j)=.int (j:I):=rfl
theorem flS (x:Str):∀a:U Str,(M.flatT (.str x)&&(aA a).all M.flatT)=Lw
|[]=>rfl
|b::a=>flS x a
theorem anS (x:Str):∀a:U Str,((aA a).any λt=>eqT t<|.str x)=a.contains x
|[]=>rfl
|b::a=>by rw[aA,LJ,OY,anS x a,Qh];congr 1;show(b==x)=(x==b);exact QA.mpr<|by simp only[beq_iff_eq];exact eq_comm
abbrev BWB:U S:=[
   .ite (.q [0,1,2,4] [3]) (.not (.call 243 [.var 4,.ifx (.op .eq Lv [.var 3,.var 2]) (.op .catT Lv [.var 1,.tup [.op .ix Lv [.var 0,.cst (.int 1)]]]) (.var 1)])) [
    .ret [] (.cst<|.bl Lv)] []]
def dF (F:U Str->T->Rl)(w:L O)(x:Str)(a:U Str):O->U T->Rl
|_,[]=>Lw
|i,p::ps=>F (if w=Y i then a++[x] else a) p&&dF F w x a (i+1) ps
theorem BP {l:O}{t:U T}{F:U Str->T->Rl}{w:Option O}{x:Str}{a:U Str}{L:O}(Z:L<=1000)(hb:a.length+1<=L)(hx:w=J\/∃y,t=y::.str x::t.drop 2):∀(ps:U T) (i:O) (A D G:Md) (M N:Option W),
 (∀p∈ps,∀a,a.length<=L->∀m f,C l 243 [(m,p),(f,.tup<|aA a)]=.ok ((.d,.bl<|F a p),[])) ->
 ∃c,bY [3,4] (evSs (C l) BWB) (eL .s i ps) [Y (A,.tup t),Y (D,.tup<|aA a),Y (G,whT w),M,N]=if dF F w x a i ps then .nx c else .rt (.d,.bl Lv) c
|[],i,A,D,G,M,N,_=>⟨_,rfl⟩
| p::ps,i,A,D,G,M,N,h=>by
 have step:∀b,F (if w=Y i then a++[x] else a) p=b->∃g k o r u,evSs (C l) BWB [Y (A,.tup t),Y (D,.tup (aA a)),Y (G,whT w),Y (.d,.int (i:I)),Y (.s,p)]=(if b then Fl.nx else Fl.rt (.d,.bl Lv)) [Y (g,.tup t),Y (k,.tup (aA a)),Y (o,whT w),r,u]:=λb v=>by
  cases w with
  |none=>
   rw[Rn<|by simp] at v;have e:=λm f=>h p LI a (by lia) m f;rw[v] at e;have en:∀m n,oSem .eq Lv [(m,.int (i:I)),(n,.non)]=Y (.d,.bl Lv):=λ_ _=>rfl;cases b with
   |true=>exact⟨_,_,_,_,_,by simp_all only[fI,eP,en,e];rfl⟩
   |false=>exact⟨_,_,_,_,_,by simp_all only[fI,eP,en,e];rfl⟩
  | some j =>
   obtain⟨y,hy⟩:=hx.resolve_left (by simp);have P:atI t 1=Y (.str x):=by rw[hy];exact at1 y (.str x) _
   by_cases H:j=i
   .subst H;rw[Rk rfl] at v;have e:=λm f=>h p LI (a++[x]) (by rw[LH,L0];lia) m f;rw[v] at e;have en:((j:I)==(j:I))=true:=by simp
    have Q:=λm n=>yh a x (by lia) m n;cases b with
    |true=>exact⟨_,_,_,_,_,by simp_all only[fI,eP,en,P,Q,e];rfl⟩
    |false=>exact⟨_,_,_,_,_,by simp_all only[fI,eP,en,P,Q,e];rfl⟩
   .rw [Rn (by simp; lia)] at v;have e:=λm f=>h p LI a (by lia) m f;rw[v] at e;have en:((i:I)==(j:I))=false:=beq_eq_false_iff_ne.mpr (by lia);cases b with
    |true=>exact⟨_,_,_,_,_,by simp_all only[fI,eP,en,e];rfl⟩
    |false=>exact⟨_,_,_,_,_,by simp_all only[fI,eP,en,e];rfl⟩
 obtain⟨g,k,o,r,u,step⟩:=step _ rfl;rw[dF];cases z:F (if w=Y i then a++[x] else a) p with
 |true=>rw[z] at step;obtain⟨c,ih⟩:=BP Z hb hx ps (i+1) g k o r u λq hq=>h q<|LO _ hq;rw[MZ];exact⟨c,(Rw (Fl.turn · _) step).trans ih⟩
 |false=>rw[z] at step;exact⟨_,(Rw (Fl.turn · _) step).trans rfl⟩
theorem x9 {n d:O}{s:Rr}{r ps:U T}{F:U Str->T->Rl}{w:Option O}{x:Str}{bd:U Str}(H:bd.length+(d+1)<=1000)(D:(tab_BINDING.lookup<|q s).getD .non=whT w)(hx:w=J\/∃y,T.str (q s)::r=y::.str x::(T.str (q s)::r).drop 2)
  (hp:∀m,C (n+d+3) 176 [(m,.tup (.str (q s)::r))]=.ok ((.s,.tup ps),[])) (h:∀p∈ps,∀bd,bd.length+d<=1000->∀m m',C (n+d+3) 243 [(m,p),(m',.tup<|aA bd)]=.ok ((.d,.bl<|F bd p),[])) (m m':Md):
  C (n+(d+1)+3) 243 [(m,.tup (.str (q s)::r)),(m',.tup<|aA bd)]=.ok ((.d,.bl<|(!(w.isSome&&bd.contains x))&&dF F w x bd 0 ps),[]):=by
 have a:=λm=>bD (n+d+2) (q s) r m;rw[D] at a;rw[show n+d+2+1=n+d+3 from rfl] at a
 have e:∀o t u,∃i,bY [3,4] (evSs (C (n+d+3)) BWB) (eL .s 0 ps) [Y (o,.tup (.str (q s)::r)),Y (t,.tup (aA bd)),Y (u,whT w),J,J]=if dF F w x bd 0 ps then .nx i else .rt (.d,.bl Lv) i:=λo t u=>
  BP (L:=1000-d) (by lia) (by lia) hx ps 0 o t u J J λp hp bd A m m'=>h p hp bd (by lia) m m'
 rw[show n+(d+1)+3=(n+d+3)+1 by lia,iQ,x_run _ _ _ rfl];cases w with
 | none =>
  have en:∀m n,oSem .isnot Lv [(m,.non),(n,.non)]=Y (.d,.bl Lv):=λ_ _=>rfl;obtain⟨v,b⟩:=e .s m' .d;obtain⟨z,c⟩:=e .s .s .d;rw[fI] at a b c;cases g:dF F J x bd 0 ps with
  |true=>rw[g,Rk rfl] at b c;simp_all only[aI,a,hp,en,b,c,Qf,Mz,Nx,MZ]
  |false=>rw[g,Rn LX] at b c;simp_all only[aI,a,hp,en,b,c,Qf,Mz,Nx,MZ]
 | some j =>
  obtain⟨y,G⟩:=hx.resolve_left (by simp);have k:atI (T.str (q s)::r) 1=Y (.str x):=by rw[G];exact at1 y (.str x) _
  have en:∀m n,oSem .isnot Lv [(m,.int (j:I)),(n,.non)]=Y (.d,.bl Lw):=λ_ _=>rfl;have l:=flS x bd;have f:=anS x bd;obtain⟨v,b⟩:=e .s m' .d;obtain⟨z,c⟩:=e .s .s .d;rw[eP] at a b c;cases hd:bd.contains x with
  |true=>rw[hd] at f;simp_all only[aI,a,hp,en,k,l,f,Pp,MZ,Nw,Mz]
  | false =>
   rw[hd] at f;cases g:dF F (Y j) x bd 0 ps with
   |true=>rw[g,Rk rfl] at b c;simp_all only[aI,a,hp,en,k,l,f,b,c,Pp,M0,Nx,MZ]
   |false=>rw[g,Rn LX] at b c;simp_all only[aI,a,hp,en,k,l,f,b,c,Pp,M0,Nx,MZ]
def bZ:O->U Str->T->Rl
|0,_,_=>Lw
|d+1,a,t=>match bnd t with
 |none=>dF (bZ d) J ⟨#[]⟩ a 0<|c9 t
 |some x=>!a.contains x&&dF (bZ d) (Y<|(c9 t).length-1) x a 0 (c9 t)
theorem lI {d:O}{a:U Str}{t:T}(h:bnd t=J):bZ (d+1) a t=dF (bZ d) J ⟨#[]⟩ a 0 (c9 t):=by rw[bZ,h]
theorem xD {d:O}{a:U Str}{t:T}{x:Str}(h:bnd t=Y x):bZ (d+1) a t=(!a.contains x&&dF (bZ d) (Y<|(c9 t).length-1) x a 0 (c9 t)):=by rw[bZ,h]
theorem b3L:∀s∈LF,(b3.any λt=>eqT t<|.str<|q s)=false:=by decide +kernel
theorem b3N:∀s∈NF,(b3.any λt=>eqT t<|.str<|q s)=false:=by decide +kernel
theorem b3B:∀s∈BF,(b3.any λt=>eqT t<|.str<|q s)=true:=by decide +kernel
theorem whA:∀s∈BF,wh s=arB s-1:=by decide
theorem ir:∀(d:O) (t:T),WT d t->∀(n:O) (bd:U Str) (m m':Md),bd.length+d<=1000->C (n+d+3) 243 [(m,t),(m',.tup<|aA bd)]=.ok ((.d,.bl<|bZ d bd t),[])
|0,_,h,_,_,_,_,_=>nomatch h
| d+1,t,h,n,bd,m,m',c=>by
 have leaf:∀(s:Rr) (x:T),s∈LF->C (n+(d+1)+3) 243 [(m,.tup [.str (q s),x]),(m',.tup (aA bd))]=.ok ((.d,.bl (bZ (d+1) bd (.tup [.str (q s),x]))),[]):=λs x a=>by have:=x9 (n:=n) (d:=d) (s:=s) (r:=[x]) (ps:=[]) (F:=bZ d) (w:=J) (x:=⟨#[]⟩) (bd:=bd) c (by rw[tbL s a];rfl) (.inl rfl) (λm=>cP (n+d+1) s (dg s a).2.1 x [] m) (λp hp=>nomatch hp) m m';rw[lI<|fO (b3L s a) _,cT s (dg s a).2.1];exact this
 cases h with
 |num g i=>exact leaf "num" _<|by decide
 |name a=>exact leaf "name" _<|by decide
 |none hk=>exact leaf "none" _<|by decide
 |node a f hp=>rename_i s ps;have:=x9 (n:=n) (d:=d) (s:=s) (r:=ps) (ps:=ps) (F:=bZ d) (w:=J) (x:=⟨#[]⟩) (bd:=bd) c (by rw[tbN s a];rfl) (.inl rfl) (λm=>kz (n+d+1) s a ps m) (λp h bd b m m'=>ir d p (hp p h) n bd m m' b) m m';rw[lI<|fO (b3N s a) _,fC s<|ahN s a];exact this
 |bind a hx f hp=>rename_i s x ps;have:=x9 (n:=n) (d:=d) (s:=s) (r:=.str (q x)::ps) (ps:=ps) (F:=bZ d) (w:=Y<|wh s) (x:=q x) (bd:=bd) c (by rw[tbB s a];rfl) (.inr ⟨_,rfl⟩) (λm=>cP (n+d+1) s (hU s a).2.1 _ ps m) (λp h bd b m m'=>ir d p (hp p h) n bd m m' b) m m';have e:bnd (.tup (.str (q s)::.str (q x)::ps))=Y (q x):=Rk<|b3B s a;rw[xD e,cT s (hU s a).2.1,f,<- whA s a];exact this
theorem oG:∀(l a:U Str),(l.foldl addS a).length<=a.length+l.length
|[],a=>LM _
| x::l,a=>by
 rw[OP,LG];have b:=oG l<|addS a x
 have:(addS a x).length<=a.length+1:=by
  unfold addS;split
  .lia
  .rw[LH,L0];exact LM _
 lia
theorem oH:∀(l a:U Str),((l.foldl addS a).length=a.length+l.length) ↔ (l.Nodup/\∀x∈l,x ∉ a)
|[],a=>⟨λ_=>⟨List.nodup_nil,λ_ h=>nomatch h⟩,λ_=>rfl⟩
| x::l,a=>by
 rw[OP,LG];by_cases hx:a.contains x=Lw
 .have e:addS a x=a:=Rk hx;rw[e];have:=oG l a;constructor
  .intro h;lia
  .intro h;exact Rm (by simpa using hx)<|h.2 x LI
 .have e:addS a x=a++[x]:=Rn hx;have g:=oH l (a++[x]);rw[LH,L0] at g;rw[e,show a.length+(l.length+1)=a.length+1+l.length by lia,g,N0];have f:x ∉ a:=by simpa using hx
  constructor
  .rintro ⟨d,c⟩;refine⟨⟨λj=>c x j (by simp),d⟩,λy b=>?_⟩;rcases LK.mp b with rfl|b
   .exact f
   .exactλhk=>c y b<|Nb _ hk
  .rintro ⟨⟨d,c⟩,i⟩;refine⟨c,λy b hk=>?_⟩;rcases Ms.mp hk with hk|hk
   .exact i y (LO _ b) hk
   .rw [LR.mp hk] at b;exact d b
theorem AO (l:U Str):(distS l).length=l.length ↔ l.Nodup:=by have:=oH l [];rw[N9,MY] at this;exact this.trans ⟨λh=>h.1,λh=>⟨h,λ_ _=>by simp⟩⟩
noncomputable abbrev hT (a:U<|Str×T):U T:=a.map λp=>T.tup [.str p.1,p.2]
theorem nM (a b:T):atI [a,b] 0=Y a:=at0 _ _
theorem n8 (n:O)(x:Str)(k:T)(hx:nmA x=Lw)(hk:KK 5 k)(m:Md):C (n+8) 241 [(m,.tup [.str x,k])]=.ok ((.d,.bl Lw),[]):=by
 have b:=λm c=>xT 5 k hk (n+1) 5 (by decide) m c;have f:∀m,C (n+7) 215 [(m,k)]=.ok ((.d,.bl Lw),[]):=λm=>by rw[iJ,x_run _ _ _ rfl];simp_all only[cJ,b]
 have e:=λm=>f6 (n+6) x m;rw[hx] at e;have a:(!((([T.str x,k].length:O):I)==2))=false:=rfl;rw[nO,x_run _ _ _ rfl];simp_all only[dn,eI,a,nM,g8,e,f]
theorem lfS (m:Md)(x:Str):lf m (.str x)=.d:=by cases m<;>rfl
theorem Gq (a:U<|Str×T):(a.map λp=>((.s,.str p.1):W)).all okD=true:=by rw[MN];intro w b;obtain⟨p,_,rfl⟩:=Mm.mp b;rfl
theorem pq (n:O)(a:U<|Str×T)(b:L W):aH [1] (dS<|evE (C n)<|.op .ix Lv [.var 1,.cst<|.int 0]) ((hT a).map λt=>[((.s,t):W)]) [b,J] []=.ok ([]++a.map (λp=>((.s,.str p.1):W)),[b,J]):=by rw[hT,Mt];refine bh _ _ [] λp hp=>⟨_,[b,Y (.s,.tup [.str p.1,p.2])],rfl,?_,rfl⟩;simp_all only[nM,lfS]
theorem ka (a:U<|Str×T):trees (a.map λp=>((.s,.str p.1):W))=aA (a.map (·.1)):=by rw[bb (λ_=>Md.s) (λp:Str×T=>T.str p.1),aA,Mt];rfl
theorem oF (n:O)(a:U<|Str×T)(m:Md):C (n+1) 509 [(m,.tup<|hT a)]=.ok ((.d,.tup<|aA<|a.map (·.1)),[]):=by have c1:=pq n a;have c:=ka a;have b:=Gq a;rw[gb,x_run _ _ _ rfl];simp_all only[b7,c1,c,Rk b]
theorem zR (n:O)(a:U<|Str×T)(m:Md):C (n+1) 509 [(m,.lst<|hT a)]=.ok ((.d,.tup<|aA<|a.map (·.1)),[]):=by have c1:=pq n a;have c:=ka a;have b:=Gq a;rw[gb,x_run _ _ _ rfl];simp_all only[b7,c1,c,Rk b]
theorem lJ (n:O)(a:U<|Str×T):∃b,C (n+1) 509 [(.s,.tup<|hT a)]=.ok ((b,.tup<|aA<|a.map (·.1)),[]):=⟨_,oF n a .s⟩
theorem B4:∀a:U Str,strsOf (aA a)=Y a
|[]=>rfl
|s::a=>by show(strsOf<|aA a).map (s::·)=_;rw[B4 a];rfl
theorem qC (n:O)(a:U T)(b:6<a.length)(m:Md):C (n+1) 508 [(m,.tup a)]=.ok ((.d,.bl Lv),[]):=by have c1:decide ((6:I)<((a.length:O):I))=true:=Ri (by lia);rw[fh,x_run _ _ _ rfl];simp_all only[bH,eI,c1]
theorem tS (n:O)(a:U T)(g:T->Rl)(c:∀t∈a,∀m,C n 241 [(m,t)]=.ok ((.d,.bl<|g t),[]))(b:L W):aH [1] (dS<|evE (C n)<|.call 241 [.var 1]) (a.map λt=>[((.s,t):W)]) [b,J] []=.ok ([]++a.map (λt=>((.d,.bl<|g t):W)),[b,J]):=
 bh _ _ [] λu e=>⟨_,[b,Y (.s,u)],rfl,by
  have h:=λm=>c u e m;simp_all only[h],rfl⟩
theorem bT (g:T->Rl)(a:U T):trees (a.map λt=>((.d,.bl<|g t):W))=(a.map g).map T.bl:=by rw[bb (λ_=>Md.d) λu=>T.bl<|g u,Mt];rfl
def wU (a:U<|Str×T):Prop:=∀p∈a,nmA p.1=Lw/\KK 5 p.2
theorem ndB (a:U Str)(b:a.length<1000):((((distS a).length:O):I)==((a.length:O):I))=decide a.Nodup:=by
 have:=AO a;by_cases h:a.Nodup
 .rw[Ri h,this.mpr h];exact Rq _
 .rw [Rt h];exact beq_eq_false_iff_ne.mpr λe=>h<|this.mp<|by lia
theorem Ds (n:O)(a:U<|Str×T)(h:wU a)(m:Md):C (n+9) 508 [(m,.tup<|hT a)]=.ok ((.d,.bl<|decide (a.length<=6)&&decide (a.map (·.1)).Nodup),[]):=by
 by_cases b:a.length<=6
 .have f:∀ t∈hT a,∀ m,C (n+8) 241 [(m,t)]=.ok ((.d,.bl Lw),[]):=fun t g m=>by obtain⟨p,hp,rfl⟩:=Mm.mp g;exact n8 n p.1 p.2 (h p hp).1 (h p hp).2 m
  have c1:decide ((6:I)<(((hT a).length:O):I))=false:=Rt (by rw[LB];lia);have e:=λl=>tS (n+8) (hT a) (λ_=>Lw) f l;have k:=bT (λ_=>Lw)<|hT a;have c:((hT a).map λ_=>Lw).all id=true:=zr _ _ λ_ _=>rfl;obtain⟨o,e1⟩:=lJ (n+7) a;have i:=B4<|a.map (·.1);have s2:decide ((a.map (·.1)).length<1000)=true:=Ri (by rw[LB];lia);have s3:=ndB (a.map (·.1)) (by rw[LB];lia);have j:(((a.map (·.1)).length:O):I)=(((hT a).length:O):I):=by rw[LB,LB]
  rw[j] at s3;rw[Ri b,MZ,fh,x_run _ _ _ rfl];simp_all only[bH,eI,c1,e,k,dJ,c,e1,i,s2,s3]
 .rw [Rt b,Mz];exact qC (n+8) _ (by rw[LB];lia) m
theorem WT.up1:∀{d:O} {t:T},WT d t->WT (d+1) t
|0,_,h=>nomatch h
|d+1,_,h=>by
 cases h with
 |num c e=>exact .num c e
 |name a=>exact .name a
 |none hk=>exact .none hk
 |node a b hp=>exact .node a b λp h=>WT.up1<|hp p h
 |bind a hx b hp=>exact .bind a hx b λp h=>WT.up1<|hp p h
theorem WT.up {d:O}{t:T}(h:WT d t):∀{d':O},d<=d'->WT d' t
|0,hd=>by
 have e:d=0:=by lia
 rw[e] at h;exact h
|d'+1,hd=>by
 by_cases e:d=d'+1
 .rw[<- e];exact h
 .exact(WT.up h (d':=d')<|by lia).up1
theorem WT.pts {d:O}{t:T}(h:WT (d+1) t):(∀p∈c9 t,WT d p)/\(c9 t).length<=3:=by obtain⟨s,r,k,ps,rfl,e,f,g,a,b,c⟩:=kE h;rw[a];exact⟨c,b⟩
theorem Hw:∀l:U O,l≠[]->maxI (l.map λ(k:O)=>(k:I))=(mxN l:O)
|[],h=>Rm rfl h
|[a],_=>by simp[maxI,mxN]
|a::b::l,_=>by have c:=Hw (b::l) (by simp);rw[LJ] at c;show max (a:I) (maxI ((b:I)::l.map λ(k:O)=>(k:I)))=_;rw[c];show max (a:I) ((mxN (b::l):O):I)=((max a (mxN (b::l)):O):I);lia
theorem By:∀l:U O,intsOf (l.map λ(k:O)=>T.int (k:I))=Y (l.map λ(k:O)=>(k:I))
|[]=>rfl
|p::ps=>by have a:=By ps;rw[LJ,LJ];simp only[intsOf,a,Option.map_some,PF]
def due (e:O)(a:U<|Str×T)(t:T):Rl:=(decide (a.length<=6)&&decide (a.map (·.1)).Nodup)&&(decide (szF e t<=200)&&(decide (dpF e t<=20)&&bZ e (a.map (·.1)) t))
theorem oB (b:U<|Str×T)(Q:wU b)(hl:b.length<=7)(t:T)(e:O)(he:e<=21)(h:WT e t)(hz:szF e t<=50000)(m:Md):C 39 507 [(m,.tup [.tup<|hT b,t])]=.ok ((.d,.bl<|due e b t),[]):=by
 have n:(!((([T.tup (hT b),t].length:O):I)==2))=false:=rfl;have c:=λm=>Ds 29 b Q m;have u:∀m,C 38 227 [(m,t)]=.ok ((.d,.bl Lw),[]):=λm=>by have:=va h (26-e) m;rw[show 26-e+e+12=38 by lia] at this;exact this
 have g:∀m,C 38 253 [(m,t)]=.ok ((.o .s,.lst (plT [] (aC e t))),[]):=λm=>by have v:(aC e t).length<=100000:=LL (show(aC e t).length<=50000 from hz) (by decide);have:=qu e t h (by lia) v (34-e) m;rw[show 34-e+e+4=38 by lia] at this;exact this
 obtain⟨μ,N⟩:=lJ 37 b;have P:∀m w,C 38 243 [(m,t),(w,.tup (aA (b.map (·.1))))]=.ok ((.d,.bl (bZ e (b.map (·.1)) t)),[]):=λm w=>by have:=ir e t h (35-e) (b.map (·.1)) m w (by rw[LB];lia);rw[show 35-e+e+3=38 by lia] at this;exact this
 have j:atI [T.tup (hT b),t] 0=Y (T.tup (hT b)):=at0 _ _;have i:atI [T.tup (hT b),t] 1=Y t:=at1 _ _ _;have D:((aC e t).map Me)≠[]:=λz=>wo h<|OD.mp z;have n2:=v8 e t h;rw[JS] at g
 have c3:∀r,aH [2] (dS (evE (C 38) (.op .len Lv [.var 2]))) (((aC e t).map λl=>T.tup (nT l)).map λt=>[((.s,t):W)]) [r,Y (.s,.lst ((aC e t).map λl=>T.tup (nT l))),J] []=.ok ([]++(aC e t).map (λl=>((.d,.int (l.length:O)):W)),[r,Y (.s,.lst ((aC e t).map λl=>T.tup (nT l))),J]):=λr=>by
  rw[Mt];refine bh _ _ [] λl _=>⟨_,[r,Y (.s,.lst<|(aC e t).map λl=>T.tup<|nT l),Y (.s,.tup<|nT l)],rfl,?_,rfl⟩;have e1:(((nT l).length:O):I)=((l.length:O):I):=by rw[LB]
  generalize (aC e t).map (λl=>T.tup<|nT l)=q;simp_all only[e1]
 have F:trees ((aC e t).map (λl=>((.d,.int (l.length:O)):W)))=((aC e t).map Me).map λ(k:O)=>T.int (k:I):=by rw[bb (λ_=>Md.d) (λl:U O=>T.int (l.length:O)),Mt];rfl
 have G:=By<|(aC e t).map Me;have H:=Hw _ D
 have M:(((aC e t).map Me).map λ(k:O)=>(k:I)).isEmpty=false:=by
  cases Z:((aC e t).map Me) with
  |nil=>exact Rm Z D
  |cons a l=>rfl
 have f:decide ((200:I)<((((aC e t).map λl=>T.tup (nT l)).length:O):I))=!decide (szF e t<=200):=by rw[LB,<- decide_not];show decide ((200:I)<((szF e t:O):I))=_;exact decide_eq_decide.mpr<|by lia
 have p:decide ((20:I)<=((mxN ((aC e t).map Me):O):I))=!decide (dpF e t<=20):=by rw[<- decide_not];exact decide_eq_decide.mpr<|by lia
 unfold due;generalize (aC e t).map (λl=>T.tup<|nT l)=q at g c3 f;cases x:decide (b.length<=6)&&decide (b.map (·.1)).Nodup with
 |false=>rw[x] at c;rw[b9,x_run _ _ _ rfl];simp_all only[aP,eI,n,j,i,c,Mz]
 | true =>
  rw[x] at c;cases y:decide (szF e t<=200) with
  |false=>rw[y] at f;rw[b9,x_run _ _ _ rfl];simp_all only[aP,eI,n,j,i,c,u,g,f,Nx,Mz,M0]
  | true =>
   rw[y] at f;cases A:decide (dpF e t<=20) with
   |false=>rw[A] at p;rw[b9,x_run _ _ _ rfl];simp_all only[aP,eI,n,j,i,c,u,g,f,c3,F,G,H,M,p,Nx,Nw,Mz,M0]
   |true=>rw[A] at p;rw[b9,x_run _ _ _ rfl];simp_all only[aP,eI,n,j,i,c,u,g,f,c3,F,G,H,M,p,N,P,Nx,Nw,MZ]
abbrev sp:Str:=q " "
theorem lO:sp=⟨#[32]⟩:=by decide +kernel
theorem bo (x y:Str):(x++y).cps.toList=x.cps.toList++y.cps.toList:=Q2
theorem A9 {x y:Str}(h:x.cps.toList=y.cps.toList):x=y:=by cases x;cases y;exact Rw Str.mk<|OQ.mp h
theorem jj (a b d:Str):a++(b++d)=(a++b)++d:=by cases a;cases b;cases d;exact Rw Str.mk (Q0).symm
theorem iB (s:Str):∀(b a:U Str),b≠[]->a≠[]->Str.join s (b++a)=Str.join s b++s++Str.join s a
|[],_,h,_=>Rm rfl h
|_::_,[],_,h=>Rm rfl h
|[x],y::a,_,_=>rfl
|x::c::b,y::a,_,d=>by have e:=iB s (c::b) (y::a) (Mq _ _) d;show x++s++Str.join s ((c::b)++(y::a))=(x++s++Str.join s (c::b))++s++Str.join s (y::a);rw[e,jj,jj]
theorem dA (s:Str):∀(c:U<|U Str),(∀l∈c,l≠[])->∀d,Str.join s (c.map (Str.join s)++d)=Str.join s (c.flatten++d)
|[],_,d=>rfl
| l::c,h,d=>by
 have k:=h l LI;have p:=dA s c (λm n=>h m<|LO _ n) d;rw[LJ,MT,L6,MA];by_cases e:c.flatten++d=[]
 .have i:c=[]:=by
   cases c with
   |nil=>rfl
   |cons m c=>rw[MT,L6] at e;exact Rm (QP.mp e).1<|h m<|LO _ LI
  subst i;have j:d=[]:=e;subst j;show Str.join s l=Str.join s (l++[]);rw[LW]
 .have g:c.map (Str.join s)++d≠[]:=by intro z;obtain⟨a,b⟩:=QP.mp z;rw[OD.mp a,b] at e;exact e rfl
  rw[iB s l _ k e,<- p]
  have:∀f:U Str,f≠[]->Str.join s (Str.join s l::f)=Str.join s l++s++Str.join s f:=λf o=>by
   cases f with
   |nil=>exact Rm rfl o
   |cons z f=>rfl
  exact this _ g
structure Gw (x:Str):Prop where
 sz:x.cps.size<=20
 cp:∀c∈x.cps.toList,c<0x110000
 fr:32 ∉ x.cps.toList
theorem bX (s:Rr)(d:s.length<=20)(f:32 ∉ s.toList.map L7):Gw (q s):=by
 have e:(q s).cps.toList=s.toList.map L7:=by rw[q,Str.ofString_eq_toList]
 refine⟨?_,λc b=>?_,by rw[e];exact f⟩
 .rw[<- Mn,e,LB,O1];exact d
 .rw [e] at b;obtain⟨ch,_,rfl⟩:=Mm.mp b;have a:=ch.valid;rcases a with a|a
  .exact QF a (by decide)
  .exact a.2
theorem nt {x:Str}(a:∀c∈x.cps.toList,c<0x110000)(b:x.cps.size<=LIM):sOk x=true:=by unfold sOk;rw[LQ];refine⟨?_,Ri b⟩;rw[OC];intro c d;exact Ri<|a c<|by simpa using d
theorem Ex {x:Str}(h:Gw x):sOk x=true:=nt h.cp<|LL h.sz<|by show 20<=16777215;decide
theorem kx:∀{b:U Str},(∀x∈b,∀c∈x.cps.toList,c<0x110000)->∀c∈(Str.join sp b).cps.toList,c<0x110000
|[],_,c,a=>by cases a
|[x],h,c,a=>h x LI c a
| x::y::r,h,c,a=>by
 have e:(Str.join sp (x::y::r)).cps.toList=x.cps.toList++sp.cps.toList++(Str.join sp (y::r)).cps.toList:=by show(x++sp++Str.join sp (y::r)).cps.toList=_;rw[bo,bo]
 rw[e] at a;rcases Ms.mp a with a|a
 .rcases Ms.mp a with a | a
  .exact h x LI c a
  .rw [lO] at a;rw[LR.mp a];decide
 .exact kx (λz d=>h z<|LO _ d) c a
theorem gD:∀{ws:U Str},(∀x∈ws,Gw x)->(Str.join sp ws).cps.size<=21 * ws.length
|[],_=>LM _
|[x],h=>LL (h x LI).sz<|by show 20<=21;decide
| x::y::r,h=>by
 have c:=gD (ws:=y::r) λz a=>h z<|LO _ a;have b:=(h x LI).sz;have e:(Str.join sp (x::y::r)).cps.size=x.cps.size+1+(Str.join sp (y::r)).cps.size:=by rw[<- Mn,<- Mn,<- Mn];show(x++sp++Str.join sp (y::r)).cps.toList.length=_;rw[bo,bo,LH,LH,lO];rfl
 rw[e,LG];lia
theorem j5 (c:O):∀(x b y:U O),c ∉ x->spl c b (x++y)=spl c (b++x) y
|[],b,y,_=>by rw[LW];rfl
|a::x,b,y,h=>by have d:a≠c:=λz=>h<|z ▸ LI;show spl c b (a::(x++y))=_;rw[spl,Rn d,j5 c x (b++[a]) y λz=>h<|LO _ z,L6];rfl
theorem dk:∀{ws:U Str},ws≠[]->(∀x∈ws,Gw x)->spl 32 [] (Str.join sp ws).cps.toList=ws.map λx=>x.cps.toList
|[],h,_=>Rm rfl h
|[x],_,h=>by have:=j5 32 x.cps.toList [] [] (h x LI).fr;rw[LW] at this;exact this
| x::y::r,_,h=>by
 have b:=dk (ws:=y::r) (Mq _ _) λz a=>h z<|LO _ a;have e:(Str.join sp (x::y::r)).cps.toList=x.cps.toList++32::(Str.join sp (y::r)).cps.toList:=by show(x++sp++Str.join sp (y::r)).cps.toList=_;rw[bo,bo,lO,L6];rfl
 rw[e,j5 32 _ _ _ (h x LI).fr,Ml,spl,Rk rfl,b];rfl
theorem qG {a:U Str}(b:a≠[])(h:∀x∈a,Gw x):splS (Str.join sp a)=a:=by
 unfold splS;rw[dk b h,Mt]
 conv=>rhs;rw[<- List.map_id a]
 exact Q1 λx _=>A9 rfl
theorem gH:∀a:U Str,strsOf (a.map T.str)=Y a
|[]=>rfl
|x::a=>by show(strsOf<|a.map T.str).map (x::·)=_;rw[gH a];rfl
inductive Kd where|num|truth|pair (a b:Kd)|row (a:Kd)
def Kd.th:Kd->T
|.num=>.tup [.str<|q "num"]
|.truth=>.tup [.str<|q "truth"]
|.pair a b=>.tup [.str<|q "pair",a.th,b.th]
|.row a=>.tup [.str<|q "row",a.th]
def Kd.deep:Kd->O
|.num=>0 | .truth=>0 | .pair a b=>max a.deep b.deep+1 | .row a=>a.deep+1
def Kd.hd:Kd->Str
|.num=>q "num" |.truth=>q "truth" |.pair _ _=>q "pair" |.row _=>q "row"
def Kd.ps:Kd->U Kd
|.num=>[] | .truth=>[] | .pair a b=>[a,b] | .row a=>[a]
theorem eQ:∀k:Kd,k.th=.tup (.str k.hd::k.ps.map Kd.th)
|.num=>rfl
|.truth=>rfl
|.pair _ _=>rfl
|.row _=>rfl
def kw:Kd->U Str
|.num=>[q "num"] | .truth=>[q "truth"] | .pair a b=>q "pair"::(kw a++kw b) | .row a=>q "row"::kw a
theorem hX:∀k:Kd,eqT k.th k.th=Lw
|.num=>by show(q "num"==q "num"&&Lw)=Lw;rw[Rq];rfl
|.truth=>by show(q "truth"==q "truth"&&Lw)=Lw;rw[Rq];rfl
|.pair a b=>by show(q "pair"==q "pair"&&(eqT a.th a.th&&(eqT b.th b.th&&Lw)))=Lw;rw[Rq,hX a,hX b];rfl
|.row a=>by show(q "row"==q "row"&&(eqT a.th a.th&&Lw))=Lw;rw[Rq,hX a];rfl
theorem lV:∀k:Kd,dp k.th<=k.deep+1
|.num=>LM _
|.truth=>LM _
|.pair a b=>by have:=lV a;have:=lV b;show max 0 (max (dp a.th)<|max (dp b.th) 0)+1<=max a.deep b.deep+1+1;lia
|.row a=>by have:=lV a;show max 0 (max (dp a.th) 0)+1<=a.deep+1+1;lia
theorem cz (k:Kd):look (.s,k.th)=Y (.s,k.th):=rfl
theorem dW (m:Md):∀k:Kd,lf m k.th=m
|.num=>rfl
|.truth=>rfl
|.pair _ _=>rfl
|.row _=>rfl
theorem EN (h:Rl)(m n:Md)(a b:T)(c:dp a<=64)(e:dp b<=64):oSem .ne h [(m,a),(n,b)]=Y (.d,.bl<|!eqT a b):=by show(if(decide (dp a<=64)&&decide (dp b<=64))=Lw then _ else J)=_;rw[Ri c,Ri e];rfl
abbrev sT (a:U Str):T:=.lst<|a.map T.str
theorem ik:∀k:Kd,kw k≠[]
|.num=>by simp[kw]
|.truth=>by simp[kw]
|.pair _ _=>by simp[kw]
|.row _=>by simp[kw]
theorem dP:∀k:Kd,∀x∈kw k,Gw x
|.num,x,h=>by rw[LR.mp h];exact bX _ (by decide)<|by decide
|.truth,x,h=>by rw[LR.mp h];exact bX _ (by decide)<|by decide
| .pair a b,x,h=>by
 rcases LK.mp h with h|h
 .rw[h];exact bX _ (by decide)<|by decide
 .rcases Ms.mp h with h | h
  .exact dP a x h
  .exact dP b x h
|.row a,x,h=>by
 rcases LK.mp h with h|h
 .rw[h];exact bX _ (by decide)<|by decide
 .exact dP a x h
theorem kn:∀k:Kd,(kw k).length+1<=2 ^ (k.deep+1)
|.num=>by decide
|.truth=>by decide
|.pair a b=>by have c:=kn a;have d:=kn b;have e:2 ^ (a.deep+1)<=2 ^ (max a.deep b.deep+1):=OZ (by decide) (by lia);have f:2 ^ (b.deep+1)<=2 ^ (max a.deep b.deep+1):=OZ (by decide) (by lia);show(kw a++kw b).length+1+1<=2 ^ (max a.deep b.deep+1+1);rw[LH,OV];lia
|.row a=>by have c:=kn a;show(kw a).length+1+1<=2 ^ (a.deep+1+1);rw[OV];lia
theorem i6 {k:Kd}(h:k.deep<=4):(kw k).length<=31:=by have a:=kn k;have b:2 ^ (k.deep+1)<=2 ^ 5:=OZ (by decide) (by lia);lia
theorem gM {a:U Str}(h:∀x∈a,Gw x)(b:a.length<=1000):sOk (Str.join sp a)=true:=nt (kx λx hx=>(h x hx).cp) (by
 have:=gD h;show _<=16777215;lia)
theorem ie:∀{ws:U Str} {b:O},(∀x∈ws,x.cps.size<=b)->(ws.map λs=>s.cps.size+sp.cps.size).sum<=ws.length * (b+1)
|[],_,_=>Mw _
|x::ws,b,h=>by
 have c:=ie (ws:=ws) (b:=b) λy a=>h y<|LO _ a;have:=h x LI;have e:sp.cps.size=1:=by rw[lO];rfl
 rw[LJ,ML,LG,Nat.add_mul,Nat.one_mul,e];rw[e] at c;lia
theorem lx {k:Kd}(h:k.deep<=4):(Str.join sp<|kw k).cps.size<=651:=by have a:=gD<|dP k;have b:=i6 h;lia
theorem yC {xs:U Str}(h:∀x∈xs,x.cps.size<=700)(a:xs.length<=10):decide ((xs.map λs=>s.cps.size+sp.cps.size).sum<=LIM)=true:=Ri (by
 have:=ie h;have b:xs.length * (700+1)<=10 * 701:=Ov a<|LM _;show _<=16777215;lia)
theorem jn1 (a:Str)(k:Kd):Str.join sp [a,Str.join sp<|kw k]=Str.join sp (a::kw k):=by
 have:=dA sp [kw k] (λl c=>by rw[LR.mp c];exact ik k) [];rw[LW,LW] at this
 have e:∀b:U Str,b≠[]->Str.join sp (a::b)=a++sp++Str.join sp b:=λb hx=>by
  cases b with
  |nil=>exact Rm rfl hx
  |cons=>rfl
 rw[e _<|by simp,e _<|ik k];rfl
theorem jn2 (a:Str)(k l:Kd):Str.join sp [a,Str.join sp<|kw k,Str.join sp<|kw l]=Str.join sp (a::(kw k++kw l)):=by
 have e:∀b:U Str,b≠[]->Str.join sp (a::b)=a++sp++Str.join sp b:=λb hx=>by
  cases b with
  |nil=>exact Rm rfl hx
  |cons=>rfl
 rw[e _<|by simp,e _<|by simp[ik k],iB sp _ _ (ik k)<|ik l];rfl
theorem kU:∀(k:Kd) (n:O) (m:Md),k.deep<=4->C (n+k.deep+1) 364 [(m,k.th)]=.ok ((.d,.str<|Str.join sp<|kw k),[])
|.num,n,m,_=>by
 rw[cF,x_run _ _ _ rfl];have c:=yC (xs:=[q "num"]) (λx hx=>LL (dP .num x hx).sz<|by decide) (by decide);have e:sOk (Str.join sp [q "num"])=true:=gM (dP .num) (by decide);have f:fits ([T.str (q "num")].length+([]:U T).length)=true:=by decide
 simp only[LJ,Mi] at c;simp_all only[a7,Kd.th,bj,fS,aH,Rk f,strsOf,c,e,show kw .num=[q "num"] from rfl]
|.truth,n,m,_=>by
 rw[cF,x_run _ _ _ rfl];have c:=yC (xs:=[q "truth"]) (λx hx=>LL (dP .truth x hx).sz<|by decide) (by decide);have e:sOk (Str.join sp [q "truth"])=true:=gM (dP .truth) (by decide);have f:fits ([T.str (q "truth")].length+([]:U T).length)=true:=by decide
 simp only[LJ,Mi] at c;simp_all only[a7,Kd.th,bj,fS,aH,Rk f,strsOf,c,e,show kw .truth=[q "truth"] from rfl]
| .row a,n,m,h=>by
 have l:a.deep+1<=4:=h;rw[show n+(Kd.row a).deep+1=(n+a.deep+1)+1 from rfl,cF,x_run _ _ _ rfl];have o:=λm=>kU a n m<|by lia
 have c:=yC (xs:=[q "row",Str.join sp<|kw a]) (λx hx=>by
  rcases LK.mp hx with hx|hx
  .rw[hx];exact LL (bX "row" (by decide)<|by decide).sz<|by decide
  .rw[LR.mp hx];exact LL (lx<|by lia)<|by decide)<|by simp
 have j:=gM (dP<|.row a) (LL (i6 h)<|by decide);have e2:Str.join sp [q "row",Str.join sp (kw a)]=Str.join sp (kw (.row a)):=jn1 _ _;have f:fits ([T.str (q "row")].length+[T.str (Str.join sp (kw a))].length)=true:=rfl;simp only[LJ,Mi] at c;simp_all only[a7,Kd.th,bj,fS,aH,Rk f,strsOf,c,j,e2,cz,o,Qm]
| .pair a b,n,m,h=>by
 have l:max a.deep b.deep+1<=4:=h;rw[show n+(Kd.pair a b).deep+1=(n+max a.deep b.deep+1)+1 from rfl,cF,x_run _ _ _ rfl];have g:=λm=>kU a (n+max a.deep b.deep-a.deep) m (by lia);have i:=λm=>kU b (n+max a.deep b.deep-b.deep) m (by lia);rw[show n+max a.deep b.deep-a.deep+a.deep=n+max a.deep b.deep by lia] at g;rw[show n+max a.deep b.deep-b.deep+b.deep=n+max a.deep b.deep by lia] at i
 have c:=yC (xs:=[q "pair",Str.join sp<|kw a,Str.join sp<|kw b]) (λx hx=>by
  rcases LK.mp hx with hx|hx
  .rw[hx];exact LL (bX "pair" (by decide)<|by decide).sz<|by decide
  .rcases LK.mp hx with hx | hx
   .rw[hx];exact LL (lx<|by lia)<|by decide
   .rw[LR.mp hx];exact LL (lx<|by lia)<|by decide)<|by simp
 have j:=gM (dP<|.pair a b) (LL (i6 h)<|by decide);have e2:Str.join sp [q "pair",Str.join sp (kw a),Str.join sp (kw b)]=Str.join sp (kw (.pair a b)):=jn2 _ _ _;have f:fits ([T.str (q "pair")].length+[T.str (Str.join sp (kw a)),T.str (Str.join sp (kw b))].length)=true:=rfl;simp only[LJ,Mi] at c;simp_all only[a7,Kd.th,bj,fS,aH,Rk f,strsOf,c,j,e2,cz,g,i,Qm]
theorem cm (a:U O)(f:Env->Fl)(x:U W)(r:U<|U W)(b:Env):bY a f (x::r) b=Fl.of b (ofO<|bC a x b) λc=>Fl.turn (f c) (bY a f r):=rfl
theorem d6 (b:U O)(f:Env->Fl)(a:Env):bY b f [] a=.nx a:=rfl
theorem kw0:keys_WITHIN.contains (q "num")=Lw/\tab_WITHIN.lookup (q "num")=Y (.int 0):=by simp[keys_WITHIN,tab_WITHIN,qeq,MS]
theorem kw1:keys_WITHIN.contains (q "truth")=Lw/\tab_WITHIN.lookup (q "truth")=Y (.int 0):=by simp[keys_WITHIN,tab_WITHIN,qeq,MS]
theorem kw2:keys_WITHIN.contains (q "pair")=Lw/\tab_WITHIN.lookup (q "pair")=Y (.int 2):=by simp[keys_WITHIN,tab_WITHIN,qeq,MS]
theorem kw3:keys_WITHIN.contains (q "row")=Lw/\tab_WITHIN.lookup (q "row")=Y (.int 1):=by simp[keys_WITHIN,tab_WITHIN,qeq,MS]
theorem bt:(Lw != Lw)=false:=rfl
theorem r0:L4 (0:I).toNat=[]:=rfl
theorem r1:L4 (1:I).toNat=[0]:=rfl
theorem r2:L4 (2:I).toNat=[0,1]:=rfl
theorem z0:(decide (Ph 0<4611686018427387904)&&fits (Pm 0))=true:=rfl
theorem z1:(decide (Ph 1<4611686018427387904)&&fits (Pm 1))=true:=rfl
theorem z2:(decide (Ph 2<4611686018427387904)&&fits (Pm 2))=true:=rfl
theorem cj {b r:U Str}{w:Str}{a:O}(h:b.drop a=w::r):a<b.length/\b.drop (a+1)=r/\atI (b.map T.str) (a:I)=Y (.str w):=by
 have c:a<b.length:=by have:=Rw Me h;rw[NR,LG] at this;lia
 refine⟨c,by rw[<- NY,h];rfl,atN rfl ?_⟩;have:b[a]?=Y w:=by rw[<- List.head?_drop,h];rfl
 rw[Mr,this];rfl
theorem tkP:∀(k:Kd) (d n:O) (b r:U Str) (a:O) (m c e:Md),k.deep<d->b.drop a=kw k++r->C (n+d+1) 367 [(m,sT b),(c,.int (a:O)),(e,.int (d:O))]=.ok ((.o<|.o .s,.tup [k.th,.int ((a+(kw k).length:O):I)]),[])
|_,0,_,_,_,_,_,_,_,h,_=>Rm h<|by lia
|.num,d+1,n,b,r,a,m,c,e,_,p=>by rw[show n+(d+1)+1=(n+d+1)+1 from rfl,aX,x_run _ _ _ rfl];obtain⟨u,f,i⟩:=cj (w:=q "num") (r:=r) p;have g:decide (((b.map T.str).length:I)<=(a:I))=false:=Rt (by rw[LB];lia);unfold sT;simp_all only[av,g,i,kw0.1,kw0.2,bt,z0,r0,d6,OU,RQ,RM];rfl
|.truth,d+1,n,b,r,a,m,c,e,_,p=>by rw[show n+(d+1)+1=(n+d+1)+1 from rfl,aX,x_run _ _ _ rfl];obtain⟨u,f,i⟩:=cj (w:=q "truth") (r:=r) p;have g:decide (((b.map T.str).length:I)<=(a:I))=false:=Rt (by rw[LB];lia);unfold sT;simp_all only[av,g,i,kw1.1,kw1.2,bt,z0,r0,d6,OU,RQ,RM];rfl
|.row k,d+1,n,b,r,a,m,c,e,h,p=>by
 have F:k.deep+1<d+1:=h;rw[show n+(d+1)+1=(n+d+1)+1 from rfl,aX,x_run _ _ _ rfl];obtain⟨u,f,i⟩:=cj (w:=q "row") (r:=kw k++r) p;have g:decide (((b.map T.str).length:I)<=(a:I))=false:=Rt (by rw[LB];lia);have e2:(((d+1:O):I)==1)=false:=by rw[beq_eq_false_iff_ne];lia
 have D:((d+1:O):I)-1=(d:I):=by lia
 have y:∀m c e,C (n+d+1) 367 [(m,.lst (b.map T.str)),(c,.int ((a:I)+1)),(e,.int (d:O))]=.ok ((.o (.o .s),.tup [k.th,.int ((a+1+(kw k).length:O):I)]),[]):=λm c e=>tkP k d n b r (a+1) m c e (by lia) f;have t:[T.str (q "row")].length<LIM:=by decide
 have j:a+(kw (.row k)).length=a+1+(kw k).length:=by show a+((kw k).length+1)=_;lia
 rw[j];unfold sT;simp_all only[av,g,i,kw3.1,kw3.2,bt,z1,r1,cm,d6,OU,RQ,RM,e2,D,y,Rk t,Kd.th,dW]
|.pair k l,d+1,n,b,r,a,m,c,e,h,p=>by
 have F:max k.deep l.deep+1<d+1:=h;rw[show n+(d+1)+1=(n+d+1)+1 from rfl,aX,x_run _ _ _ rfl];have v:b.drop a=q "pair"::(kw k++(kw l++r)):=by rw[p];show q "pair"::(kw k++kw l)++r=_;rw[MA,L6]
 obtain⟨u,f,i⟩:=cj (w:=q "pair") (r:=kw k++(kw l++r)) v;have g:decide (((b.map T.str).length:I)<=(a:I))=false:=Rt (by rw[LB];lia);have e2:(((d+1:O):I)==1)=false:=by rw[beq_eq_false_iff_ne];lia
 have D:((d+1:O):I)-1=(d:I):=by lia
 have y:∀m c e,C (n+d+1) 367 [(m,.lst (b.map T.str)),(c,.int ((a:I)+1)),(e,.int (d:O))]=.ok ((.o (.o .s),.tup [k.th,.int ((a+1+(kw k).length:O):I)]),[]):=λm c e=>tkP k d n b _ (a+1) m c e (by lia) f;have x:b.drop (a+1+(kw k).length)=kw l++r:=by rw[<- NY,f,Ou]
 have z:∀m c e,C (n+d+1) 367 [(m,.lst (b.map T.str)),(c,.int ((a+1+(kw k).length:O):I)),(e,.int (d:O))]=.ok ((.o (.o .s),.tup [l.th,.int ((a+1+(kw k).length+(kw l).length:O):I)]),[]):=λm c e=>tkP l d n b r _ m c e (by lia) x;have t:[T.str (q "pair")].length<LIM:=by decide
 have A:[T.str (q "pair"),k.th].length<LIM:=by show 2<16777215;decide
 have j:a+(kw (.pair k l)).length=a+1+(kw k).length+(kw l).length:=by show a+((kw k++kw l).length+1)=_;rw[LH];lia
 rw[j];unfold sT;simp_all only[av,g,i,kw2.1,kw2.2,bt,z2,r2,cm,d6,OU,RQ,RM,e2,D,y,z,Rk t,Rk A,Kd.th,dW]
theorem ri (i:I):decI (strI i)=i:=by
 unfold decI strI;cases i with
 | ofNat m =>
  have e:(Str.ofString (toString (Int.ofNat m))).cps.toList=(My 10 m).map L7:=Ox m;have v:sW ((My 10 m).map L7)=m:=O0 m;rw[e];have a:(My 10 m).map L7≠[]:=λz=>by have h:=QM 10 m;rw[OD.mp z] at h;exact Rm h<|by decide
  have hd:∀c∈(My 10 m).map L7,48<=c/\c<=57:=λc f=>by obtain⟨ch,b,e⟩:=Mm.mp f;rw[<- e];exact QU<|PQ (by decide) (by decide) b
  generalize (My 10 m).map L7=l at v a hd;cases l with
  |nil=>exact Rm rfl a
  | cons c l =>
   have g:=(hd c LI).1;split
   .rename_i d;injection d with j k
    lia
   .exact Rw Int.ofNat v
 | negSucc m =>
  have e:(Str.ofString (toString (Pl m))).cps.toList=45::(My 10 (m+1)).map L7:=by rw[QJ];show("-"++Nat.repr (m+1)).toList.map L7=_;rw[QL,Qw];rfl
  have v:sW ((My 10 (m+1)).map L7)=m+1:=O0<|m+1;rw[e];show -((sW ((My 10<|m+1).map L7):O):I)=_;rw[v];rfl
theorem DB {i:I}(h:i.natAbs<=1000000000000000000):Gw (strI i):=by
 have e:(strI i).cps.toList=(toString i).toList.map L7:=QJ _;refine⟨?_,λc d=>?_,λz=>(Q7 i).mp z⟩
 .rw [<- Mn,e,LB,O1];exact PySem.int_text_length_le10 (a:=i) (k:=19) (by decide)<|N6 h<|by decide
 .rw [e] at d;obtain⟨ch,_,rfl⟩:=Mm.mp d;have b:=ch.valid;rcases b with b|b
  .exact QF b (by decide)
  .exact b.2
theorem bJ:∀{j:O} {t:T},KK j t->∃k:Kd,t=k.th/\k.deep+1<=j
|0,_,h=>nomatch h
| j+1,_,h=>by
 cases h with
 |num=>exact⟨.num,rfl,by show 0+1<=j+1;lia⟩
 |truth=>exact⟨.truth,rfl,by show 0+1<=j+1;lia⟩
 |row h=>obtain⟨k,rfl,hk⟩:=bJ h;exact⟨.row k,rfl,by show k.deep+1+1<=j+1;lia⟩
 |pair a b=>obtain⟨k,rfl,hk⟩:=bJ a;obtain⟨l,rfl,c⟩:=bJ b;exact⟨.pair k l,rfl,by show max k.deep l.deep+1+1<=j+1;lia⟩
theorem B6 (m n:Md)(a b:U T)(c:a.length+b.length<=LIM):iL (.o .s,.lst a) (.o .s,.lst b)=Y (.o .s,.lst<|a++b):=by show(if a.length+b.length<=LIM then _ else J)=_;rw[Rk c];rfl
theorem gO:∀(k:Kd) (n:O) (m:Md),k.deep<=4->C (n+k.deep+1) 503 [(m,k.th)]=.ok ((.o .s,sT<|kw k),[])
|.num,n,m,_=>by rw[bp,x_run _ _ _ rfl];simp_all only[ax,Kd.th,bj,fS,d6,kw,LJ,Mi];rfl
|.truth,n,m,_=>by rw[bp,x_run _ _ _ rfl];simp_all only[ax,Kd.th,bj,fS,d6,kw,LJ,Mi];rfl
|.row a,n,m,h=>by have f:a.deep+1<=4:=h;rw[show n+(Kd.row a).deep+1=(n+a.deep+1)+1 from rfl,bp,x_run _ _ _ rfl];have g:=λm=>gO a n m (by lia);have i:=i6 (k:=a) (by lia);have e1:=B6 .s .s [T.str<|q "row"] ((kw a).map T.str) (by rw[LB];show 1+_<=16777215;lia);simp_all only[ax,Kd.th,bj,fS,d6,cm,g,cz,dW,e1,kw,LJ,NC];rfl
|.pair a b,n,m,h=>by
 have f:max a.deep b.deep+1<=4:=h;rw[show n+(Kd.pair a b).deep+1=(n+max a.deep b.deep+1)+1 from rfl,bp,x_run _ _ _ rfl];have c:=λm=>gO a (n+max a.deep b.deep-a.deep) m (by lia);have d:=λm=>gO b (n+max a.deep b.deep-b.deep) m (by lia);rw[show n+max a.deep b.deep-a.deep+a.deep=n+max a.deep b.deep by lia] at c;rw[show n+max a.deep b.deep-b.deep+b.deep=n+max a.deep b.deep by lia] at d;have i:=i6 (k:=a) (by lia);have j:=i6 (k:=b) (by lia);have e1:=B6 .s .s [T.str<|q "pair"] ((kw a).map T.str) (by rw[LB];show 1+_<=16777215;lia);have e:(T.str (q "pair")::(kw a).map T.str).length+((kw b).map T.str).length<=LIM:=by rw[LG,LB,LB];show _+1+_<=16777215;lia
 simp_all only[ax,Kd.th,bj,fS,d6,cm,c,d,cz,dW,e1,Rk e,kw,LJ,L8,NC,MA];unfold sT;rw[LJ,L8]
def hdd:U T->L Str
|[.str _,.int i]=>Y<|strI i
|[.str _,.str x]=>Y x
|_=>J
mutual
def wT:T->U Str
|.str x=>[x]
|.int i=>[strI i]
|.tup ts=>match hdd ts with
 |some x=>[x]
 |none=>wTs ts
|_=>[]
def wTs:U T->U Str
|[]=>[]
|t::ts=>wT t++wTs ts
end
theorem oQ {a:U T}{x:Str}(h:hdd a=Y x):wT (.tup a)=[x]:=by rw[wT,h]
theorem kc {a:U T}(h:hdd a=J):wT (.tup a)=wTs a:=by rw[wT,h]
theorem kI:∀b a:U T,wTs (b++a)=wTs b++wTs a
|[],a=>by rw[Ml,wTs,Ml]
|t::b,a=>by rw[MA,wTs,wTs,kI b a,L6]
theorem fM (s:Str)(i:I):wT (.tup [.str s,.int i])=[strI i]:=oQ rfl
theorem eF (s x:Str):wT (.tup [.str s,.str x])=[x]:=oQ rfl
theorem WT.tp {d:O}{t:T}(h:WT d t):∃a,t=.tup a:=by cases h<;>exact⟨_,rfl⟩
theorem kh (s:Str):wT (.str s)=[s]:=by rw[wT]
theorem bf (t:T)(a:U T):wTs (t::a)=wT t++wTs a:=by rw[wTs]
theorem bL:wTs []=[]:=by rw[wTs]
theorem aF (s:Str):∀ps:U T,(∀p∈ps,∃a,p=.tup a)->wT (.tup (.str s::ps))=s::wTs ps
|[],_=>by rw[kc rfl,bf,kh];rfl
|p::ps,h=>by
 obtain⟨a,rfl⟩:=h p LI;have e:hdd (T.str s::T.tup a::ps)=none:=by cases ps<;>rfl
 rw[kc e,bf,kh];rfl
theorem cM (s x:Str):∀ps:U T,ps≠[]->wT (.tup (.str s::.str x::ps))=s::x::wTs ps
|[],h=>Rm rfl h
|p::ps,_=>by rw[kc rfl,bf,bf,kh,kh];rfl
theorem b0:∀k:Kd,wT k.th=kw k
|.num=>by rw[Kd.th,aF _ [] λ_ h=>nomatch h,bL];rfl
|.truth=>by rw[Kd.th,aF _ [] λ_ h=>nomatch h,bL];rfl
|.row a=>by rw[Kd.th,aF _ _ λp hp=>by rw[LR.mp hp,eQ];exact⟨_,rfl⟩,wTs,wTs,b0 a,LW];rfl
| .pair a b=>by
 rw[Kd.th,aF _ _ λp hp=>by
  rcases LK.mp hp with hp|hp
  .rw[hp,eQ];exact⟨_,rfl⟩
  .rw[LR.mp hp,eQ];exact⟨_,rfl⟩,wTs,wTs,wTs,b0 a,b0 b,LW];rfl
theorem gwL:∀s∈NL,Gw (q s):=λs c=>by obtain⟨a,b⟩:=(by decide +kernel:∀s∈NL,s.length<=20/\32 ∉ s.toList.map L7) s c;exact bX s a b
theorem gwB:∀s∈NB,Gw (q s):=λs c=>by obtain⟨a,b⟩:=(by decide +kernel:∀s∈NB,s.length<=20/\32 ∉ s.toList.map L7) s c;exact bX s a b
theorem gwN:∀s∈NF,Gw (q s):=λs c=>by obtain⟨a,b⟩:=(by decide +kernel:∀s∈NF,s.length<=20/\32 ∉ s.toList.map L7) s c;exact bX s a b
theorem gwF:∀s∈BF,Gw (q s):=λs c=>by obtain⟨a,b⟩:=(by decide +kernel:∀s∈BF,s.length<=20/\32 ∉ s.toList.map L7) s c;exact bX s a b
theorem jZ {x:Str}:∀{a:U T},x∈wTs a->∃t∈a,x∈wT t
|[],h=>by rw[wTs] at h;cases h
| t::a,h=>by
 rw[wTs] at h;rcases Ms.mp h with h|h
 .exact⟨t,LI,h⟩
 .obtain ⟨u,b,h⟩:=jZ h;exact⟨u,LO _ b,h⟩
theorem dY {s:Rr}{ps:U T}(a:ps.length=arB s):ps≠[]:=λz=>by rw[z] at a;unfold arB at a;split at a<;>cases a
theorem iH:∀(d:O) (t:T),WT d t->∀x∈wT t,Gw x
|0,_,h,_,_=>nomatch h
| d+1,_,h,x,hx=>by
 cases h with
 |num g i=>rw[fM] at hx;rw[LR.mp hx];exact DB<|by lia
 |name b=>rw[eF] at hx;rw[LR.mp hx];exact gwL _ b
 |none hk=>
  obtain⟨k,rfl,_⟩:=bJ hk;rw[aF _ _ λp hp=>by rw[LR.mp hp,eQ];exact⟨_,rfl⟩,wTs,wTs,LW,b0] at hx;rcases LK.mp hx with hx|hx
  .rw[hx];exact bX _ (by decide)<|by decide
  .exact dP k x hx
 | node b e hp =>
  rw[aF _ _ λp h=>(hp p h).tp] at hx;rcases LK.mp hx with hx|hx
  .rw[hx];exact gwN _ b
  .obtain ⟨p,a,c⟩:=jZ hx;exact iH d p (hp p a) x c
 | bind b f e hp =>
  rw[cM _ _ _<|dY e] at hx;rcases LK.mp hx with hx|hx
  .rw[hx];exact gwF _ b
  .rcases LK.mp hx with hx | hx
   .rw[hx];exact gwB _ f
   .obtain ⟨p,a,c⟩:=jZ hx;exact iH d p (hp p a) x c
theorem o9 {b:O}:∀{ts:U T},(∀t∈ts,(wT t).length<=b)->(wTs ts).length<=ts.length * b
|[],_=>by rw[wTs];exact Mw _
|t::ts,h=>by have c:=o9 (ts:=ts) λu a=>h u<|LO _ a;have:=h t LI;rw[wTs,LH,LG,Nat.add_mul,Nat.one_mul];lia
theorem xE:∀(d:O) (t:T),WT d t->(wT t).length+2<=33 * 3 ^ d
|0,_,h=>nomatch h
| d+1,_,h=>by
 have l:1<=3 ^ d:=Nat.one_le_pow _ _ (by decide);have m:3 ^ (d+1)=3 ^ d * 3:=OV _ _
 have e:∀ps:U T,ps.length<=3->(∀p∈ps,WT d p)->(wTs ps).length<=99 * 3 ^ d-6:=λps a hp=>by
  have:=o9 (b:=33 * 3 ^ d-2) (ts:=ps) λp h=>by have:=xE d p<|hp p h;lia
  have i:ps.length * (33 * 3 ^ d-2)<=3 * (33 * 3 ^ d-2):=Ov a<|LM _;lia
 cases h with
 |num f g=>rw[fM];show 1+2<=_;lia
 |name c=>rw[eF];show 1+2<=_;lia
 |none hk=>obtain⟨k,rfl,h⟩:=bJ hk;have:=i6 (k:=k) (by lia);rw[aF _ _ λp hp=>by rw[LR.mp hp,eQ];exact⟨_,rfl⟩,wTs,wTs,LW,b0,LG];lia
 |node c a hp=>have:=e _ (by rw[a];exact ar3 _) hp;rw[aF _ _ λp h=>(hp p h).tp,LG];lia
 |bind c j a hp=>have:=e _ (by rw[a];exact nN _) hp;rw[cM _ _ _<|dY a,LG,LG];lia
theorem dE {d:O}{t:T}(h:WT d t)(hd:d<=7):(wT t).length<=72171:=by
 have a:=xE d t h;have b:3 ^ d<=3 ^ 7:=OZ (by decide) hd;have c:(3:O) ^ 7=2187:=by decide
 lia
theorem cY {a:U Str}(h:∀x∈a,Gw x)(b:a.length<=73000):sOk (Str.join sp a)=Lw/\(Str.join sp a).cps.size<=1533000:=by have:=gD h;exact⟨nt (kx λx hx=>(h x hx).cp)<|by show _<=16777215;lia,by lia⟩
theorem xp {xs:U Str}(h:∀x∈xs,x.cps.size<=1533000)(a:xs.length<=6):decide ((xs.map λs=>s.cps.size+sp.cps.size).sum<=LIM)=true:=Ri (by
 have:=ie h;have b:xs.length * (1533000+1)<=6 * 1533001:=Ov a<|LM _;show _<=16777215;lia)
abbrev nn2:U T:=[.str<|q "num",.str<|q "name"]
abbrev LWB:U S:=[
   .ext (.q [3] []) 2 (.call 504 [.var 3])]
theorem nI (l:O)(c d:L W):∀(ps:U T) (a:U Str) (o3:L W),(∀p∈ps,∀m,C l 504 [(m,p)]=.ok ((.o .s,sT<|wT p),[]))->a.length+(wTs ps).length<=LIM->∃b,bY [3] (evSs (C l) LWB) (ps.map λt=>[((.s,t):W)]) [c,d,Y (.o .s,sT a),o3]=.nx [c,d,Y (.o .s,sT<|a++wTs ps),b]
|[],a,o3,_,_=>⟨o3,by rw[bL,LW];rfl⟩
| p::ps,a,o3,h,f=>by
 rw[bf,LH] at f;have e:=λm=>h p LI m;have g:(a.map T.str).length+((wT p).map T.str).length<=LIM:=by rw[LB,LB];lia
 have k:evSs (C l) LWB [c,d,Y (.o .s,sT a),Y (.s,p)]=.nx [c,d,Y (.o .s,sT (a++wT p)),Y (.s,p)]:=by unfold sT at e ⊢;rw[L8];simp_all only[e,Rk g]
 obtain⟨b,j⟩:=nI l c d ps (a++wT p) (Y (.s,p)) (λu i=>h u<|LO _ i) (by rw[LH];lia);refine⟨b,?_⟩;rw[bf,<- L6,<- j,LJ,cm];show Fl.turn (evSs (C l) LWB [c,d,Y (.o .s,sT a),Y (.s,p)]) _=_;rw[k];rfl
theorem dG (h:Rl)(m n:Md)(a:U T)(i:I):oSem .sl2 h [(m,.tup a),(n,.int i)]=Y (.s,.tup<|cut a J<|Y i):=rfl
theorem C1 {b:Type}(a:b)(r:U b):cut (a::r) J (Y 1)=[a]:=by
 show((a::r).drop 0).take (sIx (a::r).length (a::r).length (Y 1)-0)=[a];have e:sIx (a::r).length (a::r).length (Y 1)=1:=by show(if(1:I)<0 then((1:I)+((a::r).length:I)).toNat else min (1:I).toNat (a::r).length)=1;rw[Rn<|by decide,LG];show min 1 (r.length+1)=1;lia
 rw[e];rfl
theorem Ep {c:Type}(a b:c)(r:U c):cut (a::b::r) J (Y 2)=[a,b]:=by
 show((a::b::r).drop 0).take (sIx (a::b::r).length (a::b::r).length (Y 2)-0)=[a,b];have e:sIx (a::b::r).length (a::b::r).length (Y 2)=2:=by show(if(2:I)<0 then((2:I)+((a::b::r).length:I)).toNat else min (2:I).toNat (a::b::r).length)=2;rw[Rn<|by decide,LG,LG];show min 2 (r.length+1+1)=2;lia
 rw[e];rfl
theorem JE:∀s∈NF,(nn2.any λt=>eqT t<|.str<|q s)=Lv/\(q s==q "none")=false:=by decide +kernel
theorem Kr:∀s∈BF,(nn2.any λt=>eqT t<|.str<|q s)=Lv/\(q s==q "none")=false:=by decide +kernel
theorem sF:∀(d:O) (t:T),WT d t->d<=7->∀n m,C (n+d+6) 504 [(m,t)]=.ok ((.o .s,sT<|wT t),[])
|0,_,h,_,_,_=>nomatch h
| d+1,t,h,hd,n,m=>by
 have u:=dE h hd;rw[show n+(d+1)+6=(n+d+6)+1 by lia,kB,x_run _ _ _ rfl];cases h with
 |num w y=>
  rename_i i;have e1:(nn2.any λt=>eqT t (.str (q "num")))=true:=by decide +kernel
  have e2:decide (i.natAbs<10000000000000000000)=true:=Ri (by lia);rw[fM];simp_all only[aS,fl2,e1,e2,g8];rfl
 |name f=>
  rename_i s;have e1:(nn2.any λt=>eqT t (.str (q "name")))=true:=by decide +kernel
  rw[eF];simp_all only[aS,fl2,e1,g8];rfl
 | none hk =>
  obtain⟨k,rfl,hk⟩:=bJ hk;have e1:(nn2.any λt=>eqT t (.str (q "none")))=false:=by decide +kernel
  have e2:(q "none"==q "none")=true:=by decide +kernel
  have v:∀m,C (n+d+6) 503 [(m,k.th)]=.ok ((.o .s,sT (kw k)),[]):=λm=>by have:=gO k (n+d+5-k.deep) m (by lia);rw[show n+d+5-k.deep+k.deep+1=n+d+6 by lia] at this;exact this
  have z:=i6 (k:=k) (by lia);have g:fits ([T.str (q "none")].length+((kw k).map T.str).length)=true:=Ri (by rw[LB];show 1+_<=16777215;lia);rw[aF _ _ λp hp=>by rw[LR.mp hp,eQ];exact⟨_,rfl⟩,bf,bL,LW,b0];unfold sT at v ⊢;simp_all only[aS,fl2,e1,e2,g8,v,cz,dW,Rk g,LJ,NC]
 | node f r hp =>
  rename_i s ps;obtain⟨e1,e2⟩:=JE s f;have e3:=b3N s f;have l:(1:I)+b2i Lv=1:=rfl;rw[aF _ _ λp h=>(hp p h).tp,LG] at u;have c1:=fS (T.str<|q s) ps;have j:=C1 (T.str<|q s) ps
  have a:∀b c,∃e,bY [3] (evSs (C (n+d+6)) LWB) (ps.map λt=>[((.s,t):W)]) [b,c,Y (.o .s,.lst [T.str (q s)]),J]=.nx [b,c,Y (.o .s,sT ([q s]++wTs ps)),e]:=λb c=>
   nI (n+d+6) b c ps [q s] J (λp h m=>sF d p (hp p h) (by lia) n m) (by rw[L0];show _<=16777215;lia)
  obtain⟨o3,a⟩:=a (Y (.s,.tup (.str (q s)::ps)))<|Y (.d,.int 1);rw[aF _ _ λp h=>(hp p h).tp];unfold sT at a ⊢;simp_all only[aS,fl2,fl3,e1,e2,e3,l,bj,dG,c1,j,a]
 | bind f hx r hp =>
  rename_i s x ps;obtain⟨e1,e2⟩:=Kr s f;have e3:=b3B s f;have l:(1:I)+b2i Lw=2:=rfl;rw[cM _ _ _<|dY r,LG,LG] at u;have c1:=iR (T.str<|q s) (.str<|q x) ps;have j:=Ep (T.str<|q s) (.str<|q x) ps
  have a:∀b c,∃e,bY [3] (evSs (C (n+d+6)) LWB) (ps.map λt=>[((.s,t):W)]) [b,c,Y (.o .s,.lst [T.str (q s),T.str (q x)]),J]=.nx [b,c,Y (.o .s,sT ([q s,q x]++wTs ps)),e]:=λb c=>
   nI (n+d+6) b c ps [q s,q x] J (λp h m=>sF d p (hp p h) (by lia) n m) (by show 2+_<=16777215;lia)
  obtain⟨o3,a⟩:=a (Y (.s,.tup (.str (q s)::.str (q x)::ps)))<|Y (.d,.int 2);rw[cM _ _ _<|dY r];unfold sT at a ⊢;simp_all only[aS,fl2,fl3,e1,e2,e3,l,bj,dG,c1,j,a]
theorem wz:∀{d:O} {t:T},WT d t->wT t≠[]
|0,_,h=>nomatch h
| d+1,_,h=>by
 cases h with
 |num c e=>rw[fM];exact Mq _ _
 |name b=>rw[eF];exact Mq _ _
 |none hk=>obtain⟨k,rfl,_⟩:=bJ hk;rw[aF _ _ λp hp=>by rw[LR.mp hp,eQ];exact⟨_,rfl⟩];exact Mq _ _
 |node b a hp=>rw[aF _ _ λp h=>(hp p h).tp];exact Mq _ _
 |bind b f a hp=>rw[cM _ _ _<|dY a];exact Mq _ _
theorem iy:∀ps:U T,wTs ps=(ps.map wT).flatten
|[]=>bL
|p::ps=>by rw[bf,iy ps];rfl
theorem we (x:Str):Str.join sp [x]=x:=rfl
theorem pT (s:Str){d:O}{ps:U T}(hp:∀p∈ps,WT d p):Str.join sp (s::ps.map λp=>Str.join sp<|wT p)=Str.join sp (s::wTs ps):=by
 have:=dA sp ([s]::ps.map wT) (λl a=>by
  rcases LK.mp a with a|a
  .rw[a];exact Mq _ _
  .obtain ⟨p,h,rfl⟩:=Mm.mp a;exact wz<|hp p h) []
 rw[LW,LW,LJ,we,Mt,MT,<- iy] at this;exact this
theorem mK (s x:Str){d:O}{ps:U T}(hp:∀p∈ps,WT d p):Str.join sp (s::x::ps.map λp=>Str.join sp<|wT p)=Str.join sp (s::x::wTs ps):=by
 have:=dA sp ([s]::[x]::ps.map wT) (λl a=>by
  rcases LK.mp a with a|a
  .rw[a];exact Mq _ _
  .rcases LK.mp a with a | a
   .rw[a];exact Mq _ _
   .obtain ⟨p,h,rfl⟩:=Mm.mp a;exact wz<|hp p h) []
 rw[LW,LW,LJ,LJ,we,we,Mt,MT,MT,<- iy] at this;exact this
def mdN (m:Md):T->Md
|.tup [.str _,.str _]=>m.kid
|_=>.d
theorem kY (m:Md)(s:Str):∀ps:U T,(∀p∈ps,∃a,p=.tup a)->mdN m (.tup (.str s::ps))=.d
|[],_=>rfl
|p::ps,h=>by obtain⟨a,rfl⟩:=h p LI;cases ps<;>rfl
theorem xA (m:Md)(s x:Str):∀ps:U T,ps≠[]->mdN m (.tup (.str s::.str x::ps))=.d
|[],h=>Rm rfl h
|p::ps,_=>rfl
theorem G9 (i:I):(["bool"].any λc=>isOne c<|T.int i)=false:=rfl
theorem EL (n:O)(i:I)(h:i.natAbs<10000000000000000000)(m:Md):C (n+1) 162 [(m,.int i)]=.ok ((.d,.str<|strI i),[]):=by have e:=Ri h;rw[iZ,x_run _ _ _ rfl];simp_all only[bK,G9,uU,e]
theorem sgN:∀s∈NF,(q s==q "num")=Lv/\(q s==q "name")=Lv/\(q s==q "none")=false:=by decide +kernel
theorem sgB:∀s∈BF,(q s==q "num")=Lv/\(q s==q "name")=Lv/\(q s==q "none")=false:=by decide +kernel
theorem Iu (m n:Md):oSem .is Lv [(m,.non),(n,.non)]=Y (.d,.bl Lw):=rfl
theorem GR (m n:Md)(i:I):oSem .is Lv [(m,.int i),(n,.non)]=Y (.d,.bl Lv):=rfl
theorem lkN {s:Rr}(h:tab_BINDING.lookup (q s)=J):(tab_BINDING.lookup<|q s).getD .non=.non:=by rw[h];rfl
theorem lkB {s:Rr}{i:I}(h:tab_BINDING.lookup (q s)=Y (.int i)):(tab_BINDING.lookup<|q s).getD .non=.int i:=by rw[h];rfl
theorem Hg (l:O){d:O}(ps:U T)(hp:∀p∈ps,WT d p)(h:∀p∈ps,∀m,C l 490 [(m,p)]=.ok ((mdN m p,.str<|Str.join sp<|wT p),[]))(a b:L W):
  aH [2] (dS<|evE (C l)<|.call 490 [.var 2]) (ps.map λt=>[((.s,t):W)]) [a,b,J] []=.ok ([]++ps.map (λp=>((mdN .s p,.str<|Str.join sp<|wT p):W)),[a,b,J]):=
 bh _ _ [] λp hp=>⟨_,[a,b,Y (.s,p)],rfl,by
  have e:=λm=>h p hp m;simp_all only[e],rfl⟩
theorem HU (ps:U T):trees (ps.map λp=>((mdN .s p,.str<|Str.join sp<|wT p):W))=ps.map λp=>T.str (Str.join sp<|wT p):=bb (λp=>mdN .s p) (λp=>T.str<|Str.join sp<|wT p) ps
theorem oh (x:Str)(a:U T){b:U Str}(h:strsOf a=Y b):strsOf (T.str x::a)=Y (x::b):=by show(strsOf a).map (x::·)=_;rw[h];rfl
theorem vD (ps:U T):strsOf (ps.map λp=>T.str<|Str.join sp<|wT p)=Y (ps.map λp=>Str.join sp<|wT p):=by have:=gH<|ps.map λp=>Str.join sp<|wT p;rw[Mt] at this;exact this
theorem Iv {d:O}(hd:d<=7){ps:U T}(hp:∀p∈ps,WT d p)(c:ps.length<=3)(s:Rr)(b:s.length<=20/\32 ∉ s.toList.map L7):∀y∈(q s::ps.map λp=>Str.join sp<|wT p),y.cps.size<=1533000:=λy a=>by
 rcases LK.mp a with a|a
 .rw[a];exact LL (bX s b.1 b.2).sz<|by decide
 .obtain ⟨p,h,rfl⟩:=Mm.mp a;exact(cY (iH d p<|hp p h)<|LL (dE (hp p h) hd)<|by decide).2
theorem K4:∀s∈NF,s.length<=20/\32 ∉ s.toList.map L7:=by decide +kernel
theorem xi:∀(d:O) (t:T),WT d t->d<=7->∀n m,C (n+d+6) 490 [(m,t)]=.ok ((mdN m t,.str<|Str.join sp<|wT t),[])
|0,_,h,_,_,_=>nomatch h
| d+1,t,h,hd,n,m=>by
 have u:=dE h hd;have o:=iH _ _ h;rw[show n+(d+1)+6=(n+d+6)+1 by lia,kA,x_run _ _ _ rfl];cases h with
 |num P Q=>
  rename_i i;have e1:(q "num"==q "num")=true:=by decide +kernel
  have N:=λm=>EL (n+d+5) i (by lia) m;rw[fM];simp_all only[aR,e1,N,g8];rfl
 |name b=>
  rename_i s;have e1:(q "name"==q "num")=false:=by decide +kernel
  have e2:(q "name"==q "name")=true:=by decide +kernel
  rw[eF];simp_all only[aR,e1,e2,g8];rfl
 | none hk =>
  obtain⟨k,rfl,hk⟩:=bJ hk;have e1:(q "none"==q "num")=false:=by decide +kernel
  have e2:(q "none"==q "name")=false:=by decide +kernel
  have e3:(q "none"==q "none")=true:=by decide +kernel
  have l:∀m,C (n+d+6) 364 [(m,k.th)]=.ok ((.d,.str (Str.join sp (kw k))),[]):=λm=>by have:=kU k (n+d+5-k.deep) m (by lia);rw[show n+d+5-k.deep+k.deep+1=n+d+6 by lia] at this;exact this
  have v:=lx (k:=k)<|by lia
  have g:fits ((q "none ").cps.size+(Str.join sp (kw k)).cps.size)=true:=Ri (by
   have:(q "none ").cps.size=5:=by decide +kernel
   rw[this];show _<=16777215;lia)
  have H:q "none "=q "none"++sp:=by decide +kernel
  have w:Str.join sp (q "none"::kw k)=q "none "++Str.join sp (kw k):=by
   rw[H];cases M:kw k with
   |nil=>exact Rm M<|ik k
   |cons a r=>rfl
  rw[aF _ _ λp hp=>by rw[LR.mp hp,eQ];exact⟨_,rfl⟩,bf,bL,LW,b0,kY m _ _ λp hp=>by rw[LR.mp hp,eQ];exact⟨_,rfl⟩,w];simp_all only[aR,e1,e2,e3,g8,l,cz,dW,Rk g]
 |node b f hp=>
  rename_i s ps;obtain⟨e1,e2,e3⟩:=sgN s b;have e:=λm=>bD (n+d+5) (q s) ps m;rw[lkN<|tbN s b] at e;have A:=λm=>kz (n+d+4) s b ps m;have l:∀p∈ps,∀m,C (n+d+6) 490 [(m,p)]=.ok ((mdN m p,.str (Str.join sp (wT p))),[]):=λp h m=>xi d p (hp p h) (by lia) n m;have c1:=Hg (n+d+6) ps hp l;have F:=HU ps;have D:=oh (q s) _<|vD ps;have j:ps.length<=3:=by rw[f];exact ar3 s
  have s2:=xp (Iv (by lia) hp j s<|K4 s b) (by rw[LG,LB];lia);simp only[LJ] at s2;have v:=pT (q s) hp;rw[aF _ _ λp h=>(hp p h).tp] at u o ⊢;have z:=(cY o<|LL u<|by decide).1;have g:fits ([T.str (q s)].length+(ps.map λp=>T.str (Str.join sp (wT p))).length)=true:=Ri (by rw[LB];show 1+_<=16777215;lia);rw[kY m _ _ λp h=>(hp p h).tp];simp_all only[aR,e1,e2,e3,e,Iu,A,c1,F,Rk g,NC,D,s2,v,z]
 | bind b hx f hp =>
  rename_i s x ps;obtain⟨e1,e2,e3⟩:=sgB s b;have e:=λm=>bD (n+d+5) (q s) (.str (q x)::ps) m;rw[lkB<|tbB s b] at e;have A:=λm=>cP (n+d+4) s (hU s b).2.1 (.str<|q x) ps m;have l:∀p∈ps,∀m,C (n+d+6) 490 [(m,p)]=.ok ((mdN m p,.str (Str.join sp (wT p))),[]):=λp h m=>xi d p (hp p h) (by lia) n m;have c1:=Hg (n+d+6) ps hp l;have F:=HU ps;have D:=oh (q s) _<|oh (q x) _<|vD ps;have j:ps.length<=3:=by rw[f];exact nN s
  have s2:=xp (xs:=q s::q x::ps.map λp=>Str.join sp<|wT p) (λy c=>by
   rcases LK.mp c with c|c
   .rw[c];exact LL (gwF s b).sz<|by decide
   .rcases LK.mp c with c | c
    .rw[c];exact LL (gwB x hx).sz<|by decide
    .obtain ⟨p,h,rfl⟩:=Mm.mp c;exact(cY (iH d p<|hp p h)<|LL (dE (hp p h)<|by lia)<|by decide).2)<|by rw[LG,LG,LB];lia
  simp only[LJ] at s2;have v:=mK (q s) (q x) hp;rw[cM _ _ _<|dY f] at u o ⊢;have z:=(cY o<|LL u<|by decide).1;have g:fits ([T.str (q s),T.str (q x)].length+(ps.map λp=>T.str (Str.join sp (wT p))).length)=true:=Ri (by rw[LB];show 2+_<=16777215;lia);have w:[T.str (q s),T.str (q x)]++(ps.map λp=>T.str (Str.join sp (wT p)))=T.str (q s)::T.str (q x)::ps.map λp=>T.str (Str.join sp (wT p)):=rfl;have G:∀r,atI (T.str (q s)::T.str (q x)::r) 1=Y (T.str (q x)):=λr=>at1 _ _ _;rw[xA m _ _ _<|dY f];simp_all only[aR,e1,e2,e3,e,GR,A,c1,F,G,Rk g,w,D,s2,v,z]
abbrev WO (b:U Str)(a:O)(s:I):T:=.obj ba [q "words",q "at",q "spare"] [sT b,.int (a:I),.int s]
theorem lk1 (x y z:T):lookF (q "words") [q "words",q "at",q "spare"] [x,y,z]=Y x:=by show(if(q "words"==q "words")=Lw then Y x else _)=_;rw[Rq,Rk rfl]
theorem nwa:(q "words"==q "at")=false:=by decide +kernel
theorem nws:(q "words"==q "spare")=false:=by decide +kernel
theorem nas:(q "at"==q "spare")=false:=by decide +kernel
theorem lk2 (x y z:T):lookF (q "at") [q "words",q "at",q "spare"] [x,y,z]=Y y:=by show(if(q "words"==q "at")=Lw then Y x else if(q "at"==q "at")=Lw then Y y else _)=_;rw[nwa,Rq,Rn LX,Rk rfl]
theorem lk3 (x y z:T):lookF (q "spare") [q "words",q "at",q "spare"] [x,y,z]=Y z:=by show(if(q "words"==q "spare")=Lw then Y x else if(q "at"==q "spare")=Lw then Y y else if(q "spare"==q "spare")=Lw then Y z else _)=_;rw[nws,nas,Rq,Rn LX,Rn LX,Rk rfl]
theorem st2 (x y z t:T):d7 (q "at") t [q "words",q "at",q "spare"] [x,y,z]=Y [x,t,z]:=by show(if(q "words"==q "at")=Lw then Y (t::_) else(if(q "at"==q "at")=Lw then Y (t::[z]) else _).map (x::·))=_;rw[nwa,Rq,Rn LX,Rk rfl];rfl
theorem st3 (x y z t:T):d7 (q "spare") t [q "words",q "at",q "spare"] [x,y,z]=Y [x,y,t]:=by show(if(q "words"==q "spare")=Lw then Y (t::_) else(if(q "at"==q "spare")=Lw then Y (t::_) else(if(q "spare"==q "spare")=Lw then Y [t] else _).map (y::·)).map (x::·))=_;rw[nws,nas,Rq,Rn LX,Rn LX,Rk rfl];rfl
theorem sP (i:I):((T.int i).leaf&&decide (([q "words",q "at",q "spare"]:U Str).length<1000))=true:=rfl
theorem iV (i:I):lfM (.int i)=.d:=rfl
theorem DF (a:U T):lfM (.lst a)=.s:=rfl
theorem ff (n:O){b r:U Str}{w:Str}{a:O}(s:I)(h:b.drop a=w::r):C (n+1) 505 [(.o .s,WO b a s)]=.ok ((.s,.str w),[(.o .s,WO b a s)]):=by obtain⟨d,_,c⟩:=cj h;have g:decide ((a:I)<(((b.map T.str).length:O):I))=true:=Ri (by rw[LB];lia);rw[oK,x_run _ _ _ rfl];unfold WO sT;simp_all only[fL,lk1,lk2,iV,DF,g,c]
theorem u9 (n:O){b:U Str}{a:O}(s:I)(h:b.length=a):C (n+1) 505 [(.o .s,WO b a s)]=.ok ((.d,.non),[(.o .s,WO b a s)]):=by have g:decide ((a:I)<(((b.map T.str).length:O):I))=false:=Rt (by rw[LB];lia);rw[oK,x_run _ _ _ rfl];unfold WO sT;simp_all only[fL,lk1,lk2,iV,DF,g]
theorem eZ (n:O)(b:U Str)(a:O)(s:I):C (n+1) 506 [(.o .s,WO b a s)]=.ok ((.d,.non),[(.o .s,WO b (a+1) s)]):=by rw[rY,x_run _ _ _ rfl];unfold WO;simp_all only[fz,lk2,iV,sP,st2];rfl
theorem lj (n:O){c r:U Str}{x:Str}{a:O}(s:I){b:U Str}(h:c.drop a=x::r)(hx:nmA x=Lw)(f:b.contains x=Lv)(m:Md):C (n+3) 493 [(.o .s,WO c a s),(m,.tup<|aA b)]=.ok ((.s,.str x),[(.o .s,WO c (a+1) s)]):=by have e1:=ff (n+1) s h;have e2:=eZ (n+1) c a s;have e3:=λm=>f6 (n+1) x m;rw[hx] at e3;have e:=flS x b;have d:=anS x b;rw[f] at d;rw[jF,x_run _ _ _ rfl];simp_all only[cw,e1,e2,e3,e,d]
theorem lC (n:O){ws r:U Str}{k:Kd}{a:O}(s:I)(h:ws.drop a=kw k++r)(hk:k.deep<=4):∃f,C (n+8) 494 [(.o .s,WO ws a s)]=.ok ((f,k.th),[(.o .s,WO ws (a+(kw k).length) s)]):=by
 have e:∀m b,C (n+7) 366 [(m,sT ws),(b,.int (a:I))]=.ok ((.o (.o .s),.tup [k.th,.int ((a+(kw k).length:O):I)]),[]):=λm b=>by have t:=λm b c=>tkP k 5 n ws r a m b c (by lia) h;have d:∀m b c,C (n+6) 367 [(m,sT ws),(b,.int (a:I)),(c,.int 5)]=.ok ((.o (.o .s),.tup [k.th,.int ((a+(kw k).length:O):I)]),[]):=t;rw[show n+7=(n+6)+1 from rfl,kf,x_run _ _ _ rfl];unfold sT at d ⊢;simp_all only[cn,d]
 rw[show n+8=(n+7)+1 from rfl,jL,x_run _ _ _ rfl];unfold sT at e;unfold WO sT;exact⟨_,by simp_all only[cy,lk1,lk2,iV,DF,e,nM,g8,sP,st2,dW];rfl⟩
def yq:Res (W×U W)->L T
|.ok ((.s,t),[])=>Y t
|_=>J
theorem ph {r:Res<|W×U W}{t:T}(h:yq r=Y t):r=.ok ((.s,t),[]):=by
 unfold yq at h;split at h
 .cases h;rfl
 .cases h
abbrev y1:T:=.tup [.str<|q "yes"]
theorem Lk (n:O):∀s∈NF,yq (C (n+14) 497 [(.s,.str<|q s)])=Y (.tup (.str (q s)::LU (ar s) y1)):=by
 intro s a;simp only[LK,M9,RG] at a;rcases a with rfl|rfl|rfl|rfl|rfl|rfl|rfl|rfl|rfl|rfl|rfl|rfl|rfl|rfl|rfl|rfl|rfl|rfl|rfl|rfl|rfl|rfl|rfl|rfl|rfl|rfl
 all_goals kernel_rfl
theorem JK (n:O):∀s∈BF,yq (C (n+14) 497 [(.s,.str<|q s)])=Y (.tup (.str (q s)::.str (q "x")::LU (arB s) y1)):=by
 intro s a;simp only[LK,M9,RG] at a;rcases a with rfl|rfl|rfl
 all_goals kernel_rfl
theorem Hc (n:O)(i:I)(h:i.natAbs<=1000000000000000000)(m:Md):C (n+1) 3 [(m,.int i)]=.ok ((.d,.bl Lw),[]):=by rw[eX,x_run _ _ _ rfl];have a:decide (-1000000000000000000<=i)=true:=Ri (by lia);have b:decide (i<=1000000000000000000)=true:=Ri (by lia);simp_all only[bI,uU,BX,a,b]
theorem Jt (n:O)(i:I)(h:i.natAbs<=1000000000000000000)(m:Md):C (n+2) 165 [(m,.str<|strI i)]=.ok ((.d,.int i),[]):=by rw[jX,x_run _ _ _ rfl];have e:=λm=>Hc n i h m;have b:decide (i.natAbs<10000000000000000000)=true:=Ri (by lia);simp_all only[cq,ri,b,Rq,e]
theorem Dt (n:O)(i:I)(f:0<=i)(h:i<=1000000000000000000)(m:Md):C (n+4) 498 [(m,.str<|strI i)]=.ok ((.d,.tup [.str<|q "num",.int i]),[]):=by
 have e1:=λm=>Jt n i (by lia) m;have k:(q "num"==q "pair")=false:=by decide +kernel
 have l:(q "num"==q "row")=false:=by decide +kernel
 have o:(q "num"==q "num")=true:=by decide +kernel
 have g:decide ((([T.str (strI i)].length:O):I)<=0)=false:=rfl;have c:atI [T.str (strI i)] 0=Y (T.str (strI i)):=at0 _ _;have j:∀m n,oSem .is Lv [(m,.int i),(n,.non)]=Y (.d,.bl Lv):=λ_ _=>rfl;have e2:∀m a b,C (n+3) 164 [(m,.tup [.str (q "num")]),(a,.lst [.str (strI i)]),(b,.int 0)]=.ok ((.d,.tup [.int i,.int (0+1)]),[]):=λm a b=>by rw[iW,x_run _ _ _ rfl];simp_all only[bM,k,l,o,g,c,e1,j]
 have e:decide (0<=i)=true:=Ri f;rw[gq,x_run _ _ _ rfl];simp_all only[bu,e2,nM,e]
theorem oa {i:I}(d:0<=i):∃c r,(strI i).cps.toList=c::r/\48<=c/\c<=57:=by
 obtain⟨m,rfl⟩:=Int.eq_ofNat_of_zero_le d;have e:(strI (m:I)).cps.toList=(My 10 m).map L7:=Ox m;have a:(My 10 m)≠[]:=λz=>by have h:=QM 10 m;rw[z] at h;exact Rm h<|by decide
 cases hd:My 10 m with
 |nil=>exact Rm hd a
 |cons ch r=>have:=QU (PQ (b:=10) (n:=m) (c:=ch) (by decide) (by decide)<|by rw[hd];exact LI);rw[hd] at e;exact⟨ch.toNat,r.map L7,e,this.1,this.2⟩
theorem JN:∀k∈keys_PARTS,97<=k.cps.toList.headD 0:=by decide +kernel
theorem sC {i:I}(a:0<=i):keys_PARTS.contains (strI i)=false:=by
 obtain⟨c,r,e,b,d⟩:=oa a;cases h:keys_PARTS.contains (strI i) with
 |false=>rfl
 |true=>have:=JN _<|O3.mp h;rw[e] at this;have:97<=c:=this;lia
theorem xQ {i:I}(a:0<=i):nmA (strI i)=false:=by
 obtain⟨c,r,e,d,f⟩:=oa a
 have b:le2 c=false:=by
  unfold le2;have:(q "a").cps.toList=[97]:=by decide +kernel
  rw[this,Ri<|show[c] < [97] from List.Lex.rel<|by lia];rfl
 unfold nmA;rw[e,LJ,b,NW];show(_&&(Lv&&_))=Lv;rw[Mz,M0]
theorem rP {i:I}(a:0<=i):(strI i==q "none")=false:=by
 obtain⟨c,r,e,b,d⟩:=oa a;refine beq_eq_false_iff_ne.mpr λz=>?_;have e2:(q "none").cps.toList.headD 0=110:=by decide +kernel
 rw[z] at e;rw[e] at e2;have:c=110:=e2;lia
theorem Jq (n:O){w:Str}(h:keys_PARTS.contains w=Lv)(fs:U T)(m:Md):C (n+1) 227 [(m,.tup (.str w::fs))]=.ok ((.d,.bl Lv),[]):=by
 have c0:((((T.str w::fs).length:O):I)==0)=false:=by rw[eW];exact beq_eq_false_iff_ne.mpr<|by lia
 have a:(keys_PARTS.contains w != Lw)=true:=by rw[h];rfl
 rw[bq,x_run _ _ _ rfl];simp_all only[aO,eI,fo,c0,a]
abbrev FB:U S:=[
   .ite (.q [0,1] []) (.call 227 [.op .add Lv [.tup [.var 0],.var 1]]) [
    .ret [] (.op .add Lv [.tup [.mv 0],.mv 1])] []]
theorem uC (n:O){w:Str}(h:keys_PARTS.contains w=Lv):∀(a:U<|U T) (c:L W),(∀fs∈a,fs.length<=10)->∃b,bY [1] (evSs (C<|n+1) FB) ((a.map T.tup).map λt=>[((.s,t):W)]) [Y (.s,.str w),c]=.nx [Y (.s,.str w),b]
|[],c,_=>⟨c,rfl⟩
| fs::a,c,i=>by
 have e:=λm=>Jq n h fs m;have g:(fits ([T.str w].length+fs.length)&&!([T.str w]:U T).isEmpty)=true:=by have:=i fs LI;rw[LQ];exact⟨Ri<|by show 1+_<=16777215;lia,rfl⟩
 have d:∃b,evSs (C (n+1)) FB [Y (.s,.str w),Y (.s,.tup fs)]=.nx [Y (.s,.str w),b]:=⟨_,by simp_all only[Rk g,NC,e];rfl⟩;obtain⟨o2,d⟩:=d;obtain⟨o3,k⟩:=uC n h a o2 λf j=>i f<|LO _ j;refine⟨o3,?_⟩;rw[LJ,LJ,cm,<- k];show Fl.turn (evSs (C<|n+1) FB [Y (.s,.str w),Y (.s,.tup fs)]) _=_;rw[d];rfl
theorem Er (n:O)(i:I)(a:0<=i)(h:i<=1000000000000000000):C (n+5) 497 [(.s,.str<|strI i)]=.ok ((.d,.tup [.str<|q "num",.int i]),[]):=by have e1:=λm=>f6 (n+3) (strI i) m;rw[xQ a] at e1;have e2:=rP a;have e3:=λm=>Dt n i a h m;obtain⟨e,b⟩:=uC (n+3) (sC a) [[],[y1],[y1,y1],[y1,y1,y1],[.str<|q "x",y1,y1],[.str<|q "x",y1,y1,y1]] J (by decide);simp only[LJ,Mi] at b;have c:∀m n,oSem .is Lv [(m,.str (strI i)),(n,.non)]=Y (.d,.bl Lv):=λ_ _=>rfl;rw[d8,x_run _ _ _ rfl];simp_all only[bF,e1,e2,e3,c,b]
theorem zS (n:O)(x:Str)(h:nmA x=Lw):C (n+2) 497 [(.s,.str x)]=.ok ((.d,.tup [.str<|q "name",.str x]),[]):=by have e1:=λm=>f6 n x m;rw[h] at e1;have a:∀m n,oSem .is Lv [(m,.str x),(n,.non)]=Y (.d,.bl Lv):=λ_ _=>rfl;rw[d8,x_run _ _ _ rfl];simp_all only[bF,e1,a]
theorem zw (n:O):C (n+2) 497 [(.s,.str<|q "none")]=.ok ((.d,.tup [.str<|q "none",.tup [.str<|q "num"]]),[]):=by
 have e1:=λm=>f6 n (q "none") m;rw[show nmA (q "none")=Lv by decide +kernel] at e1;have e2:(q "none"==q "none")=true:=by decide +kernel
 have a:∀m n,oSem .is Lv [(m,.str (q "none")),(n,.non)]=Y (.d,.bl Lv):=λ_ _=>rfl;rw[d8,x_run _ _ _ rfl];simp_all only[bF,e1,e2,a]
theorem lZ {F:U Str->T->Rl}{w:L O}{x:Str}{a:U Str}:∀{ps:U T} {i j:O} {p:T},dF F w x a i ps=Lw->ps[j]?=Y p->F (if w=Y (i+j) then a++[x] else a) p=Lw
|[],_,_,_,_,e=>by simp at e
|p0::ps,i,0,p,h,e=>by rw[dF,LQ] at h;rw[Ny] at e;cases e;exact h.1
|p0::ps,i,j+1,p,h,e=>by rw[dF,LQ] at h;rw[MH] at e;have:=lZ h.2 e;rw[show i+1+j=i+(j+1) by lia] at this;exact this
abbrev WPB:U S:=[
   .asg (.q [1,2] [5]) 6 (.ifx (.op .eq Lv [.var 5,.call 233 [.var 1]]) (.op .catT Lv [.var 2,.tup [.op .ix Lv [.var 1,.cst<|.int 1]]])<|.var 2),
   .app (.l [3,6]) 4 (.call 495 [.io 0,.var 6,.op .add Lv [.var 3,.cst<|.int 1]])]
def spS (d:O)(ps:U T):I:=((ps.map λp=>szF d p).sum:O)-(ps.length:I)
theorem gE {a:Type}{ps:U a}{j:O}{p:a}(h:ps[j]?=Y p):ps.take (j+1)=ps.take j++[p]:=by rw[List.take_succ,h];rfl
theorem jU {d:O}{t:T}(h:WT d t):1<=szF d t:=by
 cases d with
 |zero=>exact nomatch h
 |succ d=>rw[szF,aC,LH,L0];lia
def Wk (b d:O)(p:T):Prop:=∀(f r:U Str) (a:O) (sp:I) (e:U Str) (c:O) (m g:Md),f.drop a=wT p++r->((szF d p:O):I)<=sp+1->c+d<=20->bZ d e p=Lw->e.length+d<=1000 ->
 ∃h,C b 495 [(.o .s,WO f a sp),(m,.tup<|aA e),(g,.int (c:I))]=.ok ((h,p),[(.o .s,WO f (a+(wT p).length)<|sp+1-(szF d p:O))])
theorem kQ:∀(f:T->O) (ps:U T) (j:O),((ps.take j).map f).sum<=(ps.map f).sum
|_,[],j=>by simp
|f,p::ps,0=>by simp
|f,p::ps,j+1=>by have:=kQ f ps j;rw[M3,LJ,LJ,ML,ML];lia
theorem qf (f:T->O){ps:U T}{j:O}{p:T}(h:ps[j]?=Y p):((ps.take j).map f).sum+f p<=(ps.map f).sum:=by have:=kQ f ps<|j+1;rw[gE h,L8,OE] at this;simpa using this
theorem xC {b r:U Str}{ps:U T}{a j:O}{p:T}(h:b.drop a=wTs ps++r)(hp:ps[j]?=Y p):b.drop (a+(wTs<|ps.take j).length)=wT p++(wTs (ps.drop<|j+1)++r):=by
 have e:ps=ps.take j++(p::ps.drop (j+1)):=by have f:j<ps.length:=(Mo.mp hp).1;have c:ps[j]=p:=(Mo.mp hp).2;rw[<- c,QO,Pw]
 have d:wTs ps=wTs (ps.take j)++(wT p++wTs (ps.drop (j+1))):=(Rw wTs e).trans (by rw[kI,bf]);rw[<- NY,h,d,L6,Ou,L6]
theorem Dn {c d:O}{b:U T}{ps:U T}{w:L O}{x:Str}{D M r:U Str}{a:O}{sp:I}{t:O}(G:∀m,C c 233 [(m,.tup b)]=.ok ((.s,whT w),[]))(hx:w=J\/∃y,b=y::.str x::b.drop 2)(hk:∀p∈ps,Wk c d p)(hwt:∀p∈ps,WT d p)
  (hc:dF (bZ d) w x D 0 ps=Lw) (hd:M.drop a=wTs ps++r) (hs:((ps.map λp=>szF d p).sum:O)-(ps.length:I)<=sp) (hde:t+1+d<=20) (hb:D.length+1+d<=1000) (hl:ps.length<=3) (m1 m2 m3:Md):
  ∃o1 v A Q P,bY [5] (evSs (C c) WPB) ((L4 ps.length).map λ(k:O)=>[((.d,.int k):W)]) [Y (.o .s,WO M a sp),Y (m1,.tup b),Y (m2,.tup<|aA D),Y (m3,.int (t:I)),Y (.o .s,.lst []),J,J] =
   .nx [Y (.o .s,WO M (a+(wTs ps).length)<|sp-spS d ps),o1,Y (v,.tup<|aA D),Y (A,.int (t:I)),Y (.o .s,.lst ps),Q,P]:=by
 obtain⟨η',lp,H,v,A,Q,P,rfl⟩:=d5 (tg:=[5]) (f:=evSs (C c) WPB) (g:=λ(k:O)=>[((.d,.int k):W)])
  (λpre η=>∃(H v A:Md) (Q P:L W),η=[Y (.o .s,WO M (a+(wTs<|ps.take pre.length).length)<|sp-spS d (ps.take pre.length)),Y (H,.tup b),Y (v,.tup<|aA D),Y (A,.int (t:I)),Y (.o .s,.lst<|ps.take pre.length),Q,P])
  (L4 ps.length) [] [Y (.o .s,WO M a sp),Y (m1,.tup b),Y (m2,.tup<|aA D),Y (m3,.int (t:I)),Y (.o .s,.lst []),J,J]
  ⟨m1,m2,m3,J,J,by
   have e0:spS d []=0:=rfl;rw[N9,M8,bL,e0,Int.sub_zero];rfl⟩
  (by
   rintro pre k r' η hp' ⟨H,v,A,Q,P,he⟩;subst he;have hpl:=Rw Me hp';simp only[Ml,Nd,LH,LG] at hpl;have hk0:k=pre.length:=by have:=Rw (λl=>l[pre.length]?) hp';simp only[Ml] at this;rw[Nc<|LM _,Pb,Ny,Pr<|by lia] at this;exact(Mf this).symm
   subst hk0;generalize hj:pre.length=j at *;have hjl:j<ps.length:=by lia
   obtain⟨p,u⟩:∃p,ps[j]?=Y p:=⟨ps[j],Ma hjl⟩;have hpm:p∈ps:=NA u;have hcl:=lZ hc u;rw[MY] at hcl;have hdr:=xC hd u;have hst:=qf (λp=>szF d p) u;have hpos:((ps.take j).length:I)=j:=by rw[NS];lia
   have htl:∀q∈ps,1<=szF d q:=λq hq=>jU<|hwt q hq
   have hrest:(ps.length:I)-(j:I)-1+((ps.take j).map λp=>szF d p).sum+(szF d p:O)<=((ps.map λp=>szF d p).sum:O):=by
    have e:ps=ps.take j++(p::ps.drop (j+1)):=by have hg:ps[j]=p:=(Mo.mp u).2;rw[<- hg,QO,Pw]
    have h1:∀Z:U T,(∀q∈Z,1<=szF d q)->Z.length<=(Z.map λp=>szF d p).sum:=by
     intro Z;induction Z with
     |nil=>intro _;exact LM _
     |cons q Z ih=>intro h;have:=ih λz hz=>h z<|LO _ hz;have:=h q LI;rw[LJ,ML,LG];lia
    have h2:=h1 (ps.drop<|j+1) λq hq=>htl q<|List.mem_of_mem_drop hq;rw[NR] at h2
    have h3:(ps.map λp=>szF d p).sum=((ps.take j).map λp=>szF d p).sum+(szF d p+((ps.drop (j+1)).map λp=>szF d p).sum):=by
     conv=>lhs;rw[e]
     rw[L8,OE,LJ,ML]
    lia
   have hbl:(if w=Y j then D++[x] else D).length+d<=1000:=by
    split
    .rw[LH,L0];lia
    .lia
   have hsp:((szF d p:O):I)<=sp-spS d (ps.take j)+1:=by unfold spS;rw[hpos];lia
   have K:=λm m'=>hk p hpm M _ _ _ (if w=Y j then D++[x] else D) (t+1) m m' hdr hsp hde hcl hbl;have ed:(t:I)+1=((t+1:O):I):=by lia
   have lt:(ps.take j).length<LIM:=by rw[NS];show _<16777215;lia
   have et:ps.take j++[p]=ps.take (j+1):=(gE u).symm;have ea:a+(wTs (ps.take j)).length+(wT p).length=a+(wTs (ps.take (j+1))).length:=by rw[gE u,kI,bf,bL,LW,LH];lia
   have es:sp-spS d (ps.take j)+1-((szF d p:O):I)=sp-spS d (ps.take (j+1)):=by unfold spS;rw[gE u,L8,OE,LH,L0];simp only[LJ,Mi,ML,Pc];lia
   have N:∃m1 m2 m3 u5 u6,evSs (C c) WPB [Y (.o .s,WO M (a+(wTs<|ps.take j).length)<|sp-spS d (ps.take j)),Y (H,.tup b),Y (v,.tup<|aA D),Y (A,.int (t:I)),Y (.o .s,.lst<|ps.take j),Y (.d,.int (j:I)),P] =
     .nx [Y (.o .s,WO M (a+(wTs<|ps.take<|j+1).length)<|sp-spS d (ps.take<|j+1)),Y (m1,.tup b),Y (m2,.tup<|aA D),Y (m3,.int (t:I)),Y (.o .s,.lst<|ps.take<|j+1),u5,u6]:=by
    have kid1:∀μ:Md,((Md.kid (.o .s)).meet μ).up=.o .s:=λμ=>rfl;cases w with
    |none=>have en:∀m n,oSem .eq Lv [(m,.int (j:I)),(n,.non)]=Y (.d,.bl Lv):=λ_ _=>rfl;rw[fI] at G;rw[Rn<|by simp] at K;obtain⟨md,F⟩:=K .s .d;rw[ea,es] at F;unfold WO at F ⊢;exact⟨_,_,_,_,_,by simp_all only[fI,en,G,ed,F,Rk lt,et];rfl⟩
    | some i =>
     obtain⟨y,hy⟩:=hx.resolve_left (by simp);have a1:atI b 1=Y (.str x):=by rw[hy];exact at1 y (.str x) _
     have cc:=λm n=>yh D x (by lia) m n;rw[eP] at G;by_cases hij:i=j
     .subst hij;rw[Rk rfl] at K;have en:((i:I)==(i:I))=true:=Rq _;obtain⟨md,F⟩:=K .s .d;rw[ea,es] at F;unfold WO at F ⊢;exact⟨_,_,_,_,_,by simp_all only[eP,en,G,a1,cc,ed,F,Rk lt,et];rfl⟩
     .rw [Rn fun z=>hij<|Mf z] at K;have en:((j:I)==(i:I))=false:=beq_eq_false_iff_ne.mpr (by lia);obtain⟨md,F⟩:=K .s .d;rw[ea,es] at F;unfold WO at F ⊢;exact⟨_,_,_,_,_,by simp_all only[eP,en,G,a1,cc,ed,F,Rk lt,et];rfl⟩
   obtain⟨n1,n2,n3,n5,n6,N⟩:=N;refine⟨_,_,rfl,N,n1,n2,n3,n5,n6,?_⟩;rw[LH,L0,hj])
 rw[Ml,Nd,List.take_length] at lp;exact⟨_,v,A,Q,P,lp⟩
theorem wZ {d:O}{ps:U T}{t:T}(h:szF (d+1) t=(ps.map λp=>szF d p).sum+1)(sp:I):sp-(ps.length:I)-spS d ps=sp+1-((szF (d+1) t:O):I):=by rw[h,spS];lia
theorem eE {d:O}{t:T}{ps:U T}(h:c9 t=ps):szF (d+1) t=(ps.map λp=>szF d p).sum+1:=by rw[szF,aC,h,LH,fw];rfl
theorem wX {n d:O}{B fs ps:U T}{w:L O}{x:Str}{bd ws r:U Str}{a:O}{sp:I}{dep:O}(i:∀m,C (n+1) 176 [(m,.tup B)]=.ok ((.s,.tup fs),[]))(h:fs.length=ps.length)(f:∀m,C (n+1) 233 [(m,.tup B)]=.ok ((.s,whT w),[]))(hx:w=J\/∃y,B=y::.str x::B.drop 2)(hk:∀p∈ps,Wk (n+1) d p)(j:∀p∈ps,WT d p)
  (u:dF (bZ d) w x bd 0 ps=Lw) (hd:ws.drop a=wTs ps++r) (v:((ps.map λp=>szF d p).sum:O)-(ps.length:I)<=sp) (g:dep+1+d<=20) (t:bd.length+1+d<=1000) (l:ps.length<=3) (k c e:Md):
  C (n+2) 496 [(.o .s,WO ws a sp),(k,.tup B),(c,.tup<|aA bd),(e,.int (dep:I))]=.ok ((.o .s,.lst ps),[(.o .s,WO ws (a+(wTs ps).length)<|sp-spS d ps)]):=by
 obtain⟨r1,r2⟩:=uJ (mn:=ps.length) l;have z:=λk c e=>Dn f hx hk j u hd v g t l k c e;obtain⟨F,A,D,G,H,b⟩:=z .s c e;rw[<- h] at r1 r2 b;rw[iU,x_run _ _ _ rfl];simp_all only[bU,i,r1,r2,b]
theorem Ja (k:O)(s:Rr)(b:keys_AHEAD.contains (q s)=Lv)(a ps:U T)(d:ps.length<=10)(m m':Md):C (k+2) 334 [(m,.tup (.str (q s)::a)),(m',.lst ps)]=.ok ((.s,.tup (.str (q s)::ps)),[]):=by
 have p:=λm=>dH k (q s) m;rw[b,Rn LX] at p;have c:=C1 (T.str<|q s) a;have g:(fits ([T.str (q s)].length+ps.length)&&!([T.str (q s)]:U T).isEmpty)=true:=by rw[LQ];exact⟨Ri<|by show 1+_<=16777215;lia,rfl⟩
 rw[eM,x_run _ _ _ rfl];simp_all only[bA,p,dG,c,Rk g,NC]
theorem BK (k:O)(s:Rr)(b:keys_AHEAD.contains (q s)=Lw)(x:T)(a ps:U T)(d:ps.length<=10)(m m':Md):C (k+2) 334 [(m,.tup (.str (q s)::x::a)),(m',.lst ps)]=.ok ((.s,.tup (.str (q s)::x::ps)),[]):=by
 have p:=λm=>dH k (q s) m;rw[b,Rk rfl] at p;have c:=Ep (T.str<|q s) x a;have g:(fits ([T.str (q s),x].length+ps.length)&&!([T.str (q s),x]:U T).isEmpty)=true:=by rw[LQ];exact⟨Ri<|by show 2+_<=16777215;lia,rfl⟩
 have e:[T.str (q s),x]++ps=T.str (q s)::x::ps:=rfl;rw[eM,x_run _ _ _ rfl];simp_all only[bA,p,dG,c,Rk g,e]
theorem fZ (m n:Md)(a:U T):oSem .is Lv [(m,.tup a),(n,.non)]=Y (.d,.bl Lv):=rfl
theorem kL (m n:Md):oSem .isnot Lv [(m,.non),(n,.non)]=Y (.d,.bl Lv):=rfl
theorem Eh (m n:Md)(i:I):oSem .isnot Lv [(m,.int i),(n,.non)]=Y (.d,.bl Lw):=rfl
theorem walk_of {N d:O}{s:Rr}{B fs ps:U T}{w0:Str}{μ:Md}{t:T}(P:μ=.s\/μ=.d)(f:C (N+2) 497 [(.s,.str w0)]=.ok ((μ,.tup (.str (q s)::B)),[]))(z:∀k m,C (k+2) 176 [(m,.tup (.str (q s)::B))]=.ok ((.s,.tup fs),[]))(b:fs.length=ps.length)
  (u:∀k m,C (k+1) 233 [(m,.tup (.str (q s)::B))]=.ok ((.s,.non),[])) (g:(q s==q "none")=Lv) (A:∀k m G,C (k+2) 334 [(m,.tup (.str (q s)::B)),(G,.lst ps)]=.ok ((.s,t),[])) (hk:∀p∈ps,Wk (N+1) d p) (j:∀p∈ps,WT d p) (hN:1<=N) (Z:ps.length<=3)
  (i:c9 t=ps) (hW:wT t=w0::wTs ps) (v:∀bd,bZ (d+1) bd t=Lw->dF (bZ d) J ⟨#[]⟩ bd 0 ps=Lw):Wk (N+3) (d+1) t:=by
 intro ws r a sp bd dep m G hd hs hde hc hb;rw[hW,MA] at hd;have e1:=ff (N+1) sp hd;have y:ws.drop (a+1)=wTs ps++r:=(cj hd).2.1;have hz:=eE (d:=d) i;have D:∀p∈ps,1<=szF d p:=λp hp=>jU<|j p hp
 have hsum:ps.length<=(ps.map λp=>szF d p).sum:=by
  clear i hW b hk j Z v hd y hz A;induction ps with
  |nil=>exact LM _
  |cons p ps ih=>have h1:=ih λq hq=>D q<|LO _ hq;have h2:=D p LI;rw[LJ,ML,LG];lia
 have o:decide (sp<((fs.length:O):I))=false:=Rt (by rw[b];lia);have Q:((dep:I)==20)=false:=beq_eq_false_iff_ne.mpr (by lia);have e2:=eZ (N+1) ws a<|sp-((fs.length:O):I);have H:∀m,C (N+2) 176 [(m,.tup (.str (q s)::B))]=.ok ((.s,.tup fs),[]):=z N;have F:∀m,C (N+2) 233 [(m,.tup (.str (q s)::B))]=.ok ((.s,.non),[]):=u<|N+1;have p3:∀m,C (N+1) 176 [(m,.tup (.str (q s)::B))]=.ok ((.s,.tup fs),[]):=λm=>by have:=z (N-1) m;rw[show N-1+2=N+1 by lia] at this;exact this
 have l:=λm1 m2 m3=>wX (n:=N) (d:=d) (B:=T.str (q s)::B) (fs:=fs) (ps:=ps) (w:=J) (x:=⟨#[]⟩) (bd:=bd) (ws:=ws) (r:=r) (a:=a+1) (sp:=sp-((fs.length:O):I)) (dep:=dep) p3 b (u N) (.inl rfl) hk j (v bd hc) y (by rw[b];lia) (by lia) (by lia) Z m1 m2 m3;have M:=λm G=>A N m G;have es:=wZ hz sp;have ea:a+1+(wTs ps).length=a+(wT t).length:=by rw[hW,LG];lia
 rw[b] at l e2 o;rw[es,ea] at l;have e:atI (T.str (q s)::B) 0=Y (T.str (q s)):=at0 _ _;rw[show N+3=(N+2)+1 from rfl,dI,x_run _ _ _ rfl];unfold WO at *;rcases P with rfl|rfl
 .cases c:decide ((0:I)<((ps.length:O):I)) with
  |false=>exact⟨_,by simp_all only[aK,e1,f,fZ,H,b,lk3,iV,o,c,sP,st3,e2,e,g,F,kL,l,M];rfl⟩
  |true=>exact⟨_,by simp_all only[aK,e1,f,fZ,H,b,lk3,iV,o,c,Q,sP,st3,e2,e,g,F,kL,l,M];rfl⟩
 .cases c:decide ((0:I)<((ps.length:O):I)) with
  |false=>exact⟨_,by simp_all only[aK,e1,f,fZ,H,b,lk3,iV,o,c,sP,st3,e2,e,g,F,kL,l,M];rfl⟩
  |true=>exact⟨_,by simp_all only[aK,e1,f,fZ,H,b,lk3,iV,o,c,Q,sP,st3,e2,e,g,F,kL,l,M];rfl⟩
theorem xP {d:O}:∀{ps:U T},(∀p∈ps,WT d p)->ps.length<=(ps.map λp=>szF d p).sum
|[],_=>LM _
|p::ps,h=>by have b:=xP λq a=>h q<|LO _ a;have c:=jU<|h p LI;rw[LJ,ML,LG];lia
theorem pZ {N d:O}{s x:Rr}{ps:U T}(i:s∈BF)(hx:nmA (q x)=Lw)(u:ps.length=arB s)(hk:∀p∈ps,Wk (N+1) d p)(v:∀p∈ps,WT d p)(hN:12<=N):Wk (N+3) (d+1) (.tup (.str (q s)::.str (q x)::ps)):=by
 intro ws r a sp bd dep m Q hd hs' hde M hb;have hW:=cM (q s) (q x) ps<|dY u;have y:=(hU s i).2.1;have c:=cT s y (.str<|q x) ps;have F:ps.length<=3:=by rw[u];exact nN s
 have e5:bnd (.tup (.str (q s)::.str (q x)::ps))=Y (q x):=Rk<|b3B s i;rw[xD e5,c,LQ] at M;obtain⟨b,l⟩:=M
 have b:bd.contains (q x)=false:=by cases h:bd.contains (q x) with
  |false=>rfl
  |true=>rw[h] at b;cases b
 rw[u,<- whA s i] at l;rw[hW,MA,MA] at hd;have e1:=ff (N+1) sp hd;have t:ws.drop (a+1)=q x::(wTs ps++r):=(cj hd).2.1;have A:ws.drop (a+1+1)=wTs ps++r:=(cj t).2.1;have hz:=eE (d:=d) c;have P:=xP v;have k:C (N+2) 497 [(.s,.str (q s))]=.ok ((.s,.tup (.str (q s)::.str (q "x")::LU (arB s) y1)),[]):=by have:=ph<|JK (N-12) s i;rw[show N-12+14=N+2 by lia] at this;exact this
 have f:(LU (arB s) y1).length=ps.length:=by rw[M4,u]
 generalize LU (arB s) y1=fs at k f;have g1:decide (sp<((ps.length:O):I))=false:=Rt (by lia);have g3:((dep:I)==20)=false:=beq_eq_false_iff_ne.mpr (by lia);have D:decide ((0:I)<((ps.length:O):I))=true:=Ri (by rw[u];unfold arB;split<;>decide);have e2:=eZ (N+1) ws a<|sp-((ps.length:O):I);have p2:∀x m,C (N+2) 176 [(m,.tup (.str (q s)::x::fs))]=.ok ((.s,.tup fs),[]):=λx m=>cP N s y x fs m;have H:=λm=>bD (N+1) (q s) (.str (q "x")::fs) m;rw[lkB<|tbB s i,show N+1+1=N+2 from rfl] at H;have j:=λm=>bD N (q s) (.str (q x)::fs) m;rw[lkB<|tbB s i] at j;have p3:∀m,C (N+1) 176 [(m,.tup (.str (q s)::.str (q x)::fs))]=.ok ((.s,.tup fs),[]):=λm=>by have:=cP (N-1) s y (.str<|q x) fs m;rw[show N-1+2=N+1 by lia] at this;exact this
 have wn:∀m,C (N+2) 493 [(.o .s,WO ws (a+1) (sp-((ps.length:O):I))),(m,.tup (aA bd))]=.ok ((.s,.str (q x)),[(.o .s,WO ws (a+1+1) (sp-((ps.length:O):I)))]):=λm=>by have:=lj (N-1) (sp-((ps.length:O):I)) t hx b m;rw[show N-1+3=N+2 by lia] at this;exact this
 have Z:=λm1 m2 m3=>wX (n:=N) (d:=d) (B:=T.str (q s)::.str (q x)::fs) (fs:=fs) (ps:=ps) (w:=Y<|wh s) (x:=q x) (bd:=bd) (ws:=ws) (r:=r) (a:=a+1+1) (sp:=sp-((ps.length:O):I)) (dep:=dep) p3 f j (.inr ⟨_,rfl⟩) hk v l A (by lia) (by lia) (by lia) F m1 m2 m3;have w2:=λm Q=>BK N s y (.str<|q x) fs ps (by lia) m Q;have es:=wZ hz sp;have ea:a+1+1+(wTs ps).length=a+(wT (.tup (.str (q s)::.str (q x)::ps))).length:=by rw[hW,LG,LG];lia
 rw[es,ea] at Z;have G:(q s==q "none")=false:=(sgB s i).2.2;have z:atI (T.str (q s)::.str (q "x")::fs) 0=Y (T.str (q s)):=at0 _ _;have g:(fits ([T.str (q s),T.str (q x)].length+ps.length)&&!([T.str (q s),T.str (q x)]:U T).isEmpty)=true:=by rw[LQ];exact⟨Ri<|by show 2+_<=16777215;lia,rfl⟩
 have e:[T.str (q s),T.str (q x)]++fs=T.str (q s)::.str (q x)::fs:=rfl;rw[show N+3=(N+2)+1 from rfl,dI,x_run _ _ _ rfl];unfold WO at *;exact⟨_,by simp_all only[aK,e1,k,fZ,p2,f,lk3,iV,g1,D,g3,sP,st3,e2,z,G,H,Eh,wn,Rk g,e,Z,w2];rfl⟩
theorem qR {N d:O}{k:Kd}(hk:k.deep<=4)(hN:12<=N):Wk (N+3) (d+1) (.tup [.str<|q "none",k.th]):=by
 intro ws r a sp w j m z hd g t y x;have hW:wT (.tup [.str (q "none"),k.th])=q "none"::kw k:=by rw[aF _ _ λp hp=>by rw[LR.mp hp,eQ];exact⟨_,rfl⟩,bf,bL,LW,b0]
 rw[hW,MA] at hd;have e1:=ff (N+1) sp hd;have c:ws.drop (a+1)=kw k++r:=(cj hd).2.1;have i:szF (d+1) (.tup [.str (q "none"),k.th])=1:=sz1<|cT "none" (dg "none"<|by decide).2.1 _ [];have b:=zw N;have v:∀m,C (N+2) 176 [(m,.tup [.str (q "none"),.tup [.str (q "num")]])]=.ok ((.s,.tup []),[]):=λm=>cP N "none" (dg "none"<|by decide).2.1 _ [] m;have u:((([]:U T).length:O):I)=0:=rfl;have o:decide (sp<0)=false:=Rt (by rw[i] at g;lia);have e:decide ((0:I)<0)=false:=rfl;have e2:=eZ (N+1) ws a<|sp-0;obtain⟨A,h⟩:=lC (N-6) (ws:=ws) (r:=r) (k:=k) (a:=a+1) (sp-0) c hk;rw[show N-6+8=N+2 by lia] at h;have l:a+1+(kw k).length=a+(wT (.tup [.str (q "none"),k.th])).length:=by rw[hW,LG];lia
 have n:sp-0=sp+1-((szF (d+1) (.tup [.str (q "none"),k.th]):O):I):=by rw[i];lia
 rw[l] at h;have f:(q "none"==q "none")=true:=Rq _;rw[show N+3=(N+2)+1 from rfl,dI,x_run _ _ _ rfl,<- n];unfold WO at *;exact⟨_,by simp_all only[aK,e1,b,fZ,v,u,lk3,iV,o,e,sP,st3,e2,nM,f,h,dW];rfl⟩
theorem oW:∀(d:O) (t:T),WT d t->∀n,Wk (n+2 * d+14) d t
|0,_,h,_=>nomatch h
| d+1,t,h,n=>by
 have j:∀{ps:U T},(∀p∈ps,WT d p)->∀p∈ps,Wk (n+2 * d+13+1) d p:=λhp p h=>oW d p (hp p h) n;rw[show n+2 * (d+1)+14=n+2 * d+13+3 by lia];have leaf:∀(s:Rr) (x:T) (i:Str),s∈LF->(q s==q "none")=Lv->C (n+2 * d+13+2) 497 [(.s,.str i)]=.ok ((.d,.tup [.str (q s),x]),[])->wT (.tup [.str (q s),x])=i::wTs []->Wk (n+2 * d+13+3) (d+1) (.tup [.str (q s),x]):=λs x i a f u v=>by have b:=(dg s a).2.1;refine walk_of (μ:=.d) (s:=s) (B:=[x]) (fs:=[]) (ps:=[]) (.inr rfl) u (λk m=>cP k s b x [] m) rfl (λk m=>?_) f (λk m g=>BK k s b x [] [] (by decide) m g) (λp h=>nomatch h) (λp h=>nomatch h) (by lia) (by decide) (cT s b x []) v λl _=>rfl;have:=bD k (q s) [x] m;rw[lkN<|tbL s a] at this;exact this
 cases h with
 |num o r=>refine leaf "num" _ (strI _) (by decide) (by decide +kernel) ?_ (by rw[fM,bL]);have:=Er (n+2 * d+10) _ o r;exact this
 |name a=>refine leaf "name" _ (q _) (by decide) (by decide +kernel) ?_ (by rw[eF,bL]);exact zS (n+2 * d+13) _<|nlA _ a
 |none hk=>obtain⟨k,rfl,hk⟩:=bJ hk;exact qR (by lia)<|by lia
 | node a c hp =>
  rename_i s ps;have b:=ahN s a;have e:C (n+2 * d+13+2) 497 [(.s,.str (q s))]=.ok ((.s,.tup (.str (q s)::LU (ar s) y1)),[]):=ph<|Lk (n+2 * d+1) s a;refine walk_of (μ:=.s) (.inl rfl) e (λk m=>kz k s a _ m) (by rw[M4,c]) (λk m=>?_) (sgN s a).2.2 (λk m g=>Ja k s b _ ps (by rw[c];exact LL (ar3 s)<|by decide) m g) (j hp) hp (by lia) (by rw[c];exact ar3 s) (fC s b ps) (aF _ _ λp h=>(hp p h).tp) λl h=>?_
  .have:=bD k (q s) (LU (ar s) y1) m;rw[lkN<|tbN s a] at this;exact this
  .rw [lI<|fO (b3N s a) _,fC s b] at h;exact h
 |bind a hx c hp=>exact pZ a (nbA _ hx) c (j hp) hp<|by lia
theorem kJ {F:U Str->T->Rl}{w:L O}{x:Str}{a:U Str}:∀{ps:U T} {i:O},(∀j p,ps[j]?=Y p->F (if w=Y (i+j) then a++[x] else a) p=Lw)->dF F w x a i ps=Lw
|[],_,_=>rfl
|p::ps,i,h=>by rw[dF,LQ];refine⟨h 0 p rfl,kJ λj c b=>?_⟩;have:=h (j+1) c b;rw[show i+(j+1)=i+1+j by lia] at this;exact this
abbrev CLB:U S:=[
   .asg (.q [0] [3,6]) 7 (.and (.op .eq Lv [.var 3,.cst<|.int 2])<|.op .eq Lv [.var 6,.op .sub Lv [.op .len Lv [.var 0],.cst<|.int 1]]),
   .asg (.q [0,1,4,5] [2,6,7]) 4 (.op .add Lv [.var 4,.tup [.call 501 [.op .ix Lv [.var 0,.var 6],.ifx (.var 7) (.var 5)<|.var 1,.op .add Lv [.var 2,.cst<|.int 1]]]])]
noncomputable abbrev inN (w:L O)(x:Str)(a:U Str)(i:O):U Str:=if w=Y i then a++[x] else a
def Ok1 (a d k:O)(c:U Str)(p b:T):Prop:=(∀e f,∃g,C a 501 [(e,p),(f,.lst<|aA c),(.d,.int<|(k:I))]=.ok ((g,b),[]))/\WT d b/\szF d b=szF d p/\bZ d c b=Lw
theorem vc {L d k:O}{ts p0 ps:U T}{od:U Str}{w:Option O}{x:Str}{st:O}(N:ts=p0++ps)(M:p0.length=st)(hw:(st=1/\w=J)\/(st=2/\w=Y (ps.length-1)))(hl:ps.length<=3)
  (ih:∀i p,ps[i]?=Y p->∃A,Ok1 L d (k+1) (inN w x od i) p A) (a:U T) (h0:a.isEmpty=Lv) (D:a.length<=2) (P Q Z m5:Md) (b:U Str) (hin:w=J\/b=od++[x]):
  ∃ rs:U T,rs.length=ps.length/\(∀ i p r,ps[i]?=Y p->rs[i]?=Y r->WT d r/\szF d r=szF d p/\bZ d (inN w x od i) r=Lw)/\∃ c e m n F y,
   bY [6] (evSs (C L) CLB) ((L4 ps.length).map λ(j:O)=>[((.d,.int<|(st:I)+(j:I)):W)]) [Y (P,.tup ts),Y (Q,.lst<|aA od),Y (.d,.int (k:I)),Y (.d,.int (st:I)),Y (Z,.tup a),Y (m5,.lst<|aA b),J,J] =
    .nx [Y (c,.tup ts),Y (e,.lst<|aA od),Y (.d,.int (k:I)),Y (.d,.int (st:I)),Y (m,.tup<|a++rs),Y (n,.lst<|aA b),F,y]:=by
 obtain⟨η',lp,rs,H,hp,c,e,m,n,F,y,rfl⟩:=d5 (tg:=[6]) (f:=evSs (C L) CLB) (g:=λ(j:O)=>[((.d,.int<|(st:I)+(j:I)):W)])
  (λpre η=>∃rs:U T,rs.length=pre.length/\(∀i p r,ps[i]?=Y p->rs[i]?=Y r->WT d r/\szF d r=szF d p/\bZ d (inN w x od i) r=Lw)/\∃c e m n F y,η=[Y (c,.tup ts),Y (e,.lst<|aA od),Y (.d,.int (k:I)),Y (.d,.int (st:I)),Y (m,.tup<|a++rs),Y (n,.lst<|aA b),F,y])
  (L4 ps.length) [] [Y (P,.tup ts),Y (Q,.lst<|aA od),Y (.d,.int (k:I)),Y (.d,.int (st:I)),Y (Z,.tup a),Y (m5,.lst<|aA b),J,J]
  ⟨[],rfl,(λi p r _ h=>by simp at h),P,Q,Z,m5,J,J,by rw[LW]⟩
  (by
   rintro pre j r' η G ⟨rs,H,hp,c,e,m,n,F,y,he⟩;subst he;have hpl:=Rw Me G;simp only[Ml,Nd,LH,LG] at hpl;have hj0:j=pre.length:=by have:=Rw (λl=>l[pre.length]?) G;simp only[Ml] at this;rw[Nc<|LM _,Pb,Ny,Pr<|by lia] at this;exact(Mf this).symm
   subst hj0;generalize hj:pre.length=j at *;have hjl:j<ps.length:=by lia
   obtain⟨p,u⟩:∃p,ps[j]?=Y p:=⟨ps[j],Ma hjl⟩;obtain⟨A,t,hwt,hz,hc⟩:=ih j p u
   have a1:atI ts ((st:I)+(j:I))=Y p:=by
    have:((st:I)+(j:I))=((st+j:O):I):=by lia
    rw[this];refine atN rfl ?_;rw[N,Nc<|by lia,<- M,QT];exact u
   have f3:(fits ((a++rs).length+[A].length)&&!(a++rs).isEmpty)=true:=by
    rw[LQ];refine⟨Ri ?_,?_⟩
    .rw [LH,L0];show _<=16777215;lia
    .cases a with
     |nil=>cases h0
     |cons=>rfl
   have ek:(k:I)+1=((k+1:O):I):=by lia
   have ea:a++rs++[A]=a++(rs++[A]):=L6 _ _ _
   have v:∃P Q Z m5 u6 u7,evSs (C L) CLB [Y (c,.tup ts),Y (e,.lst<|aA od),Y (.d,.int (k:I)),Y (.d,.int (st:I)),Y (m,.tup<|a++rs),Y (n,.lst<|aA b),Y (.d,.int<|(st:I)+(j:I)),y] =
     .nx [Y (P,.tup ts),Y (Q,.lst<|aA od),Y (.d,.int (k:I)),Y (.d,.int (st:I)),Y (Z,.tup<|a++(rs++[A])),Y (m5,.lst<|aA b),u6,u7]:=by
    obtain⟨md,t⟩:=t .s .s;rcases hw with⟨rfl,rfl⟩|⟨rfl,rfl⟩
    .have s1:(((1:O):I)==2)=false:=rfl;rw[inN,Rn<|by simp] at t;exact⟨_,_,_,_,_,_,by simp_all only[s1,a1,ek,t,Rk f3,ea];rfl⟩
    .have s1:(((2:O):I)==2)=true:=rfl;have hlen:((ts.length:O):I)=(ps.length:I)+2:=by rw[N,LH,M];lia
     by_cases o:ps.length-1=j
     .have s2:((((2:O):I)+(j:I))==((ts.length:O):I)-1)=true:=beq_iff_eq.mpr (by lia);rw[inN,Rk<|by rw[o],<- hin.resolve_left (by simp)] at t;exact⟨_,_,_,_,_,_,by simp_all only[s1,s2,a1,ek,t,Rk f3,ea];rfl⟩
     .have s2:((((2:O):I)+(j:I))==((ts.length:O):I)-1)=false:=beq_eq_false_iff_ne.mpr (by lia);rw[inN,Rn λz=>o<|Mf z] at t;exact⟨_,_,_,_,_,_,by simp_all only[s1,s2,a1,ek,t,Rk f3,ea];rfl⟩
   obtain⟨n0,n1,n4,n5,n6,n7,v⟩:=v;refine⟨_,_,rfl,v,rs++[A],by rw[LH,LH,H,hj];rfl,λi p' r h1 D=>?_,n0,n1,n4,n5,n6,n7,rfl⟩;by_cases hi:i<rs.length
   .rw [Ob hi] at D;exact hp i p' r h1 D
   .have hie:i=j:=by have:=(Mo.mp D).1;rw[LH,L0] at this;lia
    subst hie;rw[Nc<|by lia,H,Pb,Ny] at D;cases D;rw[u] at h1;cases h1;exact⟨hwt,hz,hc⟩)
 rw[Ml,Nd] at H;exact⟨rs,H,hp,c,e,m,n,F,y,lp⟩
abbrev al26:Str:=q "abcdefghijklmnopqrstuvwxyz"
theorem uAt:∀k:O,k<26->((atI al26.cps.toList (k:I)).map λc=>(q "u")++(⟨#[c]⟩:Str))=Y (q<|NU.getD k ""):=by decide +kernel
theorem uK {k:O}(h:k<26):∃c,atI al26.cps.toList (k:I)=Y c/\(q "u")++(⟨#[c]⟩:Str)=q (NU.getD k ""):=by obtain⟨c,a,b⟩:=Oy.mp<|uAt k h;exact⟨c,a,b⟩
theorem uNe:∀j<26,∀k<26,j≠k->q (NU.getD j "")≠q (NU.getD k ""):=by decide +kernel
theorem uN5:∀j<26,∀s∈NB5,q (NU.getD j "")≠q s:=by decide +kernel
theorem uNB:∀j<26,NU.getD j ""∈NB:=by decide +kernel
def Gk (k:O)(a:U Str):Prop:=∀j,k<=j->j<26->q (NU.getD j "") ∉ a
theorem Gk.up {k:O}{a:U Str}(h:Gk k a):Gk (k+1) a:=λj c b=>h j (by lia) b
theorem Gk.add {k:O}{c:U Str}(h:Gk k c){x:Str}(hx:x=q (NU.getD k "")\/∃s∈NB5,x=q s)(hk:k<26):Gk (k+1) (c++[x]):=λj d b a=>by
 rcases Ms.mp a with a|a
 .exact h j (by lia) b a
 .have a:=LR.mp a;rcases hx with rfl|⟨s,hs,rfl⟩
  .exact uNe j b k hk (by lia) a
  .exact uN5 j b s hs a
theorem JX:∀s∈LF,(lf3.any λt=>eqT t<|.str<|q s)=true:=by decide +kernel
theorem Ln:∀s∈NF,(lf3.any λt=>eqT t<|.str<|q s)=false:=by decide +kernel
theorem K6:∀s∈BF,(lf3.any λt=>eqT t<|.str<|q s)=false:=by decide +kernel
def Cl1 (a d k:O)(t:T):Prop:=∀b,Gk k b->b.length+d<=1000->∃c,Ok1 a d k b t c
theorem pJ {d:O}{ps rs:U T}(c:rs.length=ps.length)(h:∀(i:O) (p r:T),ps[i]?=Y p->rs[i]?=Y r->szF d r=szF d p):(rs.map λp=>szF d p).sum=(ps.map λp=>szF d p).sum:=by
 have:(rs.map λp=>szF d p)=ps.map λp=>szF d p:=by refine List.ext_getElem (by rw[LB,LB,c]) λi a b=>?_;rw[LB] at a b;rw[P4,P4];exact h i _ _ (Ma b)<|Ma a
 rw[this]
theorem tq {d:O}{ps rs:U T}(c:rs.length=ps.length)(h:∀(i:O) (p r:T),ps[i]?=Y p->rs[i]?=Y r->WT d r):∀r∈rs,WT d r:=λr b=>by obtain⟨i,a,rfl⟩:=Q3 b;exact h i _ _ (Ma<|by lia)<|Ma a
theorem iP {N d k:O}{s:Rr}{x:T}(a:s∈LF)(h:WT (d+1)<|.tup [.str<|q s,x]):Cl1 (N+1) (d+1) k (.tup [.str<|q s,x]):=by
 intro e _ _;have e1:=JX s a;refine⟨_,λb c=>?_,h,rfl,?_⟩
 .rw [bS,x_run _ _ _ rfl];exact⟨_,by simp_all only[aJ,fl3,e1];rfl⟩
 .rw[lI<|fO (b3L s a) _,cT s (dg s a).2.1];rfl
theorem Kk (a n:O)(c:a<=2)(b:n<=3):((decide (((a:I)).natAbs<4611686018427387904)&&decide ((((a+n:O):I)).natAbs<4611686018427387904)&&fits (((a+n:O):I)-(a:I)).toNat)=Lw)/\(((a+n:O):I)-(a:I)).toNat=n:=by
 have e:(((a+n:O):I)-(a:I)).toNat=n:=by lia
 refine⟨?_,e⟩;rw[e,LQ,LQ];exact⟨⟨Ri<|by lia,Ri<|by lia⟩,Ri<|by show _<=16777215;lia⟩
theorem rM (a n:O)(c:a<=2)(b:n<=3)(m m':Md):bO .rng [(m,.int (a:I)),(m',.int ((a+n:O):I))]=Y ((L4 n).map λ(j:O)=>[((.d,.int<|(a:I)+(j:I)):W)]):=by obtain⟨r1,r2⟩:=Kk a n c b;show(if(decide (((a:I)).natAbs<4611686018427387904)&&decide ((((a+n:O):I)).natAbs<4611686018427387904)&&fits (((a+n:O):I)-(a:I)).toNat)=Lw then Y ((L4 (((a+n:O):I)-(a:I)).toNat).map λ(k:O)=>[((.d,.int<|(a:I)+k):W)]) else J)=_;rw[Rk r1,r2]
theorem ya {L d k:O}{s:Rr}{ps:U T}(a:s∈NF)(n:ps.length=ar s)(v:∀p∈ps,Cl1 L d (k+1) p):Cl1 (L+1) (d+1) k (.tup (.str (q s)::ps)):=by
 intro od t P;have b:ps.length<=3:=by rw[n];exact ar3 s
 have h:∀i p,ps[i]?=Y p->∃M,Ok1 L d (k+1) (inN J ⟨#[]⟩ od i) p M:=λi p hp=>by rw[inN,Rn<|by simp];exact v p (NA hp) od t.up<|by lia
 obtain⟨rs,g,hp,A,D,F,G,o6,o7,y⟩:=vc (L:=L) (d:=d) (k:=k) (ts:=.str (q s)::ps) (p0:=[.str<|q s]) (ps:=ps) (od:=od) (w:=J) (x:=⟨#[]⟩) (st:=1) rfl rfl (.inl ⟨rfl,rfl⟩) b h [.str<|q s] rfl (by show 1<=2;lia) .s .s .s .s od (.inl rfl);have N:=λm z=>rM 1 ps.length (by lia) b m z;have e1:=Ln s a;have e2:=b3N s a;have e3:(1:I)+b2i Lv=((1:O):I):=rfl;have H:(((1:O):I)==2)=false:=rfl;have c1:=C1 (T.str<|q s) ps;have o:(((T.str (q s)::ps).length:O):I)=((1+ps.length:O):I):=by rw[LG];lia
 have c:cut (T.str (q s)::ps) J (Y ((1:O):I))=[T.str (q s)]:=c1;refine⟨.tup (.str (q s)::rs),λQ Z=>?_,.node a (by rw[g,n])<|tq g λi p r e f=>(hp i p r e f).1,?_,?_⟩
 .rw [bS,x_run _ _ _ rfl];exact⟨_,by simp_all only[aJ,fl3,e1,e2,e3,H,dG,c,o,N,y];rfl⟩
 .rw[eE<|fC s (ahN s a) rs,eE<|fC s (ahN s a) ps,pJ g λi p r e f=>(hp i p r e f).2.1]
 .rw [lI<|fO (b3N s a) _,fC s<|ahN s a];refine kJ λj p l=>?_;rw[Rn<|by simp];have u:=(Mo.mp l).1;have:=(hp j _ p (Ma<|by lia) l).2.2;rw[inN,Rn<|by simp] at this;exact this
theorem s9 {L d k:O}{s x:Rr}{ps:U T}(l:s∈BF)(hx:x∈NB5)(hl:ps.length=arB s)(hk:k<26)(ih:∀p∈ps,Cl1 L d (k+1) p):Cl1 (L+1) (d+1) k (.tup (.str (q s)::.str (q x)::ps)):=by
 intro od hg hb;have g:ps.length<=3:=by rw[hl];exact nN s
 have Q:=(hU s l).2.1
 have t:∀y:Rr,y∈NB->(q y=q (NU.getD k "")\/∃z∈NB5,q y=q z)->q y ∉ od->(∀(rs:U T) (a b e f:Md) (v A:Option W),bY [6] (evSs (C L) CLB) ((L4 ps.length).map λ(j:O)=>[((.d,.int<|((2:O):I)+(j:I)):W)]) [Y (.s,.tup (.str (q s)::.str (q x)::ps)),Y (.s,.lst<|aA od),Y (.d,.int (k:I)),Y (.d,.int ((2:O):I)),Y (.s,.tup [.str<|q s,.str<|q y]),Y (.o .s,.lst<|aA<|od++[q y]),J,J] =
    .nx [Y (a,.tup (.str (q s)::.str (q x)::ps)),Y (b,.lst<|aA od),Y (.d,.int (k:I)),Y (.d,.int ((2:O):I)),Y (e,.tup<|[.str<|q s,.str<|q y]++rs),Y (f,.lst<|aA<|od++[q y]),v,A]->∀m0 m1,∃md,C (L+1) 501 [(m0,.tup (.str (q s)::.str (q x)::ps)),(m1,.lst<|aA od),(.d,.int (k:I))]=.ok ((md,.tup (.str (q s)::.str (q y)::rs)),[]))->∃t',Ok1 (L+1) (d+1) k od (.tup (.str (q s)::.str (q x)::ps)) t':=λy hy hy2 hno run=>by
  have ih':∀i p,ps[i]?=Y p->∃t',Ok1 L d (k+1) (inN (Y (ps.length-1)) (q y) od i) p t':=λi p hp=>by
   have hm:=NA hp;rw[inN];split
   .exact ih p hm _ (hg.add hy2 hk) (by rw[LH,L0];lia)
   .exact ih p hm _ hg.up (by lia)
  obtain⟨rs,G,hp,a,b,e,f,v,A,u⟩:=vc (L:=L) (d:=d) (k:=k) (ts:=.str (q s)::.str (q x)::ps) (p0:=[.str<|q s,.str<|q x]) (ps:=ps) (od:=od) (w:=Y<|ps.length-1) (x:=q y) (st:=2) rfl rfl (.inr ⟨rfl,rfl⟩) g ih' [.str<|q s,.str<|q y] rfl (by show 2<=2;lia) .s .s .s (.o .s) (od++[q y]) (.inr rfl);have e5:bnd (.tup (.str (q s)::.str (q y)::rs))=Y (q y):=Rk<|b3B s l;refine⟨.tup (.str (q s)::.str (q y)::rs),run rs a b e f v A u,.bind l hy (by rw[G,hl])<|tq G λi p r N P=>(hp i p r N P).1,?_,?_⟩
  .rw[eE<|cT s Q _ rs,eE<|cT s Q _ ps,pJ G λi p r N P=>(hp i p r N P).2.1]
  .rw [xD e5,cT s Q,LQ];refine⟨?_,kJ λj p hj=>?_⟩
   .cases h:od.contains (q y) with
    |false=>rfl
    |true=>exact Rm (O3.mp h) hno
   .have hj2:=(Mo.mp hj).1;have:=(hp j _ p (Ma<|by lia) hj).2.2;rw[inN] at this;rw[G,MY];exact this
 have tr:=λm m'=>rM 2 ps.length (by lia) g m m';have e1:=K6 s l;have e2:=b3B s l;have e3:(1:I)+b2i Lw=((2:O):I):=rfl;have s1:(((2:O):I)==2)=true:=rfl;have c1:cut (T.str (q s)::.str (q x)::ps) J (Y ((2:O):I))=[T.str (q s),.str (q x)]:=Ep _ _ _;have el:(((T.str (q s)::T.str (q x)::ps).length:O):I)=((2+ps.length:O):I):=by rw[LG,LG];lia
 have a1:atI (T.str (q s)::T.str (q x)::ps) 1=Y (T.str (q x)):=at1 _ _ _;have f1:=flS (q x) od;have D:=anS (q x) od;have g1:∀y:Str,fits ((aA od).length+[T.str y].length)=true:=λy=>Ri (by rw[LB,L0];show _<=16777215;lia);have g2:∀y:Str,aA od++[T.str y]=aA (od++[y]):=λy=>by rw[aA,aA,L8];rfl
 cases F:od.contains (q x) with
 |false=>rw[F] at D;refine t x (Jb x hx) (.inr ⟨x,hx,rfl⟩) (λz=>by rw[O3.mpr z] at F;cases F) λrs a b e f v A u m0 m1=>?_;have H:=g1<|q x;have M:=g2<|q x;rw[bS,x_run _ _ _ rfl];exact⟨_,by simp_all only[aJ,fl3,e1,e2,e3,s1,dG,c1,el,a1,f1,D,g8,Rk H,M,tr,u];rfl⟩
 | true =>
  rw[F] at D;obtain⟨c,Z,hc2⟩:=uK hk;refine t (NU.getD k "") (uNB k hk) (.inl rfl) (hg k (LM _) hk) λrs a b e f v A u m0 m1=>?_;have H:=g1<|q<|NU.getD k "";have M:=g2<|q<|NU.getD k "";have ek:(k:I) % 26=(k:I):=by lia
  have p26:decide ((0:I)<26)=true:=rfl;have ixs:∀m n,oSem .ix Lv [(m,.str al26),(n,.int (k:I))]=Y (.d,.str ⟨#[c]⟩):=λm n=>by show(atI al26.cps.toList (k:I)).map (λc=>((.d,.str ⟨#[c]⟩):W))=_;rw[Z];rfl
  have fu:fits ((q "u").cps.size+(⟨#[c]⟩:Str).cps.size)=true:=by
   have:(q "u").cps.size=1:=by decide +kernel
   rw[this];rfl
  rw[bS,x_run _ _ _ rfl];exact⟨_,by simp_all only[aJ,fl3,e1,e2,e3,s1,dG,c1,el,a1,f1,D,p26,ek,ixs,Rk fu,hc2,g8,Rk H,M,tr,u];rfl⟩
theorem yk {d:O}{t:T}{ps:U T}(h:n5F (d+1) t=Lw)(hp:c9 t=ps):∀p∈ps,n5F d p=true:=by rw[n5F,LQ,hp,MN] at h;exact h.2
theorem oi:∀(d:O) (t:T),WG d t->∀n k,k+d<=26->Cl1 (n+d) d k t
|0,_,h,_,_,_=>nomatch h.1
| d+1,t,⟨h,f⟩,n,k,hk=>by
 rw[show n+(d+1)=n+d+1 by lia];have c:=h;cases h with
 |num _ _=>exact iP (by decide) c
 |name _=>exact iP (by decide) c
 |none _=>exact iP (by decide) c
 |node b g hp=>exact ya b g λp h=>oi d p ⟨hp p h,yk f (fC _ (ahN _ b) _) p h⟩ n (k+1)<|by lia
 | bind b hx g hp =>
  rename_i s x ps;have m:∃z∈NB5,q z=q x:=by have e:bnd (.tup (.str (q s)::.str (q x)::ps))=Y (q x):=Rk<|b3B s b;have j:=f;rw[n5F,e,LQ,P5] at j;obtain⟨z,i,a⟩:=j.1;exact⟨z,i,eq_of_beq a⟩
  obtain⟨z,i,a⟩:=m;have l:=yk f<|cT s (hU s b).2.1 _ ps;rw[<- a];exact s9 b i g (by lia) λp h=>oi d p ⟨hp p h,l p h⟩ n (k+1)<|by lia
noncomputable abbrev NH:U Rr:=["x","q","rowy","abcdefgh","b","n","addx","numbs","cuts","zz","nones"]
abbrev qy:U T:=[.str<|q "x",.str<|q "q",.str<|q "rowy",.str<|q "abcdefgh",.str<|q "b",.str<|q "n",.str<|q "addx",.str<|q "numbs",.str<|q "cuts",.str<|q "zz",.str<|q "nones"]
theorem nhA:∀s∈NH,nmA (q s)=true:=by decide +kernel
theorem nhG:∀s∈NH,Gw (q s):=λs c=>by obtain⟨a,b⟩:=(by decide +kernel:∀s∈NH,s.length<=20/\32 ∉ s.toList.map L7) s c;exact bX s a b
theorem nhU:∀j<26,∀s∈NH,q (NU.getD j "")≠q s:=by decide +kernel
theorem nhC:∀s∈NH,(q s==q ":")=false:=by decide +kernel
theorem nhM (j:O)(a:j<11):NH.getD j ""∈NH:=by rw[MV,Ma<|show j<NH.length from a];exact OR _
theorem atH (j:O)(a:j<11):atI qy (j:I)=Y (.str<|q<|NH.getD j ""):=by refine atN rfl ?_;have:qy=NH.map λs=>T.str (q s):=rfl;rw[this,Mr,Ma<|show j<NH.length from a,MV,Ma<|show j<NH.length from a];rfl
abbrev hN (a s k:O):Str:=q<|NH.getD ((a+k * s) % 11) ""
theorem nd6:∀a<11,∀s<4,s=0\/((L4 6).map λk=>hN a s k).Nodup:=by decide +kernel
abbrev HB:U S:=[
   .asg (.q [] [1,4]) 5 (.op .mod Lv [.op .add Lv [.op .mod Lv [.op .fdiv Lv [.var 1,.cst<|.int 7],.cst<|.int 11],.op .mul Lv [.var 4,.op .add Lv [.cst<|.int 1,.op .mod Lv [.op .fdiv Lv [.var 1,.cst<|.int 77],.cst<|.int 3]]]],.cst<|.int 11]),
   .app (.q [2] [1,4,5]) 3 (.tup [.op .ix Lv [.var 2,.var 5],.call 171 [.op .fdiv Lv [.var 1,.op .add Lv [.cst<|.int 7,.var 4]],.cst<|.int 4]])]
theorem zQ (n:O)(N o5:L W)(Z:Md)(c:I)(a s:O)(i:c / 7 % 11=(a:I))(j:1+c / 77 % 3=(s:I))(P:s<4)(b:U<|Str×T)(hL:b.length<=10)(k:O)(hk:k<7):∃r u t,evSs (C<|n+5) HB [N,Y (.d,.int c),Y (Z,.lst qy),Y (.o .s,.lst<|hT b),Y (.d,.int (k:I)),o5]=.nx [N,Y (.d,.int c),Y (r,.lst qy),Y (.o .s,.lst<|hT<|b++[(hN a s k,t)]),Y (.d,.int (k:I)),u]/\KK 5 t:=by
 have h:((a:I)+(k:I) * (s:I)) % 11=(((a+k * s) % 11:O):I):=by rw[Int.natCast_emod,Int.natCast_add,Int.natCast_mul];rfl
 have g:=atH ((a+k * s) % 11) (Nat.mod_lt _<|by decide);obtain⟨M,t,e1,p⟩:=fq 4 n<|c / (7+(k:I));have e1:∀m Q,C (n+5) 171 [(m,.int (c / (7+(k:I)))),(Q,.int 4)]=.ok ((M,t),[]):=e1;have v:decide ((0:I)<7)=true:=rfl;have w:decide ((7:I)<1073741824)=true:=rfl;have x:decide ((0:I)<11)=true:=rfl;have z:decide ((0:I)<77)=true:=rfl;have A:decide ((77:I)<1073741824)=true:=rfl;have D:decide ((0:I)<3)=true:=rfl;have F:decide ((0:I)<7+(k:I))=true:=Ri (by lia);have G:decide (7+(k:I)<1073741824)=true:=Ri (by lia);have H:decide ((k:I).natAbs<18446744073709551616)=true:=Ri (by lia);have e:decide ((hT b).length<LIM)=true:=Ri (by rw[LB];show _<16777215;lia);have f:(b.length<LIM)=R4:=eq_true (by show _<16777215;lia);have e2:hT b++[T.tup [.str (hN a s k),t]]=hT (b++[(hN a s k,t)]):=by simp only[L8,LJ,Mi]
 cases l:((lf M t).meet Md.d).up with
 |s=>exact⟨_,_,t,by simp_all only[Pa,v,w,x,z,A,D,F,G,H,i,j,h,g,e1,e,f,e2,RH,l,LB];rfl,p⟩
 |d=>exact⟨_,_,t,by simp_all only[Pa,v,w,x,z,A,D,F,G,H,i,j,h,g,e1,e,f,e2,RH,l,LB];rfl,p⟩
 |o y=>exact⟨_,_,t,by simp_all only[Pa,v,w,x,z,A,D,F,G,H,i,j,h,g,e1,e,f,e2,RH,l,LB];rfl,p⟩
theorem tZ (n:O)(h:U I)(m:Md):∃md b a s,C (n+6) 502 [(m,.scr h)]=.ok ((md,.tup<|hT b),[])/\b.length<=6/\b.map (·.1)=(L4 b.length).map (hN a s)/\a<11/\s<4/\s≠0/\∀p∈b,KK 5 p.2:=by
 have A:∃c,evE (C (n+5)) (.ifx (.op .gt Lv [.op .len Lv [.var 0],.cst (.int 0)]) (.op .ix Lv [.var 0,.cst (.int 0)]) (.cst (.int 0))) [Y (.s,.scr h),J,J,J,J,J]=.ok ((.d,.int c),[Y (.s,.scr h),J,J,J,J,J]):=by
  cases h with
  |nil=>have e:decide ((0:I)<(([]:U I).length:O))=false:=rfl;exact⟨0,by simp_all only[e]⟩
  |cons a h=>have e:decide ((0:I)<((a::h).length:O))=true:=Ri (by rw[LG];lia);have e2:atI (a::h) 0=Y a:=at0 _ _;exact⟨a,by simp_all only[e,e2,BW]⟩
 obtain⟨c,A⟩:=A;obtain⟨r,hr,y⟩:=mdj c 7 (by decide);have y:c % 7=(r:I):=y;obtain⟨a,Z,w⟩:=mdj (c / 7) 11 (by decide);have w:c / 7 % 11=(a:I):=w;obtain⟨s0,hs0,i⟩:=mdj (c / 77) 3 (by decide);have P:1+c / 77 % 3=((s0+1:O):I):=by have i:c / 77 % 3=(s0:I):=i;lia
 obtain⟨η',lp,b,j,u,H,v,D,l,rfl⟩:=d5 (tg:=[4]) (f:=evSs (C<|n+5) HB) (g:=λ(k:O)=>[((.d,.int k):W)])
  (λpre N=>∃(b:U<|Str×T) (_:b.length=pre.length) (u:Md) (H v:L W),(∀p∈b,KK 5 p.2)/\b.map (·.1)=pre.map (hN a<|s0+1)/\N=[Y (m,.scr h),Y (.d,.int c),Y (u,.lst qy),Y (.o .s,.lst<|hT b),H,v])
  (L4 r) [] [Y (m,.scr h),Y (.d,.int c),Y (.o .s,.lst qy),Y (.o .s,.lst []),J,J] ⟨[],rfl,.o .s,J,J,(fun p hp=>nomatch hp),rfl,rfl⟩ (by
   rintro p k z N hp ⟨b,j,u,H,v,D,l,he⟩;subst he;have F:=Rw Me hp;simp only[Ml,Nd,LH,LG] at F
   have hk:k<r:=by
    have:k∈L4 r:=by rw[Ml] at hp;rw[hp];exact L9 _ LI
    exact ON.mp this
   obtain⟨G,M,t,e,Q⟩:=zQ n (Y (m,.scr h)) v u c a (s0+1) w P (by lia) b (by lia) k (by lia);refine⟨_,_,rfl,e,b++[(hN a (s0+1) k,t)],by rw[LH,LH,j];rfl,G,_,M,?_,by rw[L8,L8,l];rfl,rfl⟩;intro x hx;rcases Ms.mp hx with hx|hx
   .exact D x hx
   .rw[LR.mp hx];exact Q)
 rw[Ml,Nd] at j;rw[Ml] at l;refine⟨.o .s,b,a,s0+1,?_,by lia,by rw[l,j],Z,by lia,by lia,D⟩;have r1:(decide ((r:I).natAbs<4611686018427387904)&&fits r)=true:=by rw[LQ];exact⟨Ri<|by lia,Ri<|by show _<=16777215;lia⟩
 have r2:(r:I).toNat=r:=by lia
 have p1:decide ((0:I)<7)=true:=rfl;have l8:∀m,lf m (T.scr h)=.d:=λm=>by cases m<;>rfl
 rw[j3,x_run _ _ _ rfl];simp_all only[cA,A,y,p1,r1,r2,lp,l8]
structure Hds (L:U (Str×T)):Prop where
 len:L.length<=6
 ok:wU L
 nd:(L.map (·.1)).Nodup
 gk:Gk 0 (L.map (·.1))
 nh:∀x∈L.map (·.1),∃s∈NH,x=q s
theorem C3 {b:U<|Str×T}{a s:O}(f:b.length<=6)(g:b.map (·.1)=(L4 b.length).map (hN a s))(l:a<11)(c:s<4)(h:s≠0)(hk:∀p∈b,KK 5 p.2):Hds b:=by
 have d:∀x∈b.map (·.1),∃s∈NH,x=q s:=λx hx=>by rw[g] at hx;obtain⟨k,_,rfl⟩:=Mm.mp hx;exact⟨_,nhM _<|Nat.mod_lt _<|by decide,rfl⟩
 refine⟨f,λp hp=>⟨?_,hk p hp⟩,?_,λj _ m n=>?_,d⟩
 .obtain ⟨s,c,e⟩:=d p.1<|O7 hp;rw[e];exact nhA s c
 .rw [g];have i:=(nd6 a l s c).resolve_left h;exact List.Nodup.sublist (Q5 _<|List.range_sublist.mpr f) i
 .obtain ⟨s,c,e⟩:=d _ n;exact nhU j m s c e
def hW:U (Str×T)->U Str
|[]=>[]
|p::a=>p.1::(wT p.2++hW a)
theorem hZ:∀A a:U<|Str×T,hW (A++a)=hW A++hW a
|[],_=>rfl
|p::A,a=>by rw[MA,hW,hW,hZ A a,MA,L6]
theorem pE {c:Env->Res (Rl×Env)}{f:Env->Fl}(a:O->Env->Prop)(P:Env->Prop):∀(N m:O) (d:Env),m<N->a m d->(∀m d,a m d->(∃b,c d=.ok (Lv,b)/\P b)\/∃e g i,c d=.ok (Lw,e)/\f e=.nx g/\i<m/\a i g) ->
 ∃b,lR c f N d=.nx b/\P b
|0,_,_,h,_,_=>by lia
| N+1,m,d,h,o,k=>by
 rcases k m d o with⟨b,j,l⟩|⟨e,g,i,j,l,p,n⟩
 .refine ⟨b,?_,l⟩;show Fl.of d (c d) _=_;rw[j];rfl
 .obtain ⟨b,e1,e2⟩:=pE a P N i g (by lia) n k;refine⟨b,?_,e2⟩;show Fl.of d (c d) _=_;rw[j];show Fl.turn (f e) _=_;rw[l];exact e1
abbrev WHC:E:=.op .ne Lv [.meth ba 505 0,.cst<|.str<|q ":"]
abbrev WHB:U S:=[
   .ite (.q [1] []) (.op .eq Lv [.op .len Lv [.var 1],.cst (.int 6)]) [
    .stop] [],
   .asg (.l []) 2 (.call 493 [.io 0,.qx [1] []<|.call 509 [.var 1]]),
   .app (.l [2]) 1 (.tup [.var 2,.call 494 [.io 0]])]
theorem yT (n:O){ws r:U Str}{a:O}(sp:I){A:U<|Str×T}{x:Str}{k:Kd}(o2:L W)(hd:ws.drop a=x::(kw k++r))(hx:nmA x=Lw)(c:x ∉ A.map (·.1))(hk:k.deep<=4)(j:A.length<6):∃d,evSs (C<|n+9) WHB [Y (.o .s,WO ws a sp),Y (.o .s,.lst<|hT A),o2]=.nx [Y (.o .s,WO ws (a+1+(kw k).length) sp),Y (.o .s,.lst<|hT<|A++[(x,k.th)]),d]:=by
 have b:ws.drop (a+1)=kw k++r:=(cj hd).2.1
 have i:(A.map (·.1)).contains x=false:=by
  cases h:(A.map (·.1)).contains x with
  |false=>rfl
  |true=>exact Rm (O3.mp h) c
 have e1:=λm=>lj (n+6) sp hd hx i m;have e2:=λm=>zR (n+8) A m;obtain⟨l,e3⟩:=lC (n+1) (ws:=ws) (r:=r) (k:=k) (a:=a+1) sp b hk;have e:((((hT A).length:O):I)==6)=false:=beq_eq_false_iff_ne.mpr (by rw[LB];lia);have f:(hT A).length<LIM:=by rw[LB];show _<16777215;lia
 have g:hT A++[T.tup [.str x,k.th]]=hT (A++[(x,k.th)]):=by simp only[L8,LJ,Mi]
 unfold WO at *;exact⟨_,by simp_all only[e,e1,e2,e3,dW,Rk f,g];rfl⟩
theorem GF (n:O){b r:U Str}{w:Str}{a:O}(sp:I)(d f:L W)(h:b.drop a=w::r):evT (C<|n+1) (.l []) WHC [Y (.o .s,WO b a sp),d,f]=.ok (!(w==q ":"),[Y (.o .s,WO b a sp),d,f]):=by
 have e:=ff n sp h;unfold WO at *;cases c:(w==q ":") with
 |true=>simp_all only[e,c]
 |false=>simp_all only[e,c]
theorem qz (n:O){ws r:U Str}{a:O}(sp:I){d:U<|Str×T}(h:Hds d)(hd:ws.drop a=hW d++(q ":"::r)):C (n+10) 511 [(.o .s,WO ws a sp)]=.ok ((.o .s,.tup<|hT d),[(.o .s,WO ws (a+(hW d).length+1) sp)]):=by
 obtain⟨M,G,o2,rfl⟩:=pE (c:=evT (C<|n+9) (.l []) WHC) (f:=evSs (C<|n+9) WHB)
  (λm i=>∃A b:U<|Str×T,d=A++b/\b.length=m/\∃o2,i=[Y (.o .s,WO ws (a+(hW A).length) sp),Y (.o .s,.lst<|hT A),o2])
  (λi=>∃o2,i=[Y (.o .s,WO ws (a+(hW d).length) sp),Y (.o .s,.lst<|hT d),o2])
  tF d.length [Y (.o .s,WO ws a sp),Y (.o .s,.lst []),J] (by have:=h.len; show _<1000000000000; lia) ⟨[],d,rfl,rfl,J,rfl⟩ (by
   rintro m i ⟨A,b,e,j,o2,z⟩;subst z;cases b with
   |nil=>
    rw[LW] at e;subst e;refine .inl ⟨_,?_,o2,rfl⟩;have hdd:ws.drop (a+(hW d).length)=q ":"::r:=by rw[<- NY,hd,Ou]
    have:=GF (n+8) sp (Y (.o .s,.lst<|hT d)) o2 hdd;rw[Rq] at this;exact this
   | cons p b =>
    obtain⟨x,F⟩:=p;have hp:(x,F)∈d:=by rw[e];exact L9 _ LI
    obtain⟨k,rfl,hk⟩:=bJ (h.ok _ hp).2;have hdd:ws.drop (a+(hW A).length)=x::(kw k++(hW b++(q ":"::r))):=by rw[<- NY,hd,e,hZ,L6,Ou,hW,b0,MA,L6]
    have t:x ∉ A.map (·.1):=λj=>by have:=h.nd;rw[e,L8,List.nodup_append] at this;exact this.2.2 x j x (by rw[LJ];exact LI) rfl
    have g:A.length<6:=by have:=h.len;rw[e,LH,LG] at this;lia
    obtain⟨v,H⟩:=yT n sp o2 hdd (h.ok _ hp).1 t (by lia) g;have w:=GF (n+8) sp (Y (.o .s,.lst<|hT A)) o2 hdd;obtain⟨s,D,u⟩:=h.nh x<|O7 (f:=(·.1)) hp;rw[show(x==q ":")=Lv by rw[u];exact nhC s D] at w;refine .inr ⟨_,_,b.length,w,H,by rw[<- j,LG];lia,A++[(x,k.th)],b,by rw[e,L6];rfl,rfl,v,?_⟩;have y:a+(hW A).length+1+(kw k).length=a+(hW (A++[(x,k.th)])).length:=by rw[hZ,hW,hW,b0,LW,LH,LG];lia
    rw[y])
 have e2:=eZ (n+8) ws (a+(hW d).length) sp;unfold WO at *;rw[iS,x_run _ _ _ rfl];simp_all only[bN,G,e2]
abbrev AW (a:U<|Str×T)(t:T):U Str:=hW a++(q ":"::wT t)
theorem FO {a:U<|Str×T}(h:Hds a):∀x∈hW a,Gw x:=by
 have b:∀A:U (Str×T),(∀p∈A,p∈a)->∀x∈hW A,Gw x:=by
  intro A;induction A with
  |nil=>intro _ x hx;cases hx
  | cons p A g =>
   intro c x hx;rw[hW] at hx;have hp:=c p LI;rcases LK.mp hx with hx|hx
   .obtain ⟨s,f,e⟩:=h.nh p.1<|O7 hp;rw[hx,e];exact nhG s f
   .rcases Ms.mp hx with hx | hx
    .obtain ⟨k,e,_⟩:=bJ (h.ok p hp).2;rw[e,b0] at hx;exact dP k x hx
    .exact g (λq d=>c q<|LO _ d) x hx
 exact b a λ_ z=>z
theorem sJ {a:U<|Str×T}(h:wU a):(hW a).length<=32 * a.length:=by
 induction a with
 |nil=>exact LM _
 |cons p a c=>have:=c λq b=>h q<|LO _ b;obtain⟨k,e,hk⟩:=bJ (h p LI).2;have d:=i6 (k:=k) (by lia);rw[hW,LG,LH,e,b0,LG];lia
theorem vX {a:U<|Str×T}(h:Hds a){d:O}{t:T}(b:WT d t):∀x∈AW a t,Gw x:=λx hx=>by
 rcases Ms.mp hx with hx|hx
 .exact FO h x hx
 .rcases LK.mp hx with hx | hx
  .rw[hx];exact bX _ (by decide)<|by decide
  .exact iH d t b x hx
theorem nC {a:U<|Str×T}(h:Hds a){d:O}{t:T}(b:WT d t)(hd:d<=7):(AW a t).length<=72364:=by have c:=sJ h.ok;have e:=dE b hd;have f:=h.len;rw[LH,LG];lia
theorem HX (a:U<|Str×T)(t:T):AW a t≠[]:=λz=>by have:=Rw Me z;rw[LH,LG] at this;cases this
theorem Jc (m:Md)(c:O)(fs:U Str)(a:U T):lf m (.obj c fs a)=m:=rfl
theorem Je {b:U<|Str×T}(h:Hds b){t:T}(e:WT 7 t)(s:szF 7 t<=200)(n:bZ 7 (b.map (·.1)) t=Lw)(m:Md):∃g,C 39 510 [(m,.str<|Str.join sp<|AW b t)]=.ok ((g,.tup [.tup<|hT b,t]),[]):=by
 have c:=vX h e;have len:=nC h e (by lia);have e1:splS (Str.join sp (AW b t))=AW b t:=qG (HX b t) c;have sz:=cY c (by lia);have j:decide ((Str.join sp (AW b t)).cps.size+2<=LIM)=true:=Ri (by have:=sz.2;show _<=16777215;lia);have k:(AW b t).all sOk=true:=MN.mpr λx hx=>Ex<|c x hx;have b3:(q " "==Str.ofString " ")=true:=Rq _;have f:=qz 28 (ws:=AW b t) (r:=wT t) (a:=0) 199 h rfl;rw[MY] at f;have z0:((0:O):I)=0:=rfl;have z1:((1:O):I)=1:=rfl;rw[WO,z0] at f;have o:=λm=>oF 37 b m;have hd:(AW b t).drop ((hW b).length+1)=wT t++[]:=by rw[<- NY,Ou,LW];rfl
 obtain⟨g,i⟩:=oW 7 t e 10 (AW b t) [] ((hW b).length+1) 199 (b.map (·.1)) 1 .d .d hd (by lia) (by lia) n (by have:=h.len;rw[LB];lia);rw[z1] at i;have l:(AW b t).length=(hW b).length+1+(wT t).length:=by rw[LH,LG];lia
 have p:=u9 37 (199+1-((szF 7 t:O):I)) l;have mk:∀z:T,decide (([q "words",q "at",q "spare"]:U Str).length=([((.d,z):W)]:U W).length+([0,199]:U I).length)=true:=λ_=>rfl;generalize AW b t=ws at *;rw[gh,x_run _ _ _ rfl];unfold WO at *;unfold sT at *;exact⟨_,by simp_all only[br,j,k,b3,e1,mk,RH,Jc,f,o,i,p];rfl⟩
def gW:U (Str×T)->U (U Str)
|[]=>[]
|p::a=>[p.1]::wT p.2::gW a
theorem vH:∀A a:U<|Str×T,gW (A++a)=gW A++gW a
|[],_=>rfl
|p::A,a=>by rw[MA,gW,gW,vH A a];rfl
theorem pL:∀a:U<|Str×T,(gW a).flatten=hW a
|[]=>rfl
|p::a=>by rw[gW,hW,MT,MT,pL a];rfl
theorem jV:∀a:U<|Str×T,(gW a).length=2 * a.length
|[]=>rfl
|p::a=>by rw[gW,LG,LG,jV a,LG];lia
theorem ig:∀a:U<|Str×T,pairsT (hT a)=Y (a.map λp=>[((.s,.str p.1):W),(.s,p.2)])
|[]=>rfl
|p::a=>by show(pairsT<|hT a).map ([((.s,.str p.1):W),(.s,p.2)]::·)=_;rw[ig a];rfl
abbrev jT (G:U<|U Str):U T:=G.map λl=>T.str<|Str.join sp l
abbrev PTB:U S:=[
   .app (.q [2] []) 1 (.var 2),
   .app (.q [3] []) 1 (.call 364 [.var 3])]
theorem pQ (n:O)(e:L W):∀(a A:U<|Str×T) (o2 o3:L W),(∀p∈a,KK 5 p.2)->A.length+a.length<=10->∃b c,bY [2,3] (evSs (C<|n+5) PTB) (a.map λp=>[((.s,.str p.1):W),(.s,p.2)]) [e,Y (.o .s,.lst<|jT<|gW A),o2,o3]=.nx [e,Y (.o .s,.lst<|jT<|gW<|A++a),b,c]
|[],A,o2,o3,_,_=>⟨o2,o3,by rw[LW];rfl⟩
| (x,t)::a,A,o2,o3,h,r=>by
 rw[LG] at r;obtain⟨k,rfl,hk⟩:=bJ<|h _ LI;have e1:∀m,C (n+5) 364 [(m,k.th)]=.ok ((.d,.str (Str.join sp (kw k))),[]):=λm=>by have:=kU k (n+4-k.deep) m (by lia);rw[show n+4-k.deep+k.deep+1=n+5 by lia] at this;exact this
 have i:(jT (gW A)).length<LIM:=by rw[LB,jV];show _<16777215;lia
 have j:(jT (gW A)++[T.str x]).length<LIM:=by rw[LH,LB,jV,L0];show _<16777215;lia
 have l:jT (gW A)++[T.str x]++[T.str (Str.join sp (kw k))]=jT (gW (A++[(x,k.th)])):=by rw[vH,jT,jT,L8,L6,gW,gW,b0];rfl
 have f:∃b c,evSs (C (n+5)) PTB [e,Y (.o .s,.lst (jT (gW A))),Y (.s,.str x),Y (.s,k.th)]=.nx [e,Y (.o .s,.lst (jT (gW (A++[(x,k.th)])))),b,c]:=⟨_,_,by simp_all only[Rk i,Rk j,e1,dW,cz,l];rfl⟩;obtain⟨u2,u3,f⟩:=f;obtain⟨b,c,g⟩:=pQ n e a (A++[(x,k.th)]) u2 u3 (λp hp=>h p<|LO _ hp) (by rw[LH,L0];lia);refine⟨b,c,?_⟩;rw[L6,NC] at g;rw[LJ,cm,<- g];show Fl.turn (evSs (C<|n+5) PTB [e,Y (.o .s,.lst<|jT<|gW A),Y (.s,.str x),Y (.s,k.th)]) _=_;rw[f];rfl
theorem DI (G:U<|U Str):strsOf (jT G)=Y (G.map<|Str.join sp):=by have:=gH<|G.map<|Str.join sp;rw[Mt] at this;exact this
theorem Ce {a:U<|Str×T}(h:Hds a){t:T}(g:WT 7 t)(m:Md):C 39 489 [(m,.tup [.tup<|hT a,t])]=.ok ((.d,.str<|Str.join sp<|AW a t),[]):=by
 have M:=vX h g;have len:=nC h g (by lia);have lw:=dE g (by lia);obtain⟨o2,o3,j⟩:=pQ 33 (Y (.s,.tup [.tup<|hT a,t])) a [] J J (λp hp=>(h.ok p hp).2) (by have:=h.len;show 0+_<=10;lia);rw[Ml] at j;have j:bY [2,3] (evSs (C 38) PTB) (a.map λp=>[((.s,.str p.1):W),(.s,p.2)]) [Y (.s,.tup [.tup (hT a),t]),Y (.o .s,.lst []),J,J]=.nx [Y (.s,.tup [.tup (hT a),t]),Y (.o .s,.lst (jT (gW a))),o2,o3]:=j;have tr:∀m,bO .sq2T [(m,.tup (hT a))]=Y (a.map λp=>[((.s,.str p.1):W),(.s,p.2)]):=λm=>ig a;have e1:=λm=>xi 7 t g (by lia) 25 m;have v:(jT (gW a)).length<=12:=by rw[LB,jV];have:=h.len;lia
 have D:(jT (gW a)).length<LIM:=by show _<16777215;lia
 have F:(jT (gW a)++[T.str (q ":")]).length<LIM:=by rw[LH,L0];show _<16777215;lia
 have H:jT (gW a)++[T.str (q ":")]++[T.str (Str.join sp (wT t))]=jT (gW a++[[q ":"],wT t]):=by rw[jT,jT,L8,L6];rfl
 have s1:=DI<|gW a++[[q ":"],wT t]
 have ne:∀ l∈gW a++[[q ":"],wT t],l≠[]:=fun l c=>by
  rcases Ms.mp c with c|c
  .have f:∀ A:U (Str×T),wU A->∀ l∈gW A,l≠[]:=by
    intro A;induction A with
    |nil=>intro _ l c;cases c
    | cons p A r =>
     intro i l c;rw[gW] at c;rcases LK.mp c with c|c
     .rw[c];exact Mq _ _
     .rcases LK.mp c with c | c
      .obtain ⟨k,e,_⟩:=bJ (i p LI).2;rw[c,e,b0];exact ik k
      .exact r (λq n=>i q<|LO _ n) l c
   exact f a h.ok l c
  .rcases LK.mp c with c | c
   .rw[c];exact Mq _ _
   .rw[LR.mp c];exact wz g
 have w:=dA sp (gW a++[[q ":"],wT t]) ne [];rw[LW,LW,List.flatten_append,pL] at w
 have Q:Str.join sp ((gW a++[[q ":"],wT t]).map (Str.join sp))=Str.join sp (AW a t):=by
  rw[w];have:[[q ":"],wT t].flatten=q ":"::wT t:=by simp
  rw[this]
 have Z:=(cY M<|by lia).1
 have s2:decide ((((gW a++[[q ":"],wT t]).map (Str.join sp)).map fun s=>s.cps.size+sp.cps.size).sum<=LIM)=true:=by
  refine Ri ?_;have hj:=(cY (iH 7 t g)<|by lia).2
  have N:∀ l∈gW a,(Str.join sp l).cps.size<=700:=fun l c=>by
   have f:∀A:U (Str×T),(∀p∈A,p∈a)->∀l∈gW A,(Str.join sp l).cps.size<=700:=by
    intro A;induction A with
    |nil=>intro _ l c;cases c
    | cons p A r =>
     intro i l c;rw[gW] at c;have hp:=i p LI;rcases LK.mp c with c|c
     .obtain ⟨s,P,e⟩:=h.nh p.1<|O7 hp;rw[c,e];exact LL (nhG s P).sz<|by decide
     .rcases LK.mp c with c | c
      .obtain ⟨k,e,hk⟩:=bJ (h.ok p hp).2;rw[c,e,b0];exact LL (lx (k:=k)<|by lia)<|by decide
      .exact r (λq n=>i q<|LO _ n) l c
   exact f a (λ_ z=>z) l c
  have u:=ie (ws:=(gW a).map<|Str.join sp) (b:=700) λx hx=>by obtain⟨l,c,rfl⟩:=Mm.mp hx;exact N l c
  have y:sp.cps.size=1:=by rw[lO];rfl
  have k3:(Str.join sp [q ":"]).cps.size=1:=by decide +kernel
  rw[L8,L8,OE];simp only[LJ,Mi,ML,Pc];rw[LB] at u;rw[LB] at v;have k4:(gW a).length * (700+1)<=12 * 701:=Ov v<|LM _;rw[y] at u;rw[k3,y];have k5:=LL u k4;generalize (((gW a).map<|Str.join sp).map λs=>s.cps.size+1).sum=S at k5 ⊢;show _<=16777215;lia
 generalize gW a++[[q ":"],wT t]=G at *;rw[gr,x_run _ _ _ rfl];simp_all only[bw,nM,g8,tr,j,Rk D,Rk F,e1,lfS,H,s1,s2,Q,Z]
theorem bB:∀{ps:U T},(∀p∈ps,eqT p p=Lw)->eqTs ps ps=Lw
|[],_=>rfl
|p::ps,h=>by show(eqT p p&&eqTs ps ps)=Lw;rw[h p LI,bB λq a=>h q<|LO _ a];rfl
theorem eC (s:Str):eqT (.str s) (.str s)=true:=by show(s==s)=Lw;exact Rq s
theorem eA (a:U T):eqT (.tup a) (.tup a)=eqTs a a:=rfl
theorem sX:∀{d:O} {t:T},WT d t->eqT t t=Lw
|0,_,h=>nomatch h
| d+1,_,h=>by
 cases h with
 | num c e =>
  rw[eA]
  exact bB λp hp=>by
   rcases LK.mp hp with rfl|hp
   .exact eC _
   .rw[LR.mp hp];show(_==_)=Lw;exact Rq _
 | name a =>
  rw[eA]
  exact bB λp hp=>by
   rcases LK.mp hp with rfl|hp
   .exact eC _
   .rw[LR.mp hp];exact eC _
 | none hk =>
  obtain⟨k,rfl,_⟩:=bJ hk;rw[eA]
  exact bB λp hp=>by
   rcases LK.mp hp with rfl|hp
   .exact eC _
   .rw[LR.mp hp];exact hX k
 | node a b hp =>
  rw[eA]
  exact bB λp h=>by
   rcases LK.mp h with rfl|h
   .exact eC _
   .exact sX (hp p h)
 | bind a hx b hp =>
  rw[eA]
  exact bB λp h=>by
   rcases LK.mp h with rfl|h
   .exact eC _
   .rcases LK.mp h with rfl | h
    .exact eC _
    .exact sX (hp p h)
theorem t7 {b:O}:∀{ps:U T},(∀p∈ps,dp p<=b)->dps ps<=b
|[],_=>Mw _
|p::ps,h=>by have c:=h p LI;have d:=t7 λq a=>h q<|LO _ a;show max (dp p) (dps ps)<=b;lia
theorem eg {b:O}{ps:U T}(h:∀p∈ps,dp p<=b):dp (.tup ps)<=b+1:=by show dps ps+1<=b+1;have:=t7 h;lia
theorem dR (s:Str):dp (.str s)=0:=rfl
theorem CT (i:I):dp (.int i)=0:=rfl
theorem vt:∀{d:O} {t:T},WT d t->dp t<=d+6
|0,_,h=>nomatch h
| d+1,_,h=>by
 rw[show d+1+6=d+6+1 by lia];cases h with
 | num c e =>
  exact eg λp hp=>by
   rcases LK.mp hp with rfl|hp
   .rw[dR];lia
   .rw[LR.mp hp,CT];lia
 | name a =>
  exact eg λp hp=>by
   rcases LK.mp hp with rfl|hp
   .rw[dR];lia
   .rw[LR.mp hp,dR];lia
 | none hk =>
  obtain⟨k,rfl,hk⟩:=bJ hk
  exact eg λp hp=>by
   rcases LK.mp hp with rfl|hp
   .rw[dR];lia
   .have:=lV k;rw[LR.mp hp];lia
 | node a b hp =>
  exact eg λp h=>by
   rcases LK.mp h with rfl|h
   .rw[dR];lia
   .exact vt (hp p h)
 | bind a hx b hp =>
  exact eg λp h=>by
   rcases LK.mp h with rfl|h
   .rw[dR];lia
   .rcases LK.mp h with rfl | h
    .rw[dR];lia
    .exact vt (hp p h)
theorem BZ {b:O}:∀{l:U O},(∀x∈l,x<=b)->mxN l<=b
|[],_=>Mw _
|a::l,h=>by have d:=h a LI;have e:=BZ λq c=>h q<|LO _ c;rw[mxN];lia
theorem uB:∀{d:O} {t:T},WT d t->dpF d t<=d
|0,_,h=>nomatch h
| d+1,t,h=>by
 have hp:=h.pts.1;rw[dpF];have:=BZ (l:=(c9 t).map<|dpF d) (b:=d) λx hx=>by obtain⟨p,a,rfl⟩:=Mm.mp hx;exact uB<|hp p a
 lia
theorem tm {a:U<|Str×T}(h:Hds a){t:T}(f:WT 7 t):dp (.tup [.tup<|hT a,t])<=64:=by
 have c:dp (.tup (hT a))<=13:=LL (eg (b:=7) λp hp=>by
  obtain⟨z,g,rfl⟩:=Mm.mp hp;obtain⟨k,e,hk⟩:=bJ (h.ok z g).2;refine eg (b:=6) λp hp=>?_;rcases LK.mp hp with rfl|hp
  .rw[dR];lia
  .have:=lV k;rw[LR.mp hp,e];lia)<|by decide
 have d:=vt f
 exact LL (eg (b:=13) λp hp=>by
  rcases LK.mp hp with rfl|hp
  .exact c
  .rw[LR.mp hp];exact d)<|by decide
theorem xY {a:U<|Str×T}(h:Hds a){t:T}(b:WT 7 t):eqT (.tup [.tup<|hT a,t]) (.tup [.tup<|hT a,t])=true:=by
 rw[eA];refine bB λp hp=>?_;rcases LK.mp hp with rfl|hp
 .rw [eA];refine bB λp hp=>?_;obtain⟨z,c,rfl⟩:=Mm.mp hp;obtain⟨k,e,hk⟩:=bJ (h.ok z c).2;rw[eA,e];refine bB λp hp=>?_;rcases LK.mp hp with rfl|hp
  .exact eC _
  .rw[LR.mp hp];exact hX k
 .rw[LR.mp hp];exact sX b
abbrev LW2:U S:=[
   .asg (.q [3,4,5] []) 3 (.op .add Lv [.op .add Lv [.var 3,.lst Lv [.var 4]],.call 503 [.var 5]])]
theorem lK (d e f g i j l:L W):∀(a A:U<|Str×T) (n r:L W),(∀p∈a,KK 5 p.2)->(hW A).length+(hW a).length<=1000->∃b c,bY [4,5] (evSs (C 39) LW2) (a.map λp=>[((.s,.str p.1):W),(.s,p.2)]) [d,e,f,Y (.o .s,sT<|hW A),n,r,g,i,j,l]=.nx [d,e,f,Y (.o .s,sT<|hW<|A++a),b,c,g,i,j,l]
|[],A,n,r,_,_=>⟨n,r,by rw[LW];rfl⟩
| (x,H)::a,A,n,r,h,z=>by
 obtain⟨k,rfl,hk⟩:=bJ<|h _ LI;have e1:∀m,C 39 503 [(m,k.th)]=.ok ((.o .s,sT (kw k)),[]):=λm=>by have:=gO k (38-k.deep) m (by lia);rw[show 38-k.deep+k.deep+1=39 by lia] at this;exact this
 have G:=i6 (k:=k) (by lia);have D:(hW A).length+(1+(kw k).length+(hW a).length)<=1000:=by rw[hW,b0,LG,LH] at z;lia
 have v:fits (((hW A).map T.str).length+[T.str x].length)=true:=Ri (by rw[LB,L0];show _<=16777215;lia);have w:fits (((hW A).map T.str++[T.str x]).length+((kw k).map T.str).length)=true:=Ri (by rw[LH,LB,LB,L0];show _<=16777215;lia);have y:(hW A).map T.str++[T.str x]++(kw k).map T.str=(hW (A++[(x,k.th)])).map T.str:=by rw[hZ,hW,hW,b0,LW,L8,L6,LJ];rfl
 have t:∃b c,evSs (C 39) LW2 [d,e,f,Y (.o .s,sT (hW A)),Y (.s,.str x),Y (.s,k.th),g,i,j,l]=.nx [d,e,f,Y (.o .s,sT (hW (A++[(x,k.th)]))),b,c,g,i,j,l]:=by unfold sT at e1 ⊢;exact⟨_,_,by simp_all only[Rk v,Rk w,e1,cz,dW,y];rfl⟩
 obtain⟨u4,F,t⟩:=t
 obtain⟨b,c,u⟩:=lK d e f g i j l a (A++[(x,k.th)]) u4 F (λp hp=>h p<|LO _ hp) (by
  rw[hZ,hW,hW,b0,LW,LH,LG];lia)
 refine⟨b,c,?_⟩;rw[L6,NC] at u;rw[LJ,cm,<- u];show Fl.turn (evSs (C 39) LW2 [d,e,f,Y (.o .s,sT<|hW A),Y (.s,.str x),Y (.s,k.th),g,i,j,l]) _=_;rw[t];rfl
theorem tt0:(!(Lw==Lw))=false:=rfl
abbrev LB6:U S:=[
   .asg (.q [6] []) 8 (.call 510 [.var 6]),
   .ite (.q [1,2,6,8] []) (.or (.op .ne Lv [.var 8,.tup [.var 1,.var 2]]) (.or (.op .isnB Lv [.call 507 [.var 8],.cst (.bl Lw)]) (.op .ne Lv [.call 489 [.var 8],.var 6]))) [
    .ret [] (.cst<|.bl Lv)] []]
theorem xK {a:U<|Str×T}(h:Hds a){t:T}(c:WT 7 t)(d:szF 7 t<=200)(b:bZ 7 (a.map (·.1)) t=Lw):due 7 a t=true:=by unfold due;rw[Ri h.len,Ri h.nd,Ri d,Ri<|LL (uB c)<|by decide,b];rfl
theorem lb6 {a:U<|Str×T}(h:Hds a){t:T}(b:WT 7 t)(p:szF 7 t<=200)(l:bZ 7 (a.map (·.1)) t=Lw)(r u v w x P A:L W)(F G H:Md):∃e f g j,evSs (C 39) LB6 [r,Y (F,.tup<|hT a),Y (G,t),u,v,w,Y (H,.str<|Str.join sp<|AW a t),x,P,A]=.nx [r,Y (e,.tup<|hT a),Y (f,t),u,v,w,Y (g,.str<|Str.join sp<|AW a t),x,j,A]:=by
 obtain⟨M,e1⟩:=Je h b p l .s;have e2:=λm=>oB a h.ok (by have:=h.len;lia) t 7 (by decide) b (by lia) m;rw[xK h b p l] at e2;have e3:=λm=>Ce h b m;have k:=tm h b;have D:=xY h b;have c:=λm n=>EN Lv m n (.tup [.tup<|hT a,t]) (.tup [.tup<|hT a,t]) k k;rw[D] at c;have i:(Str.join sp (AW a t)==Str.join sp (AW a t))=true:=Rq _;generalize Str.join sp (AW a t)=z at *;have lt:∀m N,lf m (.tup N)=m:=λ_ _=>rfl;cases M with
 |s=>exact⟨_,_,_,_,by simp_all only[e1,lt,c,e2,tt0,e3,i,Nw];rfl⟩
 |d=>exact⟨_,_,_,_,by simp_all only[e1,lt,c,e2,tt0,e3,i,Nw];rfl⟩
 |o y=>exact⟨_,_,_,_,by simp_all only[e1,lt,c,e2,tt0,e3,i,Nw];rfl⟩
theorem nr (a:U<|Str×T)(b c:L W):aH [9] (dS<|evE (C 39)<|.op .ix Lv [.var 9,.cst<|.int 0]) ((hT a).map λt=>[((.s,t):W)]) [b,c,J,J,J,J,J,J,J,J] []=.ok ([]++a.map (λp=>((.s,.str p.1):W)),[b,c,J,J,J,J,J,J,J,J]):=by rw[hT,Mt];refine bh _ _ [] λp hp=>⟨_,[b,c,J,J,J,J,J,J,J,Y (.s,.tup [.str p.1,p.2])],rfl,?_,rfl⟩;simp_all only[nM,lfS]
theorem Kg (b:U I){c:Md}{a:U<|Str×T}(e:C 39 502 [(.s,.scr b)]=.ok ((c,.tup<|hT a),[])):∃g h,evSs (C 39) (Bk f_law 0 1) [Y (.d,.scr b),J,J,J,J,J,J,J,J,J]=.nx [Y (g,.scr b),Y (h,.tup<|hT a),J,J,J,J,J,J,J,J]:=by
 have f:evSs (C 39) (Bk f_law 0 1) [Y (.d,.scr b),J,J,J,J,J,J,J,J,J]=.nx (put (after (lf c (.tup (hT a))) [0] [Y (.d,.scr b),J,J,J,J,J,J,J,J,J]) 1 (lf c (.tup (hT a)),.tup (hT a))):=by simp_all only[Bk,f_law,MO,M3,M8,e]
 rw[f];cases lf c (.tup<|hT a) with
 |s=>exact⟨_,_,rfl⟩
 |d=>exact⟨_,_,rfl⟩
 |o y=>exact⟨_,_,rfl⟩
theorem Hu (b:U I)(e g:Md){a:U<|Str×T}{j c:Md}{k t:T}{i:U I}(e1:C 39 500 [(.d,.lst<|(cut b J<|Y 24).map T.int),(.d,.int 6)]=.ok ((j,k),[(.d,.lst<|i.map T.int)]))(e2:C 39 501 [(j,k),(.o .s,.lst<|aA<|a.map (·.1)),(.d,.int 0)]=.ok ((c,t),[])):
  ∃f h m,evSs (C 39) (Bk f_law 1 1) [Y (e,.scr b),Y (g,.tup<|hT a),J,J,J,J,J,J,J,J]=.nx [Y (f,.scr b),Y (h,.tup<|hT a),Y (m,t),J,J,J,J,J,J,J]:=by
 have c1:=nr a;have n:=ka a;have l:evSs (C 39) (Bk f_law 1 1) [Y (e,.scr b),Y (g,.tup (hT a)),J,J,J,J,J,J,J,J]=.nx (put (after (lf c t) [0,1] [Y (e,.scr b),Y (g,.tup (hT a)),J,J,J,J,J,J,J,J]) 2 (lf c t,t)):=by simp_all only[Bk,f_law,Ng,MO,M3,M8,c1,n,e1,e2]
 rw[l];cases lf c t with
 |s=>exact⟨_,_,_,rfl⟩
 |d=>exact⟨_,_,_,rfl⟩
 |o y=>exact⟨_,_,_,rfl⟩
theorem J6 {a:U<|Str×T}(h:Hds a){t:T}(e:WT 7 t)(c:L W)(F g:Md):∃i j G k l,evSs (C 39) (Bk f_law 2 3) [c,Y (F,.tup<|hT a),Y (g,t),J,J,J,J,J,J,J]=.nx [c,Y (i,.tup<|hT a),Y (j,t),G,k,l,Y (.d,.str<|Str.join sp<|AW a t),J,J,J]:=by
 have N:=sJ h.ok;have w:=h.len;have P:=dE e (by lia);have M:∀m,bO .sq2T [(m,.tup (hT a))]=Y (a.map λp=>[((.s,.str p.1):W),(.s,p.2)]):=λm=>ig a;obtain⟨k,l,f⟩:=lK c (Y (.s,.tup<|hT a)) (Y (g,t)) J J J J a [] J J (λp hp=>(h.ok p hp).2) (by show 0+_<=1000;lia);rw[Ml] at f;have f:bY [4,5] (evSs (C 39) LW2) (a.map λp=>[((.s,.str p.1):W),(.s,p.2)]) [c,Y (.s,.tup (hT a)),Y (g,t),Y (.o .s,.lst []),J,J,J,J,J,J]=.nx [c,Y (.s,.tup (hT a)),Y (g,t),Y (.o .s,.lst ((hW a).map T.str)),k,l,J,J,J,J]:=f;have e1:=λm=>sF 7 t e (by lia) 26 m;rw[show 26+7+6=39 from rfl] at e1;unfold sT at e1;have r:fits (((hW a).map T.str).length+[T.str (q ":")].length)=true:=Ri (by rw[LB,L0];show _<=16777215;lia);have u:fits (((hW a).map T.str++[T.str (q ":")]).length+((wT t).map T.str).length)=true:=Ri (by rw[LH,LB,LB,L0];show _<=16777215;lia);have v:(hW a).map T.str++[T.str (q ":")]++(wT t).map T.str=(AW a t).map T.str:=by rw[AW,L8,LJ,L6];rfl
 have n:=vX h e;have len:=nC h e (by lia);have H:=gH<|AW a t
 have s2:decide (((AW a t).map λs=>s.cps.size+sp.cps.size).sum<=LIM)=true:=Ri (by
  have z:=ie (ws:=AW a t) (b:=20) λx hx=>(n x hx).sz;have D:(AW a t).length * (20+1)<=72364 * 21:=Ov len<|LM _;exact LL z<|LL D<|by show _<=16777215;decide)
 have y:=(cY n<|by lia).1;generalize AW a t=A at *;exact⟨_,_,_,_,_,by simp_all only[Bk,f_law,Ng,MO,M3,M8,M,f,e1,Rk r,Rk u,v,H,s2,y];rfl⟩
theorem K3 {a:U<|Str×T}(h:Hds a){t:T}(b:WT 7 t)(l:szF 7 t<=200)(k:bZ 7 (a.map (·.1)) t=Lw)(f g i j:L W)(n o p:Md):∃c d e,evSs (C 39) (Bk f_law 5 1) [f,Y (n,.tup<|hT a),Y (o,t),g,i,j,Y (p,.str<|Str.join sp<|AW a t),J,J,J]=.nx [f,Y (c,.tup<|hT a),Y (d,t),g,i,j,Y (e,.str<|Str.join sp<|AW a t),J,J,J]:=by have e2:=λm=>oB a h.ok (by have:=h.len;lia) t 7 (by decide) b (by lia) m;rw[xK h b l k] at e2;have e3:=λm=>Ce h b m;have r:(Str.join sp (AW a t)==Str.join sp (AW a t))=true:=Rq _;generalize Str.join sp (AW a t)=z at *;exact⟨_,_,_,by simp_all only[Bk,f_law,Ng,MO,M3,M8,e2,tt0,e3,r,Nw];rfl⟩
theorem Ll {a:U<|Str×T}(h:Hds a){t:T}(s:WT 7 t)(u:szF 7 t<=200)(r:bZ 7 (a.map (·.1)) t=Lw)(b c e f:L W)(g i j:Md):∃G,evSs (C 39) (f_law.body.drop 6) [b,Y (g,.tup<|hT a),Y (i,t),c,e,f,Y (j,.str<|Str.join sp<|AW a t),J,J,J]=.rt (.d,.bl Lw) G:=by
 obtain⟨k,l,m,n,A⟩:=lb6 h s u r b c e f (Y (.d,.int 0)) J J g i j;obtain⟨v,w,x,y,D⟩:=lb6 h s u r b c e f (Y (.d,.int 1)) n J k l m;have F:bY [7] (evSs (C 39) LB6) [[((.d,.int 0):W)],[(.d,.int 1)]] [b,Y (g,.tup (hT a)),Y (i,t),c,e,f,Y (j,.str (Str.join sp (AW a t))),J,J,J]=.nx [b,Y (v,.tup (hT a)),Y (w,t),c,e,f,Y (x,.str (Str.join sp (AW a t))),Y (.d,.int 1),y,J]:=by rw[cm];show Fl.turn (evSs (C 39) LB6 [b,Y (g,.tup<|hT a),Y (i,t),c,e,f,Y (j,.str<|Str.join sp<|AW a t),Y (.d,.int 0),J,J]) _=_;rw[A];show bY [7] (evSs (C 39) LB6) [[((.d,.int 1):W)]] [b,Y (k,.tup<|hT a),Y (l,t),c,e,f,Y (m,.str<|Str.join sp<|AW a t),Y (.d,.int 0),n,J]=_;rw[cm];show Fl.turn (evSs (C 39) LB6 [b,Y (k,.tup<|hT a),Y (l,t),c,e,f,Y (m,.str<|Str.join sp<|AW a t),Y (.d,.int 1),n,J]) _=_;rw[D];rfl
 have p:((1:O):I)=1:=rfl;have o:((0:O):I)=0:=rfl;generalize Str.join sp (AW a t)=z at *;exact⟨_,by simp_all only[f_law,Ng,MO,z2,r2,LJ,Mi,o,p,F];rfl⟩
theorem pure_law (c:U I):∃m bs,C 40 0 [(.d,.scr c)]=.ok ((m,.bl Lw),bs):=by
 obtain⟨mh,b,a,s,l,g,D,A,F,i,hkk⟩:=tZ 33 c .s;have h:Hds b:=C3 g D A F i hkk;rw[show 33+6=39 from rfl] at l;obtain⟨P,Z,Q,e1,wg,G⟩:=oU 6 25<|cut c J<|Y 24;rw[show 25+6+8=39 from rfl,show((6:O):I)=6 from rfl] at e1
 have p:(cut c J (Y 24)).length<=24:=by
  show(((c.drop 0).take<|sIx c.length c.length (Y 24)-0)).length<=24;have:sIx c.length c.length (Y 24)<=24:=by show(if(24:I)<0 then((24:I)+(c.length:I)).toNat else min (24:I).toNat c.length)<=24;rw[Rn<|by decide];exact Qv _ _
  rw[NS];lia
 obtain⟨t,e2,j,hz,n⟩:=oi 7 Z wg 32 0 (by decide) (b.map (·.1)) h.gk (by have:=h.len;rw[LB];lia);have e:szF 7 t<=200:=by lia
 obtain⟨mc,e2⟩:=e2 P<|.o .s;obtain⟨H,M,v⟩:=Kg c l;obtain⟨f,k,N,w⟩:=Hu c H M e1 e2;obtain⟨u1,u2,u3,r,u,x⟩:=J6 h j (Y (f,.scr c)) k N;obtain⟨v1,v2,v6,y⟩:=K3 h j e n (Y (f,.scr c)) u3 r u u1 u2 .d;obtain⟨η,z⟩:=Ll h j e n (Y (f,.scr c)) u3 r u v1 v2 v6;rw[show C 40 0 [(.d,.scr c)]=runF (C 39) f_law [(.d,.scr c)] from rfl,x_run _ _ _ rfl,show f_law.body=Bk f_law 0 1++(Bk f_law 1 1++(Bk f_law 2 3++(Bk f_law 5 1++f_law.body.drop 6))) from rfl];refine⟨.d,[],?_⟩;show Fl.out [] (evSs (C 39) (Bk f_law 0 1++(Bk f_law 1 1++(Bk f_law 2 3++(Bk f_law 5 1++f_law.body.drop 6)))) [Y (.d,.scr c),J,J,J,J,J,J,J,J,J])=_;rw[go1 v,go1 w,go1 x,go1 y,z];rfl
end
end P12

namespace A12
open PySem PySem.Spec PyProof.Rows L2 L3 MR
def top (i:O):Ry:=PySem.Challenge.pw_broadrow_k12_programs_written_and_read.main.body.getD i<|.Pass ⟨0,0,0,0⟩
abbrev wD:Ry:=top 6
abbrev tX:Ry:=top 7
abbrev yg:Ry:=top 8
abbrev wj:Ry:=top 9
abbrev vn:Ry:=top 10
abbrev s2:Ry:=top 14
abbrev s3:Ry:=top 15
abbrev tP:Ry:=top 18
abbrev vb:Ry:=top 19
abbrev uG:Ry:=top 20
abbrev su:Ry:=top 30
abbrev tH:Ry:=top 31
abbrev tU:Ry:=top 32
abbrev wO:Ry:=top 33
abbrev vI:Ry:=top 34
abbrev t9:Ry:=top 35
abbrev xB:Ry:=top 36
abbrev tG:Ry:=top 37
abbrev wG:Ry:=top 38
abbrev rZ:Ry:=top 44
abbrev xH:Ry:=top 45
abbrev vo:Ry:=top 46
abbrev tV:Ry:=top 47
abbrev vq:Ry:=top 48
abbrev vG:Ry:=top 49
abbrev xu:Ry:=top 50
abbrev xW:Ry:=top 52
abbrev r6:Ry:=top 53
abbrev t8:Ry:=top 54
abbrev sv:Ry:=top 55
abbrev xo:Ry:=top 56
abbrev x3:Ry:=top 57
abbrev wV:Ry:=top 58
abbrev xZ:Ry:=top 59
abbrev xV:Ry:=top 61
abbrev vN:Ry:=top 62
abbrev vd:Ry:=top 63
abbrev se:Ry:=top 64
abbrev vJ:Ry:=top 65
abbrev rJ:Ry:=top 66
abbrev x6:Ry:=top 67
abbrev s0:Ry:=top 68
abbrev mB:Ry:=(jM<|top 51).getD 1<|.Pass ⟨0,0,0,0⟩
abbrev kZ:Ry:=(jM<|top 51).getD 2<|.Pass ⟨0,0,0,0⟩
structure Glb (K:Ly)(w:LA)(mg:Str->L B):Prop where
 DEEPEST_kinds:∃t,mg "DEEPEST_kinds"=Y (.int 5 t)
 DEEPEST_programs:∃t,mg "DEEPEST_programs"=Y (.int 20 t)
 GREATEST:∃t,mg "GREATEST"=Y (.int 1000000000000000000 t)
 LONGEST_NAME:∃t,mg "LONGEST_NAME"=Y (.int 8 t)
 MOST_HEADS:∃t,mg "MOST_HEADS"=Y (.int 6 t)
 MOST_PIECES:∃t,mg "MOST_PIECES"=Y (.int 200 t)
 BLANKS:Dv K mg "BLANKS" (.tup [.tup [],.tup [.tup [.str (q "yes")]],.tup [.tup [.str (q "yes")],.tup [.str (q "yes")]],.tup [.tup [.str (q "yes")],.tup [.str (q "yes")],.tup [.str (q "yes")]],.tup [.str (q "x"),.tup [.str (q "yes")],.tup [.str (q "yes")]],.tup [.str (q "x"),.tup [.str (q "yes")],.tup [.str (q "yes")],.tup [.str (q "yes")]]])
 k_AHEAD:qc K w mg "AHEAD" keys_AHEAD
 c_AHEAD:nW K w mg "AHEAD" tab_AHEAD
 c_BINDING:nW K w mg "BINDING" tab_BINDING
 k_PARTS:qc K w mg "PARTS" keys_PARTS
 c_PARTS:nW K w mg "PARTS" tab_PARTS
 k_WITHIN:qc K w mg "WITHIN" keys_WITHIN
 c_WITHIN:nW K w mg "WITHIN" tab_WITHIN
structure Xs (P:Ro)(w:LA)(K:Ly)(mg:Str->L B)(base:Rx):Prop where
 p_Walk:PCl P w K mg base "Walk" ba [q "words",q "at",q "spare"] [0,199]
 d_seen:Dm K ba "seen" "Walk.seen" mB ["self"]
 d_go_on:Dm K ba "go_on" "Walk.go_on" kZ ["self"]
structure Calls (P:Ro)(w:LA)(K:Ly)(mg:Str->L B)(base:Rx)(n:O)(C:M.Call):Prop where
 c215:aa P w K mg base n C "is_kind" 215 []
 c216:aa P w K mg base n C "is_kind_within" 216 []
 c364:aa P w K mg base n C "kind_text" 364 []
 c366:aa P w K mg base n C "take_kind" 366 []
 c367:aa P w K mg base n C "take_kind_within" 367 []
 c2:aa P w K mg base n C "is_worth" 2 []
 c3:aa P w K mg base n C "is_number" 3 []
 c162:aa P w K mg base n C "worth_text" 162 []
 c164:aa P w K mg base n C "take_worth" 164 []
 c165:aa P w K mg base n C "number_of" 165 []
 c226:aa P w K mg base n C "is_name" 226 []
 c227:aa P w K mg base n C "is_tree" 227 []
 c228:aa P w K mg base n C "may_stand_ahead" 228 []
 c175:aa P w K mg base n C "parts_start" 175 []
 c176:aa P w K mg base n C "parts" 176 []
 c334:aa P w K mg base n C "with_parts" 334 []
 c233:aa P w K mg base n C "binding" 233 []
 c253:aa P w K mg base n C "places" 253 []
 c254:aa P w K mg base n C "add_places" 254 [2]
 c507:aa P w K mg base n C "is_program" 507 []
 c508:aa P w K mg base n C "are_heads" 508 []
 c241:aa P w K mg base n C "is_head" 241 []
 c509:aa P w K mg base n C "names_of" 509 []
 c243:aa P w K mg base n C "binds_well" 243 []
 c489:aa P w K mg base n C "program_text" 489 []
 c490:aa P w K mg base n C "tree_text" 490 []
 c510:aa P w K mg base n C "read_program" 510 []
 c511:aa P w K mg base n C "walk_heads" 511 [0]
 c493:aa P w K mg base n C "walk_name" 493 [0]
 c494:aa P w K mg base n C "walk_kind" 494 [0]
 c495:aa P w K mg base n C "walk_tree" 495 [0]
 c496:aa P w K mg base n C "walk_parts" 496 [0]
 c497:aa P w K mg base n C "blank_of" 497 []
 c498:aa P w K mg base n C "number_piece" 498 []
 c171:aa P w K mg base n C "_law_kind" 171 []
 c499:aa P w K mg base n C "_law_leaf" 499 []
 c500:aa P w K mg base n C "_law_tree" 500 [0]
 c501:aa P w K mg base n C "_law_cleared" 501 []
 c502:aa P w K mg base n C "_law_heads" 502 []
 c503:aa P w K mg base n C "_law_kind_words" 503 []
 c504:aa P w K mg base n C "_law_words" 504 []
 c505:dC P w K mg base n C ba "seen" 505 [0]
 c506:dC P w K mg base n C ba "go_on" 506 [0]
 c4:∀ws,C 4 ws=.no
 c5:∀ws,C 5 ws=.no
 c166:∀ws,C 166 ws=.no
 c167:∀ws,C 167 ws=.no
 c168:∀ws,C 168 ws=.no
abbrev DD (x:Str)(e:Ry)(N:U Str)(g:M.Fn):Prop:=∀{P:Ro} {w:LA} {K:Ly} {d:Str->L B} {a:Rx} {n:O} {C:M.Call} {f:Rj} {c:B} {A:LS} {b:U Env} {s:Lx} {H:Hp} {E:XK},Xs P w K d a->Calls P w K d a (n+2) C->Txt d->Glb K w d->Room (n+2) (A.deeper<|MC x (defScope e) s.heap.objs.size f c)->SSs (iT CX0 P w K d a N x (defScope e) f c A b s H E).nox (slN N.length) g.io C (defBody e) g.body
theorem HP:af ["thing"] ["thing"] (defScope wD):=fsc
theorem Lo:DD "is_kind" wD ["thing"] cJ:=λ{_ _ _ _ _ _ _ _ _ _ _ s _ _} c a T G b=>
 have S:=HP
 (ss1<|ai<|ag a.c216 b<|@say _ _ _ _ _ _ _ (sM 0) (@say _ _ _ _ _ _ _ (sGc G.DEEPEST_kinds) sa0 rfl rfl) rfl rfl)
theorem GC:af ["thing","depth"] ["thing","depth"] (defScope tX):=fsc
theorem Ld:DD "is_kind_within" tX ["thing","depth"] aZ:=λ{_ _ _ _ _ _ _ _ _ _ _ s _ _} c b T G a=>
 have S:=GC
 (@ssc _ _ _ _ _ _ _ _ (zIf (tW (wOr (bP a (sV 1) sI) (wOr (cx (tB (c7 (by decide) N1 T.isin T.tup (sV 0)))) (wO1 (bP a (dw (hm:=T.len) (ha:=(sV 0))) sI))))) (ss1 (ai sO)) ss0)
    (@ssc _ _ _ _ _ _ _ _ (zIf (tW (wOr (cx (tB (c7 (by decide) Ow T.isin T.str (@ak _ _ _ _ _ _ _ _ _ (sV 0) sI (λ_ _=>rfl))))) (wO1 (kd G.k_WITHIN (@ak _ _ _ _ _ _ _ _ _ (sV 0) sI (λ_ _=>rfl)))))) (ss1 (ai sO)) ss0)
    (@ssc _ _ _ _ _ _ _ _ (zIf (kG a (dw (hm:=T.len) (ha:=(sV 0))) (bx sI (yY G.c_WITHIN (@ak _ _ _ _ _ _ _ _ _ (sV 0) sI (λ_ _=>rfl))))) (ss1 (ai sO)) ss0)
    (ss1 (ai (zF (hm:=T.all) (ha:=(sC1 [1] [1] [("depth",s.heap.objs.size+1)] ["depth"] (gf (q8 (sM 0) sI)) (λ_ _ _ _=>(ag b.c216 a (@say _ _ _ _ _ _ _ (sV 0) (@say _ _ _ _ _ _ _ (lX (sV 1) sI) sa0 rfl rfl) rfl rfl))) csc (Ko .nil) (frc .nil)))))))))
theorem FP:af ["kind"] ["kind"] (defScope yg):=fsc
theorem KR:DD "kind_text" yg ["kind"] a7:=λ{_ _ _ _ _ _ _ _ _ _ _ s _ _} c a T G b=>
 have S:=FP
 (ss1 (ai (jc sS (bx (@sLx _ _ _ _ _ _ _ (by decide) (@slx _ _ _ _ _ _ _ (@ak _ _ _ _ _ _ _ _ _ (sV 0) sI (λ_ _=>rfl)) sl0 rfl)) (sC1 [] [] [] [] (gf (q8 (sV 0) sI)) (λ_ _ _ _=>(ag a.c364 b (@say _ _ _ _ _ _ _ (sV 0) sa0 rfl rfl))) csc .nil .nil)))))
theorem GG:af ["words","at"] ["words","at"] (defScope wj):=fsc
theorem KI:DD "take_kind" wj ["words","at"] cn:=λ{_ _ _ _ _ _ _ _ _ _ _ s _ _} c a T G b=>
 have S:=GG
 (ss1<|ai<|ag a.c367 b<|@say _ _ _ _ _ _ _ (sM 0) (@say _ _ _ _ _ _ _ (sM 1) (@say _ _ _ _ _ _ _ (sGc G.DEEPEST_kinds) sa0 rfl rfl) rfl rfl) rfl rfl)
theorem GI:af ["words","at","depth","many","kind","after","number","taken"] ["words","at","depth"] (defScope vn):=fsc
theorem JR:DD "take_kind_within" vn ["words","at","depth","many","kind","after","number","taken"] av:=λ{_ _ _ _ _ _ _ _ _ _ _ s _ _} c b T G a=>
 have S:=GI
 (@ssc _ _ _ _ _ _ _ _ (zIf (tW (wOr (Bd (sV 1) (dw (hm:=T.len) (ha:=(sV 0)))) (wO1 (kd G.k_WITHIN (@ak _ _ _ _ _ _ _ _ _ (sV 0) (sV 1) (λ_ _=>rfl)))))) (ss1 eY) ss0)
    (@ssc _ _ _ _ _ _ _ _ (@zA _ _ _ _ _ _ _ 3 _ _ _ _ S.nd (yY G.c_WITHIN (@ak _ _ _ _ _ _ _ _ _ (sV 0) (sV 1) (λ_ _=>rfl))) rfl rfl rfl rfl rfl rfl)
    (@ssc _ _ _ _ _ _ _ _ (zIf (tW (vT (ni (sV 3) sI) (wA1 (bP a (sV 2) sI)))) (ss1 eY) ss0)
    (@ssc _ _ _ _ _ _ _ _ (@zA _ _ _ _ _ _ _ 4 _ _ _ _ S.nd (@sLx _ _ _ _ _ _ _ (by decide) (@slx _ _ _ _ _ _ _ (@ak _ _ _ _ _ _ _ _ _ (sV 0) (sV 1) (λ_ _=>rfl)) sl0 rfl)) rfl rfl rfl rfl rfl rfl)
    (@ssc _ _ _ _ _ _ _ _ (@zA _ _ _ _ _ _ _ 5 _ _ _ _ S.nd (bx (sV 1) sI) rfl rfl rfl rfl rfl rfl)
    (@ssc _ _ _ _ _ _ _ _ (fA 6 S.nd (wW (hm:=T.range) (ha:=(sV 3))) (@ssc _ _ _ _ _ _ _ _ (@zA _ _ _ _ _ _ _ 7 _ _ _ _ S.nd (ag b.c367 a (@say _ _ _ _ _ _ _ (sV 0) (@say _ _ _ _ _ _ _ (sV 5) (@say _ _ _ _ _ _ _ (lX (sV 2) sI) sa0 rfl rfl) rfl rfl) rfl rfl)) rfl rfl rfl rfl rfl rfl)
     (@ssc _ _ _ _ _ _ _ _ (jH 4 (@ak _ _ _ _ _ _ _ _ _ (sV 7) sI (λ_ _=>rfl)))
     (ss1 (@zA _ _ _ _ _ _ _ 5 _ _ _ _ S.nd (@ak _ _ _ _ _ _ _ _ _ (sV 7) sI (λ_ _=>rfl)) rfl rfl rfl rfl rfl rfl)))))
    (ss1 (ai (@sTx _ _ _ _ _ _ _ (by decide) (@slx _ _ _ _ _ _ _ (iN (hm:=T.tup) (ha:=(sM 4))) (@slx _ _ _ _ _ _ _ (sM 5) sl0 rfl) rfl))))))))))
theorem S2:af ["kind","thing"] ["kind","thing"] (defScope s2):=fsc
theorem D2:DD "is_worth" s2 ["kind","thing"] cR:=λ{_ _ _ _ _ _ _ _ _ _ _ s _ _} c b T G a=>
 have S:=S2
 (@ssc _ _ _ _ _ _ _ _ (zIf (bP a (@ak _ _ _ _ _ _ _ _ _ (sV 0) sI (λ_ _=>rfl)) sS) (ss1 (ai (ag b.c3 a (@say _ _ _ _ _ _ _ (sM 1) sa0 rfl rfl)))) ss0)
    (@ssc _ _ _ _ _ _ _ _ (zIf (bP a (@ak _ _ _ _ _ _ _ _ _ (sV 0) sI (λ_ _=>rfl)) sS) (ss1 (ai (c7 (by decide) PR T.isin T.bool (sM 1)))) ss0)
    (@ssc _ _ _ _ _ _ _ _ (zIf (bP a (@ak _ _ _ _ _ _ _ _ _ (sV 0) sI (λ_ _=>rfl)) sS) (ss1 (ai (sr b.c4))) ss0)
    (ss1 (ai (sr b.c5))))))
theorem S3:af ["thing"] ["thing"] (defScope s3):=fsc
theorem D3:DD "is_number" s3 ["thing"] bI:=λ{_ _ _ _ _ _ _ _ _ _ _ s _ _} c a T G b=>
 have S:=S3
 (@ssc _ _ _ _ _ _ _ _ (zIf (tW (wOr (cx (tB (c7 (by decide) O5 T.isin T.int (sV 0)))) (wO1 (tB (c7 (by decide) PR T.isin T.bool (sV 0)))))) (ss1 (ai sO)) ss0)
    (ss1 (ai (AM (KO (sGc G.GREATEST)) (sM 0) (sGc G.GREATEST)))))
theorem He:af ["worth","texts"] ["worth"] (defScope tP):=fsc
theorem Kx:DD "worth_text" tP ["worth","texts"] bK:=λ{_ _ _ _ _ _ _ _ _ _ _ s _ _} c a T G b=>
 have S:=He
 (@ssc _ _ _ _ _ _ _ _ (zIf (tB (c7 (by decide) PR T.isin T.bool (sV 0))) (ss1 (ai (sIf (tB (sM 0)) sS sS))) ss0)
    (@ssc _ _ _ _ _ _ _ _ (zIf (tB (c7 (by decide) O5 T.isin T.int (sV 0))) (ss1 (ai (HW (hm:=T.str) (ha:=(sM 0))))) ss0)
    (@ssc _ _ _ _ _ _ _ _ (zC1 1 [] [] [] [] (gf (sV 0)) (λ_ _ _ _=>(ag a.c162 b (@say _ _ _ _ _ _ _ (sV 0) sa0 rfl rfl))) csc .nil .nil S.nd)
    (@ssc _ _ _ _ _ _ _ _ (zIf (tB (c7 (by decide) N1 T.isin T.tup (sV 0))) (ss1 (ai (jc sS (sM 1)))) ss0)
    (ss1 (ai (jc sS (bx (bx (@sLx _ _ _ _ _ _ _ (by decide) (@slx _ _ _ _ _ _ _ sS sl0 rfl)) (sM 1)) (@sLx _ _ _ _ _ _ _ (by decide) (@slx _ _ _ _ _ _ _ sS sl0 rfl))))))))))
theorem GV:af ["kind","words","at","worth"] ["kind","words","at"] (defScope vb):=fsc
theorem Kb:DD "take_worth" vb ["kind","words","at","worth"] bM:=λ{_ _ _ _ _ _ _ _ _ _ _ s _ _} c a T G b=>
 have S:=GV
 (@ssc _ _ _ _ _ _ _ _ (zIf (bP b (@ak _ _ _ _ _ _ _ _ _ (sV 0) sI (λ_ _=>rfl)) sS) (ss1 (ai (sr a.c167))) ss0)
    (@ssc _ _ _ _ _ _ _ _ (zIf (bP b (@ak _ _ _ _ _ _ _ _ _ (sV 0) sI (λ_ _=>rfl)) sS) (ss1 (ai (sr a.c168))) ss0)
    (@ssc _ _ _ _ _ _ _ _ (zIf (Bd (sV 2) (dw (hm:=T.len) (ha:=(sV 1)))) (ss1 eY) ss0)
    (@ssc _ _ _ _ _ _ _ _ (@zA _ _ _ _ _ _ _ 3 _ _ _ _ S.nd (sIf (bP b (@ak _ _ _ _ _ _ _ _ _ (sV 0) sI (λ_ _=>rfl)) sS) (ag a.c165 b (@say _ _ _ _ _ _ _ (@ak _ _ _ _ _ _ _ _ _ (sV 1) (sV 2) (λ_ _=>rfl)) sa0 rfl rfl)) (sr a.c166)) rfl rfl rfl rfl rfl rfl)
    (@ssc _ _ _ _ _ _ _ _ (zIf (Aw (sV 3) sN) (ss1 eY) ss0)
    (ss1 (ai (@sTx _ _ _ _ _ _ _ (by decide) (@slx _ _ _ _ _ _ _ (sM 3) (@slx _ _ _ _ _ _ _ (bx (sM 2) sI) sl0 rfl) rfl)))))))))
theorem GX:af ["word","number"] ["word"] (defScope uG):=fsc
theorem JO:DD "number_of" uG ["word","number"] cq:=λ{_ _ _ _ _ _ _ _ _ _ _ s _ _} c b T G a=>
 have S:=GX
 (@ssc _ _ _ _ _ _ _ _ (G0 (ss1 (@zA _ _ _ _ _ _ _ 1 _ _ _ _ S.nd (FY (hm:=T.int) (ha:=(sV 0))) rfl rfl rfl rfl rfl rfl)))
    (@ssc _ _ _ _ _ _ _ _ (zIf (tW (wOr (kG a (HW (hm:=T.str) (ha:=(sV 1))) (sV 0)) (wO1 (cx (tB (ag b.c3 a (@say _ _ _ _ _ _ _ (sV 1) sa0 rfl rfl))))))) (ss1 (ai sN)) ss0)
    (ss1 (ai (sM 1)))))
theorem Gp:af ["thing"] ["thing"] (defScope su):=fsc
theorem J0:DD "is_name" su ["thing"] bz:=λ{_ _ _ _ _ _ _ _ _ _ _ s _ _} c a T G b=>
 have S:=Gp
 (@ssc _ _ _ _ _ _ _ _ (zIf (tW (wOr (cx (tB (c7 (by decide) Ow T.isin T.str (sV 0)))) (wO1 (cx (Az sI (dw (hm:=T.len) (ha:=(sV 0))) (sGc G.LONGEST_NAME)))))) (ss1 (ai sO)) ss0)
    (@ssc _ _ _ _ _ _ _ _ (zIf (tW (wOr (Jr G.k_PARTS (sV 0)) (wO1 (eU (sV 0) (@sTx _ _ _ _ _ _ _ (by decide) (@slx _ _ _ _ _ _ _ sS (@slx _ _ _ _ _ _ _ sS sl0 rfl) rfl)))))) (ss1 (ai sO)) ss0)
    (ss1 (ai (zF (hm:=T.all) (ha:=(sC1 [] [] [] [] (Kv (sM 0)) (λ_ _ _ _=>(rD sS (sV 0) sS)) csc .nil .nil)))))))
theorem Jn:af ["thing","start"] ["thing"] (defScope tH):=fsc
theorem Kp:DD "is_tree" tH ["thing","start"] aO:=λ{_ _ _ _ _ _ _ _ _ _ _ s _ _} c b T G a=>
 have S:=Jn
 (@ssc _ _ _ _ _ _ _ _ (zIf (tW (wOr (cx (tB (c7 (by decide) N1 T.isin T.tup (sV 0)))) (wO1 (bP a (dw (hm:=T.len) (ha:=(sV 0))) sI)))) (ss1 (ai sO)) ss0)
    (@ssc _ _ _ _ _ _ _ _ (zIf (tW (wOr (cx (tB (c7 (by decide) Ow T.isin T.str (@ak _ _ _ _ _ _ _ _ _ (sV 0) sI (λ_ _=>rfl))))) (wO1 (kd G.k_PARTS (@ak _ _ _ _ _ _ _ _ _ (sV 0) sI (λ_ _=>rfl)))))) (ss1 (ai sO)) ss0)
    (@ssc _ _ _ _ _ _ _ _ (@zA _ _ _ _ _ _ _ 1 _ _ _ _ S.nd (ag b.c175 a (@say _ _ _ _ _ _ _ (@ak _ _ _ _ _ _ _ _ _ (sV 0) sI (λ_ _=>rfl)) sa0 rfl rfl)) rfl rfl rfl rfl rfl rfl)
    (@ssc _ _ _ _ _ _ _ _ (zIf (kG a (dw (hm:=T.len) (ha:=(sV 0))) (bx (sV 1) (yY G.c_PARTS (@ak _ _ _ _ _ _ _ _ _ (sV 0) sI (λ_ _=>rfl))))) (ss1 (ai sO)) ss0)
    (@ssc _ _ _ _ _ _ _ _ (zIf (tW (vT (bP a (sV 1) sI) (wA1 (cx (tB (ag b.c228 a (@say _ _ _ _ _ _ _ (yY G.c_AHEAD (@ak _ _ _ _ _ _ _ _ _ (sV 0) sI (λ_ _=>rfl))) (@say _ _ _ _ _ _ _ (@ak _ _ _ _ _ _ _ _ _ (sV 0) sI (λ_ _=>rfl)) sa0 rfl rfl) rfl rfl))))))) (ss1 (ai sO)) ss0)
    (ss1 (ai (zF (hm:=T.all) (ha:=(sC1 [] [] [] [] (gf (q8 (sM 0) (sM 1))) (λ_ _ _ _=>(ag b.c227 a (@say _ _ _ _ _ _ _ (sV 0) sa0 rfl rfl))) csc .nil .nil))))))))))
theorem Im:af ["what","thing"] ["what","thing"] (defScope tU):=fsc
theorem Lp:DD "may_stand_ahead" tU ["what","thing"] aB:=λ{_ _ _ _ _ _ _ _ _ _ _ s _ _} c b T G a=>
 have S:=Im
 (@ssc _ _ _ _ _ _ _ _ (zIf (bP a (sV 0) sS) (ss1 (ai (sBW (C0 (ag b.c2 a (@say _ _ _ _ _ _ _ (@sTx _ _ _ _ _ _ _ (by decide) (@slx _ _ _ _ _ _ _ sS sl0 rfl)) (@say _ _ _ _ _ _ _ (sV 1) sa0 rfl rfl) rfl rfl)) (vA1 (sGe (sV 1) sI)))))) ss0)
    (@ssc _ _ _ _ _ _ _ _ (zIf (bP a (sV 0) sS) (ss1 (ai (ag b.c215 a (@say _ _ _ _ _ _ _ (sM 1) sa0 rfl rfl)))) ss0)
    (ss1 (ai (ag b.c226 a (@say _ _ _ _ _ _ _ (sM 1) sa0 rfl rfl))))))
theorem Ji:af ["sign"] ["sign"] (defScope wO):=fsc
theorem JI:DD "parts_start" wO ["sign"] bg:=λ{_ _ _ _ _ _ _ _ _ _ _ s _ _} c a T G b=>
 have S:=Ji
 (ss1<|ai<|sIf (Jr G.k_AHEAD<|sM 0) sI sI)
theorem Ic:af ["tree"] ["tree"] (defScope vI):=fsc
theorem K7:DD "parts" vI ["tree"] eD:=λ{_ _ _ _ _ _ _ _ _ _ _ s _ _} c a T G b=>
 have S:=Ic
 (ss1 (ai (q8 (sV 0) (ag a.c175 b (@say _ _ _ _ _ _ _ (@ak _ _ _ _ _ _ _ _ _ (sV 0) sI (λ_ _=>rfl)) sa0 rfl rfl)))))
theorem F5:af ["tree","some"] ["tree","some"] (defScope t9):=fsc
theorem Ke:DD "with_parts" t9 ["tree","some"] bA:=λ{_ _ _ _ _ _ _ _ _ _ _ s _ _} c a T G b=>
 have S:=F5
 (ss1 (ai (bx (zP (sV 0) (ag a.c175 b (@say _ _ _ _ _ _ _ (@ak _ _ _ _ _ _ _ _ _ (sV 0) sI (λ_ _=>rfl)) sa0 rfl rfl))) (iN (hm:=T.tup) (ha:=(sM 1))))))
theorem F7:af ["tree"] ["tree"] (defScope xB):=fsc
theorem JQ:DD "binding" xB ["tree"] dq:=λ{_ _ _ _ _ _ _ _ _ _ _ s _ _} c a T G b=>
 have S:=F7
 (ss1<|ai<|Il G.c_BINDING<|@ak _ _ _ _ _ _ _ _ _ (sM 0) sI λ_ _=>rfl)
theorem Hs:af ["tree","told"] ["tree"] (defScope tG):=fsc
theorem Lr:DD "places" tG ["tree","told"] dU:=λ{_ _ _ _ _ _ _ _ _ _ _ s _ _} c a T G b=>
 have S:=Hs
 (@ssc _ _ _ _ _ _ _ _ (@zA _ _ _ _ _ _ _ 1 _ _ _ _ S.nd (@sLx _ _ _ _ _ _ _ (by decide) sl0) rfl rfl rfl rfl rfl rfl)
    (@ssc _ _ _ _ _ _ _ _ (sL (ag a.c254 b (@say _ _ _ _ _ _ _ (sV 0) (@say _ _ _ _ _ _ _ (@sTx _ _ _ _ _ _ _ (by decide) sl0) (sai 1 sa0) rfl rfl) rfl rfl)))
    (ss1 (ai (sM 1)))))
theorem IM:af ["tree","place","told","number","part"] ["tree","place","told"] (defScope wG):=fsc
theorem Kl:DD "add_places" wG ["tree","place","told","number","part"] bW:=λ{_ _ _ _ _ _ _ _ _ _ _ s _ _} c a T G b=>
 have S:=IM
 (@ssc _ _ _ _ _ _ _ _ (pf 3 4 S.nd (r8 (hm:=T.enum) (ha:=(ag a.c176 b (@say _ _ _ _ _ _ _ (sV 0) sa0 rfl rfl)))) (ss1 (sL (ag a.c254 b (@say _ _ _ _ _ _ _ (sV 4) (@say _ _ _ _ _ _ _ (ye (sV 1) (@sTx _ _ _ _ _ _ _ (by decide) (@slx _ _ _ _ _ _ _ (sV 3) sl0 rfl))) (sai 2 sa0) rfl rfl) rfl rfl)))))
    (ss1 (jH 2 (sV 1))))
theorem IG:af ["thing","told"] ["thing"] (defScope rZ):=fsc
theorem KL:DD "is_program" rZ ["thing","told"] aP:=λ{_ _ _ _ _ _ _ _ _ _ _ s _ _} c b T G a=>
 have S:=IG
 (@ssc _ _ _ _ _ _ _ _ (zIf (tW (wOr (cx (tB (c7 (by decide) N1 T.isin T.tup (sV 0)))) (wO1 (kG a (dw (hm:=T.len) (ha:=(sV 0))) sI)))) (ss1 (ai sO)) ss0)
    (@ssc _ _ _ _ _ _ _ _ (zIf (tW (wOr (cx (tB (ag b.c508 a (@say _ _ _ _ _ _ _ (@ak _ _ _ _ _ _ _ _ _ (sV 0) sI (λ_ _=>rfl)) sa0 rfl rfl)))) (wO1 (cx (tB (ag b.c227 a (@say _ _ _ _ _ _ _ (@ak _ _ _ _ _ _ _ _ _ (sV 0) sI (λ_ _=>rfl)) sa0 rfl rfl))))))) (ss1 (ai sO)) ss0)
    (@ssc _ _ _ _ _ _ _ _ (@zA _ _ _ _ _ _ _ 1 _ _ _ _ S.nd (ag b.c253 a (@say _ _ _ _ _ _ _ (@ak _ _ _ _ _ _ _ _ _ (sV 0) sI (λ_ _=>rfl)) sa0 rfl rfl)) rfl rfl rfl rfl rfl rfl)
    (@ssc _ _ _ _ _ _ _ _ (zIf (tW (wOr (ni (dw (hm:=T.len) (ha:=(sV 1))) (sGc G.MOST_PIECES)) (wO1 (Bd (GO (hm:=T.max) (ha:=(sC1 [] [] [] [] (gf (sV 1)) (λ_ _ _ _=>(dw (hm:=T.len) (ha:=(sV 0)))) csc .nil .nil))) (sGc G.DEEPEST_programs))))) (ss1 (ai sO)) ss0)
    (ss1 (ai (ag b.c243 a (@say _ _ _ _ _ _ _ (@ak _ _ _ _ _ _ _ _ _ (sV 0) sI (λ_ _=>rfl)) (@say _ _ _ _ _ _ _ (ag b.c509 a (@say _ _ _ _ _ _ _ (@ak _ _ _ _ _ _ _ _ _ (sV 0) sI (λ_ _=>rfl)) sa0 rfl rfl)) sa0 rfl rfl) rfl rfl))))))))
theorem Ia:af ["thing"] ["thing"] (defScope xH):=fsc
theorem J8:DD "are_heads" xH ["thing"] bH:=λ{_ _ _ _ _ _ _ _ _ _ _ s _ _} c b T G a=>
 have S:=Ia
 (@ssc _ _ _ _ _ _ _ _ (zIf (tW (wOr (cx (tB (c7 (by decide) N1 T.isin T.tup (sV 0)))) (wO1 (ni (dw (hm:=T.len) (ha:=(sV 0))) (sGc G.MOST_HEADS))))) (ss1 (ai sO)) ss0)
    (@ssc _ _ _ _ _ _ _ _ (zIf (cx (tB (zF (hm:=T.all) (ha:=(sC1 [] [] [] [] (gf (sV 0)) (λ_ _ _ _=>(ag b.c241 a (@say _ _ _ _ _ _ _ (sV 0) sa0 rfl rfl))) csc .nil .nil))))) (ss1 (ai sO)) ss0)
    (ss1 (ai (sEq a (Br (hm:=T.len) (hm2:=T.set) (ha:=(ag b.c509 a (@say _ _ _ _ _ _ _ (sV 0) sa0 rfl rfl)))) (dw (hm:=T.len) (ha:=(sV 0))))))))
theorem IL:af ["thing"] ["thing"] (defScope vo):=fsc
theorem JF:DD "is_head" vo ["thing"] dn:=λ{_ _ _ _ _ _ _ _ _ _ _ s _ _} c b T G a=>
 have S:=IL
 (@ssc _ _ _ _ _ _ _ _ (zIf (tW (wOr (cx (tB (c7 (by decide) N1 T.isin T.tup (sV 0)))) (wO1 (kG a (dw (hm:=T.len) (ha:=(sV 0))) sI)))) (ss1 (ai sO)) ss0)
    (ss1 (ai (sBW (C0 (ag b.c226 a (@say _ _ _ _ _ _ _ (@ak _ _ _ _ _ _ _ _ _ (sV 0) sI (λ_ _=>rfl)) sa0 rfl rfl)) (vA1 (ag b.c215 a (@say _ _ _ _ _ _ _ (@ak _ _ _ _ _ _ _ _ _ (sV 0) sI (λ_ _=>rfl)) sa0 rfl rfl))))))))
theorem IA:af ["heads"] ["heads"] (defScope tV):=fsc
theorem Kh:DD "names_of" tV ["heads"] b7:=λ{_ _ _ _ _ _ _ _ _ _ _ s _ _} c a T G b=>
 have S:=IA
 (ss1 (ai (iN (hm:=T.tup) (ha:=(sC1 [] [] [] [] (gf (sM 0)) (λ_ _ _ _=>(@ak _ _ _ _ _ _ _ _ _ (sV 0) sI (λ_ _=>rfl))) csc .nil .nil)))))
theorem HM:af ["tree","bound","where","number","part"] ["tree","bound"] (defScope vq):=fsc
theorem J9:DD "binds_well" vq ["tree","bound","where","number","part"] aI:=λ{_ _ _ _ _ _ _ _ _ _ _ s _ _} c b T G a=>
 have S:=HM
 (@ssc _ _ _ _ _ _ _ _ (@zA _ _ _ _ _ _ _ 2 _ _ _ _ S.nd (ag b.c233 a (@say _ _ _ _ _ _ _ (sV 0) sa0 rfl rfl)) rfl rfl rfl rfl rfl rfl)
    (@ssc _ _ _ _ _ _ _ _ (zIf (tW (vT (Dl (sV 2) sN) (wA1 (eU (@ak _ _ _ _ _ _ _ _ _ (sV 0) sI (λ_ _=>rfl)) (sV 1))))) (ss1 (ai sO)) ss0)
    (@ssc _ _ _ _ _ _ _ _ (pf 3 4 S.nd (r8 (hm:=T.enum) (ha:=(ag b.c176 a (@say _ _ _ _ _ _ _ (sV 0) sa0 rfl rfl)))) (ss1 (zIf (cx (tB (ag b.c243 a (@say _ _ _ _ _ _ _ (sV 4) (@say _ _ _ _ _ _ _ (sIf (bP a (sV 3) (sV 2)) (ye (sV 1) (@sTx _ _ _ _ _ _ _ (by decide) (@slx _ _ _ _ _ _ _ (@ak _ _ _ _ _ _ _ _ _ (sV 0) sI (λ_ _=>rfl)) sl0 rfl))) (sV 1)) sa0 rfl rfl) rfl rfl)))) (ss1 (ai sO)) ss0)))
    (ss1 (ai sO)))))
theorem Ij:af ["program","words","name","kind"] ["program"] (defScope vG):=fsc
theorem KA:DD "program_text" vG ["program","words","name","kind"] bw:=λ{_ _ _ _ _ _ _ _ _ _ _ s _ _} c a T G b=>
 have S:=Ij
 (@ssc _ _ _ _ _ _ _ _ (@zA _ _ _ _ _ _ _ 1 _ _ _ _ S.nd (@sLx _ _ _ _ _ _ _ (by decide) sl0) rfl rfl rfl rfl rfl rfl)
    (@ssc _ _ _ _ _ _ _ _ (pf 2 3 S.nd (tK (@ak _ _ _ _ _ _ _ _ _ (sV 0) sI (fun _ _=>rfl))) (@ssc _ _ _ _ _ _ _ _ (jH 1 (sV 2))
     (ss1 (jH 1 (ag a.c364 b (@say _ _ _ _ _ _ _ (sV 3) sa0 rfl rfl))))))
    (@ssc _ _ _ _ _ _ _ _ (jH 1 sS)
    (@ssc _ _ _ _ _ _ _ _ (jH 1 (ag a.c490 b (@say _ _ _ _ _ _ _ (@ak _ _ _ _ _ _ _ _ _ (sV 0) sI (λ_ _=>rfl)) sa0 rfl rfl)))
    (ss1 (ai (jc sS (sM 1))))))))
theorem Iy:af ["tree","words"] ["tree"] (defScope xu):=fsc
theorem K9:DD "tree_text" xu ["tree","words"] aR:=λ{_ _ _ _ _ _ _ _ _ _ _ s _ _} c b T G a=>
 have S:=Iy
 (@ssc _ _ _ _ _ _ _ _ (zIf (bP a (@ak _ _ _ _ _ _ _ _ _ (sV 0) sI (λ_ _=>rfl)) sS) (ss1 (ai (ag b.c162 a (@say _ _ _ _ _ _ _ (@ak _ _ _ _ _ _ _ _ _ (sM 0) sI (λ_ _=>rfl)) sa0 rfl rfl)))) ss0)
    (@ssc _ _ _ _ _ _ _ _ (zIf (bP a (@ak _ _ _ _ _ _ _ _ _ (sV 0) sI (λ_ _=>rfl)) sS) (@ss1 _ _ _ _ _ _ (@ai _ _ _ _ _ _ _ _ (@ak _ _ _ _ _ _ _ _ _ (sM 0) sI (λ_ _=>rfl)))) ss0)
    (@ssc _ _ _ _ _ _ _ _ (zIf (bP a (@ak _ _ _ _ _ _ _ _ _ (sV 0) sI (λ_ _=>rfl)) sS) (ss1 (ai (bx sS (ag b.c364 a (@say _ _ _ _ _ _ _ (@ak _ _ _ _ _ _ _ _ _ (sM 0) sI (λ_ _=>rfl)) sa0 rfl rfl))))) ss0)
    (@ssc _ _ _ _ _ _ _ _ (@zA _ _ _ _ _ _ _ 1 _ _ _ _ S.nd (sIf (Aw (ag b.c233 a (@say _ _ _ _ _ _ _ (sV 0) sa0 rfl rfl)) sN) (@sLx _ _ _ _ _ _ _ (by decide) (@slx _ _ _ _ _ _ _ (@ak _ _ _ _ _ _ _ _ _ (sV 0) sI (λ_ _=>rfl)) sl0 rfl)) (@sLx _ _ _ _ _ _ _ (by decide) (@slx _ _ _ _ _ _ _ (@ak _ _ _ _ _ _ _ _ _ (sV 0) sI (λ_ _=>rfl)) (@slx _ _ _ _ _ _ _ (@ak _ _ _ _ _ _ _ _ _ (sV 0) sI (λ_ _=>rfl)) sl0 rfl) rfl))) rfl rfl rfl rfl rfl rfl)
    (ss1 (ai (jc sS (bx (sM 1) (sC1 [] [] [] [] (gf (ag b.c176 a (@say _ _ _ _ _ _ _ (sM 0) sa0 rfl rfl))) (λ_ _ _ _=>(ag b.c490 a (@say _ _ _ _ _ _ _ (sV 0) sa0 rfl rfl))) csc .nil .nil)))))))))
theorem Gu:af ["text","walk","heads","tree"] ["text"] (defScope xW):=fsc
theorem K5:DD "read_program" xW ["text","walk","heads","tree"] br:=λ{_ _ _ _ _ _ _ _ _ _ _ s _ _} c b T G a=>
 have S:=Gu
 (@ssc _ _ _ _ _ _ _ _ (@zA _ _ _ _ _ _ _ 1 _ _ _ _ S.nd (Kj c.p_Walk a (@slx _ _ _ _ _ _ _ (DE (sV 0) sS) sl0 rfl)) rfl rfl rfl rfl rfl rfl)
    (@ssc _ _ _ _ _ _ _ _ (@zA _ _ _ _ _ _ _ 2 _ _ _ _ S.nd (ag b.c511 a (sai 1 sa0)) rfl rfl rfl rfl rfl rfl)
    (@ssc _ _ _ _ _ _ _ _ (@zA _ _ _ _ _ _ _ 3 _ _ _ _ S.nd (ag b.c495 a (sai 1 (@say _ _ _ _ _ _ _ (ag b.c509 a (@say _ _ _ _ _ _ _ (sV 2) sa0 rfl rfl)) (@say _ _ _ _ _ _ _ sI sa0 rfl rfl) rfl rfl))) rfl rfl rfl rfl rfl rfl)
    (@ssc _ _ _ _ _ _ _ _ (zIf (Dl (ic 1 b.c505 a) sN) (ss1 eY) ss0)
    (ss1 (ai (@sTx _ _ _ _ _ _ _ (by decide) (@slx _ _ _ _ _ _ _ (sM 2) (@slx _ _ _ _ _ _ _ (sM 3) sl0 rfl) rfl))))))))
theorem Jo:af ["walk","heads","name"] ["walk"] (defScope r6):=fsc
theorem KQ:DD "walk_heads" r6 ["walk","heads","name"] bN:=λ{_ _ _ _ _ _ _ _ _ _ _ s _ _} c b T G a=>
 have S:=Jo
 (@ssc _ _ _ _ _ _ _ _ (@zA _ _ _ _ _ _ _ 1 _ _ _ _ S.nd (@sLx _ _ _ _ _ _ _ (by decide) sl0) rfl rfl rfl rfl rfl rfl)
    (@ssc _ _ _ _ _ _ _ _ (KG (kG a (ic 0 b.c505 a) sS) (@ssc _ _ _ _ _ _ _ _ (zIf (bP a (dw (hm:=T.len) (ha:=(sV 1))) (sGc G.MOST_HEADS)) (ss1 eY) ss0)
     (@ssc _ _ _ _ _ _ _ _ (@zA _ _ _ _ _ _ _ 2 _ _ _ _ S.nd (ag b.c493 a (sai 0 (@say _ _ _ _ _ _ _ (sQ (ag b.c509 a (@say _ _ _ _ _ _ _ (sV 1) sa0 rfl rfl))) sa0 rfl rfl))) rfl rfl rfl rfl rfl rfl)
     (ss1 (jH 1 (@sTx _ _ _ _ _ _ _ (by decide) (@slx _ _ _ _ _ _ _ (sV 2) (@slx _ _ _ _ _ _ _ (ag b.c494 a (sai 0 sa0)) sl0 rfl) rfl)))))))
    (@ssc _ _ _ _ _ _ _ _ (sL (ic 0 b.c506 a))
    (ss1 (ai (iN (hm:=T.tup) (ha:=(sM 1))))))))
theorem IJ:af ["walk","bound","name"] ["walk","bound"] (defScope t8):=fsc
theorem J5:DD "walk_name" t8 ["walk","bound","name"] cw:=λ{_ _ _ _ _ _ _ _ _ _ _ s _ _} c a T G b=>
 have S:=IJ
 (@ssc _ _ _ _ _ _ _ _ (@zA _ _ _ _ _ _ _ 2 _ _ _ _ S.nd (ic 0 a.c505 b) rfl rfl rfl rfl rfl rfl)
    (@ssc _ _ _ _ _ _ _ _ (zIf (tW (wOr (cx (tB (ag a.c226 b (@say _ _ _ _ _ _ _ (sV 2) sa0 rfl rfl)))) (wO1 (eU (sV 2) (sV 1))))) (ss1 eY) ss0)
    (@ssc _ _ _ _ _ _ _ _ (sL (ic 0 a.c506 b))
    (ss1 (ai (sM 2))))))
theorem FN:af ["walk","taken"] ["walk"] (defScope sv):=fsc
theorem Ku:DD "walk_kind" sv ["walk","taken"] cy:=λ{_ _ _ _ _ _ _ _ _ _ _ s _ _} c a T G b=>
 have S:=FN
 (@ssc _ _ _ _ _ _ _ _ (@zA _ _ _ _ _ _ _ 1 _ _ _ _ S.nd (ag a.c366 b (@say _ _ _ _ _ _ _ (fE 0) (@say _ _ _ _ _ _ _ (fE 0) sa0 rfl rfl) rfl rfl)) rfl rfl rfl rfl rfl rfl)
    (@ssc _ _ _ _ _ _ _ _ (vf 0 (@ak _ _ _ _ _ _ _ _ _ (sV 1) sI (λ_ _=>rfl)))
    (@ss1 _ _ _ _ _ _ (@ai _ _ _ _ _ _ _ _ (@ak _ _ _ _ _ _ _ _ _ (sM 1) sI (λ_ _=>rfl))))))
theorem HZ:af ["walk","bound","depth","blank","due"] ["walk","bound","depth"] (defScope xo):=fsc
theorem Li:DD "walk_tree" xo ["walk","bound","depth","blank","due"] aK:=λ{_ _ _ _ _ _ _ _ _ _ _ s _ _} c b T G a=>
 have S:=HZ
 (@ssc _ _ _ _ _ _ _ _ (@zA _ _ _ _ _ _ _ 3 _ _ _ _ S.nd (ag b.c497 a (@say _ _ _ _ _ _ _ (ic 0 b.c505 a) sa0 rfl rfl)) rfl rfl rfl rfl rfl rfl)
    (@ssc _ _ _ _ _ _ _ _ (zIf (Aw (sV 3) sN) (ss1 eY) ss0)
    (@ssc _ _ _ _ _ _ _ _ (@zA _ _ _ _ _ _ _ 4 _ _ _ _ S.nd (dw (hm:=T.len) (ha:=(ag b.c176 a (@say _ _ _ _ _ _ _ (sV 3) sa0 rfl rfl)))) rfl rfl rfl rfl rfl rfl)
    (@ssc _ _ _ _ _ _ _ _ (zIf (tW (wOr (ni (sV 4) (fE 0)) (wO1 (tW (vT (ni (sV 4) sI) (wA1 (bP a (sV 2) (sGc G.DEEPEST_programs)))))))) (ss1 eY) ss0)
    (@ssc _ _ _ _ _ _ _ _ (vf 0 (lX (fE 0) (sV 4)))
    (@ssc _ _ _ _ _ _ _ _ (sL (ic 0 b.c506 a))
    (@ssc _ _ _ _ _ _ _ _ (zIf (bP a (@ak _ _ _ _ _ _ _ _ _ (sV 3) sI (λ_ _=>rfl)) sS) (ss1 (ai (@sTx _ _ _ _ _ _ _ (by decide) (@slx _ _ _ _ _ _ _ sS (@slx _ _ _ _ _ _ _ (ag b.c494 a (sai 0 sa0)) sl0 rfl) rfl)))) ss0)
    (@ssc _ _ _ _ _ _ _ _ (zIf (Dl (ag b.c233 a (@say _ _ _ _ _ _ _ (sV 3) sa0 rfl rfl)) sN) (ss1 (@zA _ _ _ _ _ _ _ 3 _ _ _ _ S.nd (bx (@sTx _ _ _ _ _ _ _ (by decide) (@slx _ _ _ _ _ _ _ (@ak _ _ _ _ _ _ _ _ _ (sV 3) sI (λ_ _=>rfl)) (@slx _ _ _ _ _ _ _ (ag b.c493 a (sai 0 (@say _ _ _ _ _ _ _ (sV 1) sa0 rfl rfl))) sl0 rfl) rfl)) (ag b.c176 a (@say _ _ _ _ _ _ _ (sV 3) sa0 rfl rfl))) rfl rfl rfl rfl rfl rfl)) ss0)
    (ss1 (ai (ag b.c334 a (@say _ _ _ _ _ _ _ (sV 3) (@say _ _ _ _ _ _ _ (ag b.c496 a (sai 0 (@say _ _ _ _ _ _ _ (sV 3) (@say _ _ _ _ _ _ _ (sM 1) (@say _ _ _ _ _ _ _ (sM 2) sa0 rfl rfl) rfl rfl) rfl rfl))) sa0 rfl rfl) rfl rfl))))))))))))
theorem Gg:af ["walk","blank","bound","depth","some","number","inner"] ["walk","blank","bound","depth"] (defScope x3):=fsc
theorem JG:DD "walk_parts" x3 ["walk","blank","bound","depth","some","number","inner"] bU:=λ{_ _ _ _ _ _ _ _ _ _ _ s _ _} c b T G a=>
 have S:=Gg
 (@ssc _ _ _ _ _ _ _ _ (@zA _ _ _ _ _ _ _ 4 _ _ _ _ S.nd (@sLx _ _ _ _ _ _ _ (by decide) sl0) rfl rfl rfl rfl rfl rfl)
    (@ssc _ _ _ _ _ _ _ _ (fA 5 S.nd (wW (hm:=T.range) (ha:=(dw (hm:=T.len) (ha:=(ag b.c176 a (@say _ _ _ _ _ _ _ (sV 1) sa0 rfl rfl)))))) (@ssc _ _ _ _ _ _ _ _ (@zA _ _ _ _ _ _ _ 6 _ _ _ _ S.nd (sIf (bP a (sV 5) (ag b.c233 a (@say _ _ _ _ _ _ _ (sV 1) sa0 rfl rfl))) (ye (sV 2) (@sTx _ _ _ _ _ _ _ (by decide) (@slx _ _ _ _ _ _ _ (@ak _ _ _ _ _ _ _ _ _ (sV 1) sI (fun _ _=>rfl)) sl0 rfl))) (sV 2)) rfl rfl rfl rfl rfl rfl)
     (ss1 (jH 4 (ag b.c495 a (sai 0 (@say _ _ _ _ _ _ _ (sV 6) (@say _ _ _ _ _ _ _ (bx (sV 3) sI) sa0 rfl rfl) rfl rfl)))))))
    (ss1 (ai (sM 4)))))
theorem HA:af ["word","fields"] ["word"] (defScope wV):=fsc
theorem KD:DD "blank_of" wV ["word","fields"] bF:=λ{_ _ _ _ _ _ _ _ _ _ _ s _ _} c b T G a=>
 have S:=HA
 (@ssc _ _ _ _ _ _ _ _ (zIf (Aw (sV 0) sN) (ss1 (ai sN)) ss0)
    (@ssc _ _ _ _ _ _ _ _ (zIf (tB (ag b.c226 a (@say _ _ _ _ _ _ _ (sV 0) sa0 rfl rfl))) (ss1 (ai (@sTx _ _ _ _ _ _ _ (by decide) (@slx _ _ _ _ _ _ _ sS (@slx _ _ _ _ _ _ _ (sM 0) sl0 rfl) rfl)))) ss0)
    (@ssc _ _ _ _ _ _ _ _ (zIf (bP a (sV 0) sS) (ss1 (ai (@sTx _ _ _ _ _ _ _ (by decide) (@slx _ _ _ _ _ _ _ sS (@slx _ _ _ _ _ _ _ (@sTx _ _ _ _ _ _ _ (by decide) (@slx _ _ _ _ _ _ _ sS sl0 rfl)) sl0 rfl) rfl)))) ss0)
    (@ssc _ _ _ _ _ _ _ _ (fA 1 S.nd (gf (JB G.BLANKS)) (ss1 (zIf (tB (ag b.c227 a (@say _ _ _ _ _ _ _ (bx (@sTx _ _ _ _ _ _ _ (by decide) (@slx _ _ _ _ _ _ _ (sV 0) sl0 rfl)) (sV 1)) sa0 rfl rfl))) (ss1 (ai (bx (@sTx _ _ _ _ _ _ _ (by decide) (@slx _ _ _ _ _ _ _ (sM 0) sl0 rfl)) (sM 1)))) ss0)))
    (ss1 (ai (ag b.c498 a (@say _ _ _ _ _ _ _ (sM 0) sa0 rfl rfl))))))))
theorem IV:af ["word","taken"] ["word"] (defScope xZ):=fsc
theorem JM:DD "number_piece" xZ ["word","taken"] bu:=λ{_ _ _ _ _ _ _ _ _ _ _ s _ _} c a T G b=>
 have S:=IV
 (@ssc _ _ _ _ _ _ _ _ (G0 (ss1 (@zA _ _ _ _ _ _ _ 1 _ _ _ _ S.nd (ag a.c164 b (@say _ _ _ _ _ _ _ (@sTx _ _ _ _ _ _ _ (by decide) (@slx _ _ _ _ _ _ _ sS sl0 rfl)) (@say _ _ _ _ _ _ _ (@sLx _ _ _ _ _ _ _ (by decide) (@slx _ _ _ _ _ _ _ (sV 0) sl0 rfl)) (@say _ _ _ _ _ _ _ sI sa0 rfl rfl) rfl rfl) rfl rfl)) rfl rfl rfl rfl rfl rfl)))
    (ss1 (ai (sIf (Bd (@ak _ _ _ _ _ _ _ _ _ (sV 1) sI (λ_ _=>rfl)) sI) (@sTx _ _ _ _ _ _ _ (by decide) (@slx _ _ _ _ _ _ _ sS (@slx _ _ _ _ _ _ _ (@ak _ _ _ _ _ _ _ _ _ (sV 1) sI (λ_ _=>rfl)) sl0 rfl) rfl)) sN))))
theorem FW:af ["cell","left","way"] ["cell","left"] (defScope xV):=fsc
theorem Kw:DD "_law_kind" xV ["cell","left","way"] aU:=λ{_ _ _ _ _ _ _ _ _ _ _ s _ _} c b T G a=>
 have S:=FW
 (@ssc _ _ _ _ _ _ _ _ (@zA _ _ _ _ _ _ _ 2 _ _ _ _ S.nd (fm (sV 0) sI) rfl rfl rfl rfl rfl rfl)
    (@ssc _ _ _ _ _ _ _ _ (zIf (tW (wOr (bP a (sV 1) sI) (wO1 (HL (sV 2) sI)))) (@ss1 _ _ _ _ _ _ (@ai _ _ _ _ _ _ _ _ (@ak _ _ _ _ _ _ _ _ _ (@sLx _ _ _ _ _ _ _ (by decide) (@slx _ _ _ _ _ _ _ (@sTx _ _ _ _ _ _ _ (by decide) (@slx _ _ _ _ _ _ _ sS sl0 rfl)) (@slx _ _ _ _ _ _ _ (@sTx _ _ _ _ _ _ _ (by decide) (@slx _ _ _ _ _ _ _ sS sl0 rfl)) sl0 rfl) rfl)) (fm (sM 0) sI) (λ_ _=>rfl)))) ss0)
    (@ssc _ _ _ _ _ _ _ _ (zIf (bP a (sV 2) sI) (ss1 (ai (@sTx _ _ _ _ _ _ _ (by decide) (@slx _ _ _ _ _ _ _ sS (@slx _ _ _ _ _ _ _ (ag b.c171 a (@say _ _ _ _ _ _ _ (gn (sV 0) sI) (@say _ _ _ _ _ _ _ (lX (sV 1) sI) sa0 rfl rfl) rfl rfl)) (@slx _ _ _ _ _ _ _ (ag b.c171 a (@say _ _ _ _ _ _ _ (gn (sV 0) sI) (@say _ _ _ _ _ _ _ (lX (sV 1) sI) sa0 rfl rfl) rfl rfl)) sl0 rfl) rfl) rfl)))) ss0)
    (ss1 (ai (@sTx _ _ _ _ _ _ _ (by decide) (@slx _ _ _ _ _ _ _ sS (@slx _ _ _ _ _ _ _ (ag b.c171 a (@say _ _ _ _ _ _ _ (gn (sM 0) sI) (@say _ _ _ _ _ _ _ (lX (sM 1) sI) sa0 rfl rfl) rfl rfl)) sl0 rfl) rfl)))))))
theorem HK:af ["cell","name","number","some"] ["cell"] (defScope vN):=fsc
theorem J2:DD "_law_leaf" vN ["cell","name","number","some"] cN:=λ{_ _ _ _ _ _ _ _ _ _ _ s _ _} c a T G b=>
 have S:=HK
 (@ssc _ _ _ _ _ _ _ _ (@zA _ _ _ _ _ _ _ 1 _ _ _ _ S.nd (@ak _ _ _ _ _ _ _ _ _ (@sLx _ _ _ _ _ _ _ (by decide) (@slx _ _ _ _ _ _ _ sS (@slx _ _ _ _ _ _ _ sS (@slx _ _ _ _ _ _ _ sS (@slx _ _ _ _ _ _ _ sS (@slx _ _ _ _ _ _ _ sS (@slx _ _ _ _ _ _ _ sS (@slx _ _ _ _ _ _ _ sS (@slx _ _ _ _ _ _ _ sS (@slx _ _ _ _ _ _ _ sS (@slx _ _ _ _ _ _ _ sS sl0 rfl) rfl) rfl) rfl) rfl) rfl) rfl) rfl) rfl) rfl)) (fm (gn (sV 0) sI) sI) (λ_ _=>rfl)) rfl rfl rfl rfl rfl rfl)
    (@ssc _ _ _ _ _ _ _ _ (@zA _ _ _ _ _ _ _ 2 _ _ _ _ S.nd (@ak _ _ _ _ _ _ _ _ _ (@sLx _ _ _ _ _ _ _ (by decide) (@slx _ _ _ _ _ _ _ sI (@slx _ _ _ _ _ _ _ sI (@slx _ _ _ _ _ _ _ (Ib sI sI) (@slx _ _ _ _ _ _ _ sI (@slx _ _ _ _ _ _ _ (fm (sV 0) (bx (Ib sI sI) sI)) sl0 rfl) rfl) rfl) rfl) rfl)) (fm (gn (sV 0) sI) sI) (λ_ _=>rfl)) rfl rfl rfl rfl rfl rfl)
    (@ssc _ _ _ _ _ _ _ _ (@zA _ _ _ _ _ _ _ 3 _ _ _ _ S.nd (@sLx _ _ _ _ _ _ _ (by decide) (@slx _ _ _ _ _ _ _ (@sTx _ _ _ _ _ _ _ (by decide) (@slx _ _ _ _ _ _ _ sS (@slx _ _ _ _ _ _ _ (sV 2) sl0 rfl) rfl)) (@slx _ _ _ _ _ _ _ (@sTx _ _ _ _ _ _ _ (by decide) (@slx _ _ _ _ _ _ _ sS sl0 rfl)) (@slx _ _ _ _ _ _ _ (@sTx _ _ _ _ _ _ _ (by decide) (@slx _ _ _ _ _ _ _ sS sl0 rfl)) (@slx _ _ _ _ _ _ _ (@sTx _ _ _ _ _ _ _ (by decide) (@slx _ _ _ _ _ _ _ sS (@slx _ _ _ _ _ _ _ (sV 1) sl0 rfl) rfl)) (@slx _ _ _ _ _ _ _ (@sTx _ _ _ _ _ _ _ (by decide) (@slx _ _ _ _ _ _ _ sS (@slx _ _ _ _ _ _ _ (ag a.c171 b (@say _ _ _ _ _ _ _ (gn (sV 0) sI) (@say _ _ _ _ _ _ _ sI sa0 rfl rfl) rfl rfl)) sl0 rfl) rfl)) sl0 rfl) rfl) rfl) rfl) rfl)) rfl rfl rfl rfl rfl rfl)
    (@ss1 _ _ _ _ _ _ (@ai _ _ _ _ _ _ _ _ (@ak _ _ _ _ _ _ _ _ _ (sM 3) (fm (sM 0) sI) (λ_ _=>rfl)))))))
theorem Jp:af ["cells","left","cell","some","at","many","made","k"] ["cells","left"] (defScope vd):=fsc
theorem Lg:DD "_law_tree" vd ["cells","left","cell","some","at","many","made","k"] f_law_tree:=λ{_ _ _ _ _ _ _ _ _ _ _ s _ _} c b T G a=>
 have S:=Jp
 (@ssc _ _ _ _ _ _ _ _ (@zA _ _ _ _ _ _ _ 2 _ _ _ _ S.nd (sIf (ni (FR 0 T.len) sI) (Hh 0) sI) rfl rfl rfl rfl rfl rfl)
    (@ssc _ _ _ _ _ _ _ _ (zIf (tW (wOr (bP a (sV 1) sI) (wO1 (bP a (fm (sV 2) sI) sI)))) (ss1 (ai (ag b.c499 a (@say _ _ _ _ _ _ _ (gn (sM 2) sI) sa0 rfl rfl)))) ss0)
    (@ssc _ _ _ _ _ _ _ _ (@zA _ _ _ _ _ _ _ 3 _ _ _ _ S.nd (@sLx _ _ _ _ _ _ _ (by decide) (@slx _ _ _ _ _ _ _ sS (@slx _ _ _ _ _ _ _ sS (@slx _ _ _ _ _ _ _ sS (@slx _ _ _ _ _ _ _ sS (@slx _ _ _ _ _ _ _ sS (@slx _ _ _ _ _ _ _ sS (@slx _ _ _ _ _ _ _ sS (@slx _ _ _ _ _ _ _ sS (@slx _ _ _ _ _ _ _ sS (@slx _ _ _ _ _ _ _ sS (@slx _ _ _ _ _ _ _ sS (@slx _ _ _ _ _ _ _ sS (@slx _ _ _ _ _ _ _ sS (@slx _ _ _ _ _ _ _ sS sl0 rfl) rfl) rfl) rfl) rfl) rfl) rfl) rfl) rfl) rfl) rfl) rfl) rfl) rfl)) rfl rfl rfl rfl rfl rfl)
    (@ssc _ _ _ _ _ _ _ _ (@zA _ _ _ _ _ _ _ 3 _ _ _ _ S.nd (bx (sV 3) (@sLx _ _ _ _ _ _ _ (by decide) (@slx _ _ _ _ _ _ _ sS (@slx _ _ _ _ _ _ _ sS (@slx _ _ _ _ _ _ _ sS (@slx _ _ _ _ _ _ _ sS (@slx _ _ _ _ _ _ _ sS (@slx _ _ _ _ _ _ _ sS (@slx _ _ _ _ _ _ _ sS (@slx _ _ _ _ _ _ _ sS (@slx _ _ _ _ _ _ _ sS (@slx _ _ _ _ _ _ _ sS (@slx _ _ _ _ _ _ _ sS (@slx _ _ _ _ _ _ _ sS (@slx _ _ _ _ _ _ _ sS sl0 rfl) rfl) rfl) rfl) rfl) rfl) rfl) rfl) rfl) rfl) rfl) rfl) rfl))) rfl rfl rfl rfl rfl rfl)
    (@ssc _ _ _ _ _ _ _ _ (@zA _ _ _ _ _ _ _ 4 _ _ _ _ S.nd (fm (gn (sV 2) sI) sI) rfl rfl rfl rfl rfl rfl)
    (@ssc _ _ _ _ _ _ _ _ (@zA _ _ _ _ _ _ _ 5 _ _ _ _ S.nd (bx (bx sI (AX (hm:=T.int) (ha:=(sGt (sV 4) sI)))) (AX (hm:=T.int) (ha:=(vR (@ak _ _ _ _ _ _ _ _ _ (sV 3) (sV 4) (λ_ _=>rfl)) (@sTx _ _ _ _ _ _ _ (by decide) (@slx _ _ _ _ _ _ _ sS (@slx _ _ _ _ _ _ _ sS sl0 rfl) rfl)))))) rfl rfl rfl rfl rfl rfl)
    (@ssc _ _ _ _ _ _ _ _ (@zA _ _ _ _ _ _ _ 6 _ _ _ _ S.nd (@sTx _ _ _ _ _ _ _ (by decide) (@slx _ _ _ _ _ _ _ (@ak _ _ _ _ _ _ _ _ _ (sV 3) (sV 4) (λ_ _=>rfl)) sl0 rfl)) rfl rfl rfl rfl rfl rfl)
    (@ssc _ _ _ _ _ _ _ _ (zIf (eU (@ak _ _ _ _ _ _ _ _ _ (sV 3) (sV 4) (λ_ _=>rfl)) (@sTx _ _ _ _ _ _ _ (by decide) (@slx _ _ _ _ _ _ _ sS (@slx _ _ _ _ _ _ _ sS (@slx _ _ _ _ _ _ _ sS sl0 rfl) rfl) rfl))) (ss1 (@zA _ _ _ _ _ _ _ 6 _ _ _ _ S.nd (bx (sV 6) (@sTx _ _ _ _ _ _ _ (by decide) (@slx _ _ _ _ _ _ _ (@ak _ _ _ _ _ _ _ _ _ (@sLx _ _ _ _ _ _ _ (by decide) (@slx _ _ _ _ _ _ _ sS (@slx _ _ _ _ _ _ _ sS (@slx _ _ _ _ _ _ _ sS (@slx _ _ _ _ _ _ _ sS (@slx _ _ _ _ _ _ _ sS sl0 rfl) rfl) rfl) rfl) rfl)) (fm (gn (sV 2) sI) sI) (λ_ _=>rfl)) sl0 rfl))) rfl rfl rfl rfl rfl rfl)) ss0)
    (@ssc _ _ _ _ _ _ _ _ (fA 7 S.nd (wW (hm:=T.range) (ha:=(sV 5))) (ss1 (@zA _ _ _ _ _ _ _ 6 _ _ _ _ S.nd (bx (sV 6) (@sTx _ _ _ _ _ _ _ (by decide) (@slx _ _ _ _ _ _ _ (ag b.c500 a (sai 0 (@say _ _ _ _ _ _ _ (lX (sV 1) sI) sa0 rfl rfl))) sl0 rfl))) rfl rfl rfl rfl rfl rfl)))
    (ss1 (ai (sM 6))))))))))))
theorem Hx:af ["tree","outer","k","start","made","inner","at","last"] ["tree","outer","k"] (defScope se):=fsc
theorem JY:DD "_law_cleared" se ["tree","outer","k","start","made","inner","at","last"] aJ:=λ{_ _ _ _ _ _ _ _ _ _ _ s _ _} c b T G a=>
 have S:=Hx
 (@ssc _ _ _ _ _ _ _ _ (zIf (eU (@ak _ _ _ _ _ _ _ _ _ (sV 0) sI (λ_ _=>rfl)) (@sTx _ _ _ _ _ _ _ (by decide) (@slx _ _ _ _ _ _ _ sS (@slx _ _ _ _ _ _ _ sS (@slx _ _ _ _ _ _ _ sS sl0 rfl) rfl) rfl))) (ss1 (ai (sM 0))) ss0)
    (@ssc _ _ _ _ _ _ _ _ (@zA _ _ _ _ _ _ _ 3 _ _ _ _ S.nd (bx sI (AX (hm:=T.int) (ha:=(vR (@ak _ _ _ _ _ _ _ _ _ (sV 0) sI (λ_ _=>rfl)) (@sTx _ _ _ _ _ _ _ (by decide) (@slx _ _ _ _ _ _ _ sS (@slx _ _ _ _ _ _ _ sS (@slx _ _ _ _ _ _ _ sS sl0 rfl) rfl) rfl)))))) rfl rfl rfl rfl rfl rfl)
    (@ssc _ _ _ _ _ _ _ _ (@zA _ _ _ _ _ _ _ 4 _ _ _ _ S.nd (zP (sV 0) (sV 3)) rfl rfl rfl rfl rfl rfl)
    (@ssc _ _ _ _ _ _ _ _ (@zA _ _ _ _ _ _ _ 5 _ _ _ _ S.nd (sV 1) rfl rfl rfl rfl rfl rfl)
    (@ssc _ _ _ _ _ _ _ _ (zIf (tW (vT (bP a (sV 3) sI) (wA1 (eU (@ak _ _ _ _ _ _ _ _ _ (sV 0) sI (λ_ _=>rfl)) (sV 1))))) (ss1 (@zA _ _ _ _ _ _ _ 4 _ _ _ _ S.nd (@sTx _ _ _ _ _ _ _ (by decide) (@slx _ _ _ _ _ _ _ (@ak _ _ _ _ _ _ _ _ _ (sV 0) sI (λ_ _=>rfl)) (@slx _ _ _ _ _ _ _ (bx sS (@ak _ _ _ _ _ _ _ _ _ sS (fm (sV 2) sI) (λ_ _=>rfl))) sl0 rfl) rfl)) rfl rfl rfl rfl rfl rfl)) ss0)
    (@ssc _ _ _ _ _ _ _ _ (zIf (bP a (sV 3) sI) (ss1 (@zA _ _ _ _ _ _ _ 5 _ _ _ _ S.nd (bx (sV 1) (@sLx _ _ _ _ _ _ _ (by decide) (@slx _ _ _ _ _ _ _ (@ak _ _ _ _ _ _ _ _ _ (sV 4) sI (λ_ _=>rfl)) sl0 rfl))) rfl rfl rfl rfl rfl rfl)) ss0)
    (@ssc _ _ _ _ _ _ _ _ (fA 6 S.nd (DM (hm:=T.range) (ha:=(sV 3)) (hb:=(dw (hm:=T.len) (ha:=(sV 0))))) (@ssc _ _ _ _ _ _ _ _ (@zA _ _ _ _ _ _ _ 7 _ _ _ _ S.nd (sBW (C0 (sEq a (sV 3) sI) (vA1 (sEq a (sV 6) (lX (dw (hm:=T.len) (ha:=(sV 0))) sI))))) rfl rfl rfl rfl rfl rfl)
     (ss1 (@zA _ _ _ _ _ _ _ 4 _ _ _ _ S.nd (bx (sV 4) (@sTx _ _ _ _ _ _ _ (by decide) (@slx _ _ _ _ _ _ _ (ag b.c501 a (@say _ _ _ _ _ _ _ (@ak _ _ _ _ _ _ _ _ _ (sV 0) (sV 6) (λ_ _=>rfl)) (@say _ _ _ _ _ _ _ (sIf (tB (sV 7)) (sV 5) (sV 1)) (@say _ _ _ _ _ _ _ (bx (sV 2) sI) sa0 rfl rfl) rfl rfl) rfl rfl)) sl0 rfl))) rfl rfl rfl rfl rfl rfl))))
    (ss1 (ai (sM 4))))))))))
theorem Gj:af ["script","cell","some","found","k","at"] ["script"] (defScope vJ):=fsc
theorem KS:DD "_law_heads" vJ ["script","cell","some","found","k","at"] cA:=λ{_ _ _ _ _ _ _ _ _ _ _ s _ _} c a T G b=>
 have S:=Gj
 (@ssc _ _ _ _ _ _ _ _ (@zA _ _ _ _ _ _ _ 1 _ _ _ _ S.nd (sIf (ni (dw (hm:=T.len) (ha:=(sV 0))) sI) (@ak _ _ _ _ _ _ _ _ _ (sV 0) sI (λ_ _=>rfl)) sI) rfl rfl rfl rfl rfl rfl)
    (@ssc _ _ _ _ _ _ _ _ (@zA _ _ _ _ _ _ _ 2 _ _ _ _ S.nd (@sLx _ _ _ _ _ _ _ (by decide) (@slx _ _ _ _ _ _ _ sS (@slx _ _ _ _ _ _ _ sS (@slx _ _ _ _ _ _ _ sS (@slx _ _ _ _ _ _ _ sS (@slx _ _ _ _ _ _ _ sS (@slx _ _ _ _ _ _ _ sS (@slx _ _ _ _ _ _ _ sS (@slx _ _ _ _ _ _ _ sS (@slx _ _ _ _ _ _ _ sS (@slx _ _ _ _ _ _ _ sS (@slx _ _ _ _ _ _ _ sS sl0 rfl) rfl) rfl) rfl) rfl) rfl) rfl) rfl) rfl) rfl) rfl)) rfl rfl rfl rfl rfl rfl)
    (@ssc _ _ _ _ _ _ _ _ (@zA _ _ _ _ _ _ _ 3 _ _ _ _ S.nd (@sLx _ _ _ _ _ _ _ (by decide) sl0) rfl rfl rfl rfl rfl rfl)
    (@ssc _ _ _ _ _ _ _ _ (fA 4 S.nd (wW (hm:=T.range) (ha:=(fm (sV 1) sI))) (@ssc _ _ _ _ _ _ _ _ (@zA _ _ _ _ _ _ _ 5 _ _ _ _ S.nd (fm (bx (fm (gn (sV 1) sI) sI) (K0 (sV 4) (bx sI (fm (gn (sV 1) sI) sI)))) sI) rfl rfl rfl rfl rfl rfl)
     (ss1 (jH 3 (@sTx _ _ _ _ _ _ _ (by decide) (@slx _ _ _ _ _ _ _ (@ak _ _ _ _ _ _ _ _ _ (sV 2) (sV 5) (λ_ _=>rfl)) (@slx _ _ _ _ _ _ _ (ag a.c171 b (@say _ _ _ _ _ _ _ (gn (sV 1) (bx sI (sV 4))) (@say _ _ _ _ _ _ _ sI sa0 rfl rfl) rfl rfl)) sl0 rfl) rfl))))))
    (ss1 (ai (iN (hm:=T.tup) (ha:=(sM 3)))))))))
theorem Gf:af ["kind","words","part"] ["kind"] (defScope rJ):=fsc
theorem JL:DD "_law_kind_words" rJ ["kind","words","part"] ax:=λ{_ _ _ _ _ _ _ _ _ _ _ s _ _} c a T G b=>
 have S:=Gf
 (@ssc _ _ _ _ _ _ _ _ (@zA _ _ _ _ _ _ _ 1 _ _ _ _ S.nd (@sLx _ _ _ _ _ _ _ (by decide) (@slx _ _ _ _ _ _ _ (@ak _ _ _ _ _ _ _ _ _ (sV 0) sI (λ_ _=>rfl)) sl0 rfl)) rfl rfl rfl rfl rfl rfl)
    (@ssc _ _ _ _ _ _ _ _ (fA 2 S.nd (gf (q8 (sV 0) sI)) (ss1 (FZ 1 (ag a.c503 b (@say _ _ _ _ _ _ _ (sV 2) sa0 rfl rfl)))))
    (ss1 (ai (sM 1)))))
theorem Ih:af ["tree","start","words","part"] ["tree"] (defScope x6):=fsc
theorem K8:DD "_law_words" x6 ["tree","start","words","part"] aS:=λ{_ _ _ _ _ _ _ _ _ _ _ s _ _} c b T G a=>
 have S:=Ih
 (@ssc _ _ _ _ _ _ _ _ (zIf (eU (@ak _ _ _ _ _ _ _ _ _ (sV 0) sI (λ_ _=>rfl)) (@sTx _ _ _ _ _ _ _ (by decide) (@slx _ _ _ _ _ _ _ sS (@slx _ _ _ _ _ _ _ sS sl0 rfl) rfl))) (ss1 (ai (@sLx _ _ _ _ _ _ _ (by decide) (@slx _ _ _ _ _ _ _ (Ie (hm:=T.str) (ha:=(@ak _ _ _ _ _ _ _ _ _ (sM 0) sI (λ_ _=>rfl)))) sl0 rfl)))) ss0)
    (@ssc _ _ _ _ _ _ _ _ (zIf (bP a (@ak _ _ _ _ _ _ _ _ _ (sV 0) sI (λ_ _=>rfl)) sS) (ss1 (ai (bx (@sLx _ _ _ _ _ _ _ (by decide) (@slx _ _ _ _ _ _ _ sS sl0 rfl)) (ag b.c503 a (@say _ _ _ _ _ _ _ (@ak _ _ _ _ _ _ _ _ _ (sM 0) sI (λ_ _=>rfl)) sa0 rfl rfl))))) ss0)
    (@ssc _ _ _ _ _ _ _ _ (@zA _ _ _ _ _ _ _ 1 _ _ _ _ S.nd (bx sI (AX (hm:=T.int) (ha:=(vR (@ak _ _ _ _ _ _ _ _ _ (sV 0) sI (λ_ _=>rfl)) (@sTx _ _ _ _ _ _ _ (by decide) (@slx _ _ _ _ _ _ _ sS (@slx _ _ _ _ _ _ _ sS (@slx _ _ _ _ _ _ _ sS sl0 rfl) rfl) rfl)))))) rfl rfl rfl rfl rfl rfl)
    (@ssc _ _ _ _ _ _ _ _ (@zA _ _ _ _ _ _ _ 2 _ _ _ _ S.nd (BV (hm:=T.list) (ha:=(zP (sV 0) (sV 1)))) rfl rfl rfl rfl rfl rfl)
    (@ssc _ _ _ _ _ _ _ _ (fA 3 S.nd (gf (q8 (sV 0) (sV 1))) (ss1 (FZ 2 (ag b.c504 a (@say _ _ _ _ _ _ _ (sV 3) sa0 rfl rfl)))))
    (ss1 (ai (sM 2))))))))
theorem S0:af ["script","heads","tree","words","name","kind","text","k","told"] ["script"] (defScope s0):=fsc
theorem D0:DD "law" s0 ["script","heads","tree","words","name","kind","text","k","told"] f_law:=λ{_ _ _ _ _ _ _ _ _ _ _ s _ _} c b T G a=>
 have S:=S0
 (@ssc _ _ _ _ _ _ _ _ (@zA _ _ _ _ _ _ _ 1 _ _ _ _ S.nd (ag b.c502 a (@say _ _ _ _ _ _ _ (sV 0) sa0 rfl rfl)) rfl rfl rfl rfl rfl rfl)
    (@ssc _ _ _ _ _ _ _ _ (@zA _ _ _ _ _ _ _ 2 _ _ _ _ S.nd (ag b.c501 a (@say _ _ _ _ _ _ _ (ag b.c500 a (@say _ _ _ _ _ _ _ (BV (hm:=T.list) (ha:=(zP (sV 0) sI))) (@say _ _ _ _ _ _ _ sI sa0 rfl rfl) rfl rfl)) (@say _ _ _ _ _ _ _ (sC1 [] [] [] [] (gf (sV 1)) (λ_ _ _ _=>(@ak _ _ _ _ _ _ _ _ _ (sV 0) sI (λ_ _=>rfl))) csc .nil .nil) (@say _ _ _ _ _ _ _ sI sa0 rfl rfl) rfl rfl) rfl rfl)) rfl rfl rfl rfl rfl rfl)
    (@ssc _ _ _ _ _ _ _ _ (@zA _ _ _ _ _ _ _ 3 _ _ _ _ S.nd (@sLx _ _ _ _ _ _ _ (by decide) sl0) rfl rfl rfl rfl rfl rfl)
    (@ssc _ _ _ _ _ _ _ _ (pf 4 5 S.nd (tK (sV 1)) (ss1 (@zA _ _ _ _ _ _ _ 3 _ _ _ _ S.nd (bx (bx (sV 3) (@sLx _ _ _ _ _ _ _ (by decide) (@slx _ _ _ _ _ _ _ (sV 4) sl0 rfl))) (ag b.c503 a (@say _ _ _ _ _ _ _ (sV 5) sa0 rfl rfl))) rfl rfl rfl rfl rfl rfl)))
    (@ssc _ _ _ _ _ _ _ _ (@zA _ _ _ _ _ _ _ 6 _ _ _ _ S.nd (jc sS (bx (bx (sV 3) (@sLx _ _ _ _ _ _ _ (by decide) (@slx _ _ _ _ _ _ _ sS sl0 rfl))) (ag b.c504 a (@say _ _ _ _ _ _ _ (sV 2) sa0 rfl rfl)))) rfl rfl rfl rfl rfl rfl)
    (@ssc _ _ _ _ _ _ _ _ (zIf (tW (wOr (xS (ag b.c507 a (@say _ _ _ _ _ _ _ (@sTx _ _ _ _ _ _ _ (by decide) (@slx _ _ _ _ _ _ _ (sV 1) (@slx _ _ _ _ _ _ _ (sV 2) sl0 rfl) rfl)) sa0 rfl rfl)) sO) (wO1 (kG a (ag b.c489 a (@say _ _ _ _ _ _ _ (@sTx _ _ _ _ _ _ _ (by decide) (@slx _ _ _ _ _ _ _ (sV 1) (@slx _ _ _ _ _ _ _ (sV 2) sl0 rfl) rfl)) sa0 rfl rfl)) (sV 6))))) (ss1 (ai sO)) ss0)
    (@ssc _ _ _ _ _ _ _ _ (fA 7 S.nd (wW (hm:=T.range) (ha:=sI)) (@ssc _ _ _ _ _ _ _ _ (@zA _ _ _ _ _ _ _ 8 _ _ _ _ S.nd (ag b.c510 a (@say _ _ _ _ _ _ _ (sV 6) sa0 rfl rfl)) rfl rfl rfl rfl rfl rfl)
     (ss1 (zIf (tW (wOr (kG a (sV 8) (@sTx _ _ _ _ _ _ _ (by decide) (@slx _ _ _ _ _ _ _ (sV 1) (@slx _ _ _ _ _ _ _ (sV 2) sl0 rfl) rfl))) (wOr (xS (ag b.c507 a (@say _ _ _ _ _ _ _ (sV 8) sa0 rfl rfl)) sO) (wO1 (kG a (ag b.c489 a (@say _ _ _ _ _ _ _ (sV 8) sa0 rfl rfl)) (sV 6)))))) (ss1 (ai sO)) ss0))))
    (ss1 (ai sO)))))))))
theorem GN:af ["self"] ["self"] (defScope mB):=fsc
theorem Ks:DD "Walk.seen" mB ["self"] fL:=λ{_ _ _ _ _ _ _ _ _ _ _ s _ _} c a T G b=>
 have S:=GN
 (ss1<|ai<|sIf (HL (fE 0)<|dw (hm:=T.len) (ha:=(fE 0))) (@ak _ _ _ _ _ _ _ _ _ (fE 0) (fE 0) λ_ _=>rfl) sN)
theorem GB:af ["self"] ["self"] (defScope kZ):=fsc
theorem La:DD "Walk.go_on" kZ ["self"] fz:=λ{_ _ _ _ _ _ _ _ _ _ _ s _ _} c a T G b=>
 have S:=GB
 (ss1<|vf 0<|bx (fE 0) sI)
end A12

namespace A12
open PySem PySem.Spec PyProof.Rows L2 L3 MR
abbrev Cl (n:O):M.Call:=M.callR prog 1000000 1000001 n
section
variable {P:Ro}{w:LA}{K:Ly}{mg:Str->L B}{base:Rx}
theorem all (d215:Df K mg "is_kind" wD ["thing"])(d216:Df K mg "is_kind_within" tX ["thing","depth"])(d364:Df K mg "kind_text" yg ["kind"])(d366:Df K mg "take_kind" wj ["words","at"])(d367:Df K mg "take_kind_within" vn ["words","at","depth"])(d2:Df K mg "is_worth" s2 ["kind","thing"])(d3:Df K mg "is_number" s3 ["thing"])(d162:Df K mg "worth_text" tP ["worth"])(d164:Df K mg "take_worth" vb ["kind","words","at"])(d165:Df K mg "number_of" uG ["word"])(d226:Df K mg "is_name" su ["thing"])(d227:Df K mg "is_tree" tH ["thing"])(d228:Df K mg "may_stand_ahead" tU ["what","thing"])(d175:Df K mg "parts_start" wO ["sign"])(d176:Df K mg "parts" vI ["tree"])(d334:Df K mg "with_parts" t9 ["tree","some"])(d233:Df K mg "binding" xB ["tree"])(d253:Df K mg "places" tG ["tree"])(d254:Df K mg "add_places" wG ["tree","place","told"])(d507:Df K mg "is_program" rZ ["thing"])(d508:Df K mg "are_heads" xH ["thing"])(d241:Df K mg "is_head" vo ["thing"])(d509:Df K mg "names_of" tV ["heads"])(d243:Df K mg "binds_well" vq ["tree","bound"])(d489:Df K mg "program_text" vG ["program"])(d490:Df K mg "tree_text" xu ["tree"])(d510:Df K mg "read_program" xW ["text"])(d511:Df K mg "walk_heads" r6 ["walk"])(d493:Df K mg "walk_name" t8 ["walk","bound"])(d494:Df K mg "walk_kind" sv ["walk"])(d495:Df K mg "walk_tree" xo ["walk","bound","depth"])(d496:Df K mg "walk_parts" x3 ["walk","blank","bound","depth"])(d497:Df K mg "blank_of" wV ["word"])(d498:Df K mg "number_piece" xZ ["word"])(d171:Df K mg "_law_kind" xV ["cell","left"])(d499:Df K mg "_law_leaf" vN ["cell"])(d500:Df K mg "_law_tree" vd ["cells","left"])(d501:Df K mg "_law_cleared" se ["tree","outer","k"])(d502:Df K mg "_law_heads" vJ ["script"])(d503:Df K mg "_law_kind_words" rJ ["kind"])(d504:Df K mg "_law_words" x6 ["tree"])  (T:Txt mg)(G:Glb K w mg)(d:Xs P w K mg base):∀n,Calls P w K mg base (n+2)<|Cl n
|0=>
 have m:aa P w K mg base (0+2) (Cl 0) "is_kind" 215 []:=d215.z;have o:aa P w K mg base (0+2) (Cl 0) "is_kind_within" 216 []:=d216.z;have N:aa P w K mg base (0+2) (Cl 0) "kind_text" 364 []:=d364.z;have Q:aa P w K mg base (0+2) (Cl 0) "take_kind" 366 []:=d366.z;have Z:aa P w K mg base (0+2) (Cl 0) "take_kind_within" 367 []:=d367.z;have c2:aa P w K mg base (0+2) (Cl 0) "is_worth" 2 []:=d2.z;have c3:aa P w K mg base (0+2) (Cl 0) "is_number" 3 []:=d3.z;have e:aa P w K mg base (0+2) (Cl 0) "worth_text" 162 []:=d162.z;have g:aa P w K mg base (0+2) (Cl 0) "take_worth" 164 []:=d164.z;have i:aa P w K mg base (0+2) (Cl 0) "number_of" 165 []:=d165.z;have p:aa P w K mg base (0+2) (Cl 0) "is_name" 226 []:=d226.z;have r:aa P w K mg base (0+2) (Cl 0) "is_tree" 227 []:=d227.z;have t:aa P w K mg base (0+2) (Cl 0) "may_stand_ahead" 228 []:=d228.z;have k:aa P w K mg base (0+2) (Cl 0) "parts_start" 175 []:=d175.z;have l:aa P w K mg base (0+2) (Cl 0) "parts" 176 []:=d176.z;have F:aa P w K mg base (0+2) (Cl 0) "with_parts" 334 []:=d334.z;have u:aa P w K mg base (0+2) (Cl 0) "binding" 233 []:=d233.z;have y:aa P w K mg base (0+2) (Cl 0) "places" 253 []:=d253.z;have D:aa P w K mg base (0+2) (Cl 0) "add_places" 254 [2]:=d254.z;have c507:aa P w K mg base (0+2) (Cl 0) "is_program" 507 []:=d507.z;have c508:aa P w K mg base (0+2) (Cl 0) "are_heads" 508 []:=d508.z;have v:aa P w K mg base (0+2) (Cl 0) "is_head" 241 []:=d241.z;have c509:aa P w K mg base (0+2) (Cl 0) "names_of" 509 []:=d509.z;have x:aa P w K mg base (0+2) (Cl 0) "binds_well" 243 []:=d243.z;have c489:aa P w K mg base (0+2) (Cl 0) "program_text" 489 []:=d489.z;have c490:aa P w K mg base (0+2) (Cl 0) "tree_text" 490 []:=d490.z;have c510:aa P w K mg base (0+2) (Cl 0) "read_program" 510 []:=d510.z;have c511:aa P w K mg base (0+2) (Cl 0) "walk_heads" 511 [0]:=d511.z;have c493:aa P w K mg base (0+2) (Cl 0) "walk_name" 493 [0]:=d493.z;have c494:aa P w K mg base (0+2) (Cl 0) "walk_kind" 494 [0]:=d494.z;have c495:aa P w K mg base (0+2) (Cl 0) "walk_tree" 495 [0]:=d495.z;have c496:aa P w K mg base (0+2) (Cl 0) "walk_parts" 496 [0]:=d496.z;have c497:aa P w K mg base (0+2) (Cl 0) "blank_of" 497 []:=d497.z;have c498:aa P w K mg base (0+2) (Cl 0) "number_piece" 498 []:=d498.z;have j:aa P w K mg base (0+2) (Cl 0) "_law_kind" 171 []:=d171.z;have c499:aa P w K mg base (0+2) (Cl 0) "_law_leaf" 499 []:=d499.z;have c500:aa P w K mg base (0+2) (Cl 0) "_law_tree" 500 [0]:=d500.z;have c501:aa P w K mg base (0+2) (Cl 0) "_law_cleared" 501 []:=d501.z;have c502:aa P w K mg base (0+2) (Cl 0) "_law_heads" 502 []:=d502.z;have c503:aa P w K mg base (0+2) (Cl 0) "_law_kind_words" 503 []:=d503.z;have c504:aa P w K mg base (0+2) (Cl 0) "_law_words" 504 []:=d504.z;have c505:dC P w K mg base (0+2) (Cl 0) ba "seen" 505 [0]:=d.d_seen.z;have c506:dC P w K mg base (0+2) (Cl 0) ba "go_on" 506 [0]:=d.d_go_on.z
 ⟨m,o,N,Q,Z,c2,c3,e,g,i,p,r,t,k,l,F,u,y,D,c507,c508,v,c509,x,c489,c490,c510,c511,c493,c494,c495,c496,c497,c498,j,c499,c500,c501,c502,c503,c504,c505,c506,λ_=>rfl,λ_=>rfl,λ_=>rfl,λ_=>rfl,λ_=>rfl⟩
|n+1=>
 have c:=all d215 d216 d364 d366 d367 d2 d3 d162 d164 d165 d226 d227 d228 d175 d176 d334 d233 d253 d254 d507 d508 d241 d509 d243 d489 d490 d510 d511 d493 d494 d495 d496 d497 d498 d171 d499 d500 d501 d502 d503 d504  T G d n;have m:aa P w K mg base ((n+1)+2) (Cl (n+1)) "is_kind" 215 []:=d215.s cJ HP (C:=Cl n) (by intro f b A a s H E h;exact@Lo P w K mg base n (Cl n) f b A a s H E d c T G h);have o:aa P w K mg base ((n+1)+2) (Cl (n+1)) "is_kind_within" 216 []:=d216.s aZ GC (C:=Cl n) (by intro f b A a s H E h;exact@Ld P w K mg base n (Cl n) f b A a s H E d c T G h);have N:aa P w K mg base ((n+1)+2) (Cl (n+1)) "kind_text" 364 []:=d364.s a7 FP (C:=Cl n) (by intro f b A a s H E h;exact@KR P w K mg base n (Cl n) f b A a s H E d c T G h);have Q:aa P w K mg base ((n+1)+2) (Cl (n+1)) "take_kind" 366 []:=d366.s cn GG (C:=Cl n) (by intro f b A a s H E h;exact@KI P w K mg base n (Cl n) f b A a s H E d c T G h);have Z:aa P w K mg base ((n+1)+2) (Cl (n+1)) "take_kind_within" 367 []:=d367.s av GI (C:=Cl n) (by intro f b A a s H E h;exact@JR P w K mg base n (Cl n) f b A a s H E d c T G h);have c2:aa P w K mg base ((n+1)+2) (Cl (n+1)) "is_worth" 2 []:=d2.s cR S2 (C:=Cl n) (by intro f b A a s H E h;exact@D2 P w K mg base n (Cl n) f b A a s H E d c T G h);have c3:aa P w K mg base ((n+1)+2) (Cl (n+1)) "is_number" 3 []:=d3.s bI S3 (C:=Cl n) (by intro f b A a s H E h;exact@D3 P w K mg base n (Cl n) f b A a s H E d c T G h);have e:aa P w K mg base ((n+1)+2) (Cl (n+1)) "worth_text" 162 []:=d162.s bK He (C:=Cl n) (by intro f b A a s H E h;exact@Kx P w K mg base n (Cl n) f b A a s H E d c T G h);have g:aa P w K mg base ((n+1)+2) (Cl (n+1)) "take_worth" 164 []:=d164.s bM GV (C:=Cl n) (by intro f b A a s H E h;exact@Kb P w K mg base n (Cl n) f b A a s H E d c T G h);have i:aa P w K mg base ((n+1)+2) (Cl (n+1)) "number_of" 165 []:=d165.s cq GX (C:=Cl n) (by intro f b A a s H E h;exact@JO P w K mg base n (Cl n) f b A a s H E d c T G h);have p:aa P w K mg base ((n+1)+2) (Cl (n+1)) "is_name" 226 []:=d226.s bz Gp (C:=Cl n) (by intro f b A a s H E h;exact@J0 P w K mg base n (Cl n) f b A a s H E d c T G h);have r:aa P w K mg base ((n+1)+2) (Cl (n+1)) "is_tree" 227 []:=d227.s aO Jn (C:=Cl n) (by intro f b A a s H E h;exact@Kp P w K mg base n (Cl n) f b A a s H E d c T G h);have t:aa P w K mg base ((n+1)+2) (Cl (n+1)) "may_stand_ahead" 228 []:=d228.s aB Im (C:=Cl n) (by intro f b A a s H E h;exact@Lp P w K mg base n (Cl n) f b A a s H E d c T G h);have k:aa P w K mg base ((n+1)+2) (Cl (n+1)) "parts_start" 175 []:=d175.s bg Ji (C:=Cl n) (by intro f b A a s H E h;exact@JI P w K mg base n (Cl n) f b A a s H E d c T G h);have l:aa P w K mg base ((n+1)+2) (Cl (n+1)) "parts" 176 []:=d176.s eD Ic (C:=Cl n) (by intro f b A a s H E h;exact@K7 P w K mg base n (Cl n) f b A a s H E d c T G h);have F:aa P w K mg base ((n+1)+2) (Cl (n+1)) "with_parts" 334 []:=d334.s bA F5 (C:=Cl n) (by intro f b A a s H E h;exact@Ke P w K mg base n (Cl n) f b A a s H E d c T G h);have u:aa P w K mg base ((n+1)+2) (Cl (n+1)) "binding" 233 []:=d233.s dq F7 (C:=Cl n) (by intro f b A a s H E h;exact@JQ P w K mg base n (Cl n) f b A a s H E d c T G h);have y:aa P w K mg base ((n+1)+2) (Cl (n+1)) "places" 253 []:=d253.s dU Hs (C:=Cl n) (by intro f b A a s H E h;exact@Lr P w K mg base n (Cl n) f b A a s H E d c T G h);have D:aa P w K mg base ((n+1)+2) (Cl (n+1)) "add_places" 254 [2]:=d254.s bW IM (C:=Cl n) (by intro f b A a s H E h;exact@Kl P w K mg base n (Cl n) f b A a s H E d c T G h);have c507:aa P w K mg base ((n+1)+2) (Cl (n+1)) "is_program" 507 []:=d507.s aP IG (C:=Cl n) (by intro f b A a s H E h;exact@KL P w K mg base n (Cl n) f b A a s H E d c T G h);have c508:aa P w K mg base ((n+1)+2) (Cl (n+1)) "are_heads" 508 []:=d508.s bH Ia (C:=Cl n) (by intro f b A a s H E h;exact@J8 P w K mg base n (Cl n) f b A a s H E d c T G h);have v:aa P w K mg base ((n+1)+2) (Cl (n+1)) "is_head" 241 []:=d241.s dn IL (C:=Cl n) (by intro f b A a s H E h;exact@JF P w K mg base n (Cl n) f b A a s H E d c T G h);have c509:aa P w K mg base ((n+1)+2) (Cl (n+1)) "names_of" 509 []:=d509.s b7 IA (C:=Cl n) (by intro f b A a s H E h;exact@Kh P w K mg base n (Cl n) f b A a s H E d c T G h);have x:aa P w K mg base ((n+1)+2) (Cl (n+1)) "binds_well" 243 []:=d243.s aI HM (C:=Cl n) (by intro f b A a s H E h;exact@J9 P w K mg base n (Cl n) f b A a s H E d c T G h);have c489:aa P w K mg base ((n+1)+2) (Cl (n+1)) "program_text" 489 []:=d489.s bw Ij (C:=Cl n) (by intro f b A a s H E h;exact@KA P w K mg base n (Cl n) f b A a s H E d c T G h);have c490:aa P w K mg base ((n+1)+2) (Cl (n+1)) "tree_text" 490 []:=d490.s aR Iy (C:=Cl n) (by intro f b A a s H E h;exact@K9 P w K mg base n (Cl n) f b A a s H E d c T G h);have c510:aa P w K mg base ((n+1)+2) (Cl (n+1)) "read_program" 510 []:=d510.s br Gu (C:=Cl n) (by intro f b A a s H E h;exact@K5 P w K mg base n (Cl n) f b A a s H E d c T G h);have c511:aa P w K mg base ((n+1)+2) (Cl (n+1)) "walk_heads" 511 [0]:=d511.s bN Jo (C:=Cl n) (by intro f b A a s H E h;exact@KQ P w K mg base n (Cl n) f b A a s H E d c T G h);have c493:aa P w K mg base ((n+1)+2) (Cl (n+1)) "walk_name" 493 [0]:=d493.s cw IJ (C:=Cl n) (by intro f b A a s H E h;exact@J5 P w K mg base n (Cl n) f b A a s H E d c T G h);have c494:aa P w K mg base ((n+1)+2) (Cl (n+1)) "walk_kind" 494 [0]:=d494.s cy FN (C:=Cl n) (by intro f b A a s H E h;exact@Ku P w K mg base n (Cl n) f b A a s H E d c T G h);have c495:aa P w K mg base ((n+1)+2) (Cl (n+1)) "walk_tree" 495 [0]:=d495.s aK HZ (C:=Cl n) (by intro f b A a s H E h;exact@Li P w K mg base n (Cl n) f b A a s H E d c T G h);have c496:aa P w K mg base ((n+1)+2) (Cl (n+1)) "walk_parts" 496 [0]:=d496.s bU Gg (C:=Cl n) (by intro f b A a s H E h;exact@JG P w K mg base n (Cl n) f b A a s H E d c T G h);have c497:aa P w K mg base ((n+1)+2) (Cl (n+1)) "blank_of" 497 []:=d497.s bF HA (C:=Cl n) (by intro f b A a s H E h;exact@KD P w K mg base n (Cl n) f b A a s H E d c T G h);have c498:aa P w K mg base ((n+1)+2) (Cl (n+1)) "number_piece" 498 []:=d498.s bu IV (C:=Cl n) (by intro f b A a s H E h;exact@JM P w K mg base n (Cl n) f b A a s H E d c T G h);have j:aa P w K mg base ((n+1)+2) (Cl (n+1)) "_law_kind" 171 []:=d171.s aU FW (C:=Cl n) (by intro f b A a s H E h;exact@Kw P w K mg base n (Cl n) f b A a s H E d c T G h);have c499:aa P w K mg base ((n+1)+2) (Cl (n+1)) "_law_leaf" 499 []:=d499.s cN HK (C:=Cl n) (by intro f b A a s H E h;exact@J2 P w K mg base n (Cl n) f b A a s H E d c T G h);have c500:aa P w K mg base ((n+1)+2) (Cl (n+1)) "_law_tree" 500 [0]:=d500.s f_law_tree Jp (C:=Cl n) (by intro f b A a s H E h;exact@Lg P w K mg base n (Cl n) f b A a s H E d c T G h);have c501:aa P w K mg base ((n+1)+2) (Cl (n+1)) "_law_cleared" 501 []:=d501.s aJ Hx (C:=Cl n) (by intro f b A a s H E h;exact@JY P w K mg base n (Cl n) f b A a s H E d c T G h);have c502:aa P w K mg base ((n+1)+2) (Cl (n+1)) "_law_heads" 502 []:=d502.s cA Gj (C:=Cl n) (by intro f b A a s H E h;exact@KS P w K mg base n (Cl n) f b A a s H E d c T G h);have c503:aa P w K mg base ((n+1)+2) (Cl (n+1)) "_law_kind_words" 503 []:=d503.s ax Gf (C:=Cl n) (by intro f b A a s H E h;exact@JL P w K mg base n (Cl n) f b A a s H E d c T G h);have c504:aa P w K mg base ((n+1)+2) (Cl (n+1)) "_law_words" 504 []:=d504.s aS Ih (C:=Cl n) (by intro f b A a s H E h;exact@K8 P w K mg base n (Cl n) f b A a s H E d c T G h);have c505:dC P w K mg base ((n+1)+2) (Cl (n+1)) ba "seen" 505 [0]:=d.d_seen.s fL GN (C:=Cl n) (by intro f b A a s H E h;exact@Ks P w K mg base n (Cl n) f b A a s H E d c T G h);have c506:dC P w K mg base ((n+1)+2) (Cl (n+1)) ba "go_on" 506 [0]:=d.d_go_on.s fz GB (C:=Cl n)<|by intro f b A a s H E h;exact@La P w K mg base n (Cl n) f b A a s H E d c T G h
 ⟨m,o,N,Q,Z,c2,c3,e,g,i,p,r,t,k,l,F,u,y,D,c507,c508,v,c509,x,c489,c490,c510,c511,c493,c494,c495,c496,c497,c498,j,c499,c500,c501,c502,c503,c504,c505,c506,λws=>M.zf_no _ ws,λws=>M.zf_no _ ws,λws=>M.zf_no _ ws,λws=>M.zf_no _ ws,λws=>M.zf_no _ ws⟩
end
theorem pure_law:∀a:U I,a.length<=63->∃m bs,Cl 40 0 [(.d,.scr a)]=.ok ((m,.bl Lw),bs):=λa _=>P12.pure_law a
theorem all_mk {l:Py}{w:LA}{K:Ly}{h:Rx}{a:Str->L B}{fa:Rj}(X:K.In h)(G:h.Ns LP a)(hfa:a "law"=Y (.ref fa))(r215:Raw K "is_kind" wD .none)(r216:Raw K "is_kind_within" tX .none)(r364:Raw K "kind_text" yg .none)(r366:Raw K "take_kind" wj .none)(r367:Raw K "take_kind_within" vn .none)(r2:Raw K "is_worth" s2 .none)(r3:Raw K "is_number" s3 .none)(r162:Raw K "worth_text" tP .none)(r164:Raw K "take_worth" vb .none)(r165:Raw K "number_of" uG .none)(r226:Raw K "is_name" su .none)(r227:Raw K "is_tree" tH .none)(r228:Raw K "may_stand_ahead" tU .none)(r175:Raw K "parts_start" wO .none)(r176:Raw K "parts" vI .none)(r334:Raw K "with_parts" t9 .none)(r233:Raw K "binding" xB .none)(r253:Raw K "places" tG .none)(r254:Raw K "add_places" wG .none)(r507:Raw K "is_program" rZ .none)(r508:Raw K "are_heads" xH .none)(r241:Raw K "is_head" vo .none)(r509:Raw K "names_of" tV .none)(r243:Raw K "binds_well" vq .none)(r489:Raw K "program_text" vG .none)(r490:Raw K "tree_text" xu .none)(r510:Raw K "read_program" xW .none)(r511:Raw K "walk_heads" r6 .none)(r493:Raw K "walk_name" t8 .none)(r494:Raw K "walk_kind" sv .none)(r495:Raw K "walk_tree" xo .none)(r496:Raw K "walk_parts" x3 .none)(r497:Raw K "blank_of" wV .none)(r498:Raw K "number_piece" xZ .none)(r171:Raw K "_law_kind" xV .none)(r499:Raw K "_law_leaf" vN .none)(r500:Raw K "_law_tree" vd .none)(r501:Raw K "_law_cleared" se .none)(r502:Raw K "_law_heads" vJ .none)(r503:Raw K "_law_kind_words" rJ .none)(r504:Raw K "_law_words" x6 .none)(r0:Raw K "law" s0 .none)(g0:∃t,MK K LP "DEEPEST_kinds"=Y (Y<|.int 5 t))(g1:∃t,MK K LP "DEEPEST_programs"=Y (Y<|.int 20 t))(g2:∃t,MK K LP "GREATEST"=Y (Y<|.int 1000000000000000000 t))(g3:∃t,MK K LP "LONGEST_NAME"=Y (Y<|.int 8 t))(g4:∃t,MK K LP "MOST_HEADS"=Y (Y<|.int 6 t))(g5:∃t,MK K LP "MOST_PIECES"=Y (Y<|.int 200 t))(h0:GlbR K "BLANKS"<|.tup [.tup [],.tup [.tup [.str<|q "yes"]],.tup [.tup [.str<|q "yes"],.tup [.str<|q "yes"]],.tup [.tup [.str<|q "yes"],.tup [.str<|q "yes"],.tup [.str<|q "yes"]],.tup [.str<|q "x",.tup [.str<|q "yes"],.tup [.str<|q "yes"]],.tup [.str<|q "x",.tup [.str<|q "yes"],.tup [.str<|q "yes"],.tup [.str<|q "yes"]]])(d:∃T,TabRaw K w "AHEAD" T/\T.map Nr=keys_AHEAD/\CstL K tab_AHEAD T)(c:∃T,TabRaw K w "BINDING" T/\CstL K tab_BINDING T)(e:∃T,TabRaw K w "PARTS" T/\T.map Nr=keys_PARTS/\CstL K tab_PARTS T)(b:∃T,TabRaw K w "WITHIN" T/\T.map Nr=keys_WITHIN/\CstL K tab_WITHIN T)(tx:Eb K ["isinstance","int","tuple","list","bool","sum","len","all","zip","range","enumerate","any","max","min","sorted","str","repr","abs","dict","set","reversed"])(xs:∀g,Xs l.prog w K a g):
  ∃fd:Mu,(∀(s:Lx) (v:B),Ni s fd ⟨[v],[]⟩ [("script",v)])/\∀g:Rx,K.In g->g.Ns LP a->dh l.prog w K a g CX0 42 fa fd ["script"] (spS K (Cl 40) 0 []):=by
 have H:Df K a "is_kind" wD ["thing"]:=ay X G r215 λ_ _ _ _ _ _=>u1 λ_=>rfl;have M:Df K a "is_kind_within" tX ["thing","depth"]:=ay X G r216 λ_ _ _ _ _ _=>u2 λ_ _=>rfl;have d364:Df K a "kind_text" yg ["kind"]:=ay X G r364 λ_ _ _ _ _ _=>u1 λ_=>rfl;have d366:Df K a "take_kind" wj ["words","at"]:=ay X G r366 λ_ _ _ _ _ _=>u2 λ_ _=>rfl;have d367:Df K a "take_kind_within" vn ["words","at","depth"]:=ay X G r367 λ_ _ _ _ _ _=>u3 λ_ _ _=>rfl;have d2:Df K a "is_worth" s2 ["kind","thing"]:=ay X G r2 λ_ _ _ _ _ _=>u2 λ_ _=>rfl;have d3:Df K a "is_number" s3 ["thing"]:=ay X G r3 λ_ _ _ _ _ _=>u1 λ_=>rfl;have r:Df K a "worth_text" tP ["worth"]:=ay X G r162 λ_ _ _ _ _ _=>u1 λ_=>rfl;have u:Df K a "take_worth" vb ["kind","words","at"]:=ay X G r164 λ_ _ _ _ _ _=>u3 λ_ _ _=>rfl;have x:Df K a "number_of" uG ["word"]:=ay X G r165 λ_ _ _ _ _ _=>u1 λ_=>rfl;have N:Df K a "is_name" su ["thing"]:=ay X G r226 λ_ _ _ _ _ _=>u1 λ_=>rfl;have P:Df K a "is_tree" tH ["thing"]:=ay X G r227 λ_ _ _ _ _ _=>u1 λ_=>rfl;have Q:Df K a "may_stand_ahead" tU ["what","thing"]:=ay X G r228 λ_ _ _ _ _ _=>u2 λ_ _=>rfl;have A:Df K a "parts_start" wO ["sign"]:=ay X G r175 λ_ _ _ _ _ _=>u1 λ_=>rfl;have D:Df K a "parts" vI ["tree"]:=ay X G r176 λ_ _ _ _ _ _=>u1 λ_=>rfl;have d334:Df K a "with_parts" t9 ["tree","some"]:=ay X G r334 λ_ _ _ _ _ _=>u2 λ_ _=>rfl;have Z:Df K a "binding" xB ["tree"]:=ay X G r233 λ_ _ _ _ _ _=>u1 λ_=>rfl;have d253:Df K a "places" tG ["tree"]:=ay X G r253 λ_ _ _ _ _ _=>u1 λ_=>rfl;have d254:Df K a "add_places" wG ["tree","place","told"]:=ay X G r254 λ_ _ _ _ _ _=>u3 λ_ _ _=>rfl;have d507:Df K a "is_program" rZ ["thing"]:=ay X G r507 λ_ _ _ _ _ _=>u1 λ_=>rfl;have d508:Df K a "are_heads" xH ["thing"]:=ay X G r508 λ_ _ _ _ _ _=>u1 λ_=>rfl;have d241:Df K a "is_head" vo ["thing"]:=ay X G r241 λ_ _ _ _ _ _=>u1 λ_=>rfl;have d509:Df K a "names_of" tV ["heads"]:=ay X G r509 λ_ _ _ _ _ _=>u1 λ_=>rfl;have d243:Df K a "binds_well" vq ["tree","bound"]:=ay X G r243 λ_ _ _ _ _ _=>u2 λ_ _=>rfl;have d489:Df K a "program_text" vG ["program"]:=ay X G r489 λ_ _ _ _ _ _=>u1 λ_=>rfl;have d490:Df K a "tree_text" xu ["tree"]:=ay X G r490 λ_ _ _ _ _ _=>u1 λ_=>rfl;have d510:Df K a "read_program" xW ["text"]:=ay X G r510 λ_ _ _ _ _ _=>u1 λ_=>rfl;have d511:Df K a "walk_heads" r6 ["walk"]:=ay X G r511 λ_ _ _ _ _ _=>u1 λ_=>rfl;have d493:Df K a "walk_name" t8 ["walk","bound"]:=ay X G r493 λ_ _ _ _ _ _=>u2 λ_ _=>rfl;have d494:Df K a "walk_kind" sv ["walk"]:=ay X G r494 λ_ _ _ _ _ _=>u1 λ_=>rfl;have d495:Df K a "walk_tree" xo ["walk","bound","depth"]:=ay X G r495 λ_ _ _ _ _ _=>u3 λ_ _ _=>rfl;have d496:Df K a "walk_parts" x3 ["walk","blank","bound","depth"]:=ay X G r496 λ_ _ _ _ _ _=>u4 λ_ _ _ _=>rfl;have d497:Df K a "blank_of" wV ["word"]:=ay X G r497 λ_ _ _ _ _ _=>u1 λ_=>rfl;have d498:Df K a "number_piece" xZ ["word"]:=ay X G r498 λ_ _ _ _ _ _=>u1 λ_=>rfl;have y:Df K a "_law_kind" xV ["cell","left"]:=ay X G r171 λ_ _ _ _ _ _=>u2 λ_ _=>rfl;have d499:Df K a "_law_leaf" vN ["cell"]:=ay X G r499 λ_ _ _ _ _ _=>u1 λ_=>rfl;have d500:Df K a "_law_tree" vd ["cells","left"]:=ay X G r500 λ_ _ _ _ _ _=>u2 λ_ _=>rfl;have d501:Df K a "_law_cleared" se ["tree","outer","k"]:=ay X G r501 λ_ _ _ _ _ _=>u3 λ_ _ _=>rfl;have d502:Df K a "_law_heads" vJ ["script"]:=ay X G r502 λ_ _ _ _ _ _=>u1 λ_=>rfl;have d503:Df K a "_law_kind_words" rJ ["kind"]:=ay X G r503 λ_ _ _ _ _ _=>u1 λ_=>rfl;have d504:Df K a "_law_words" x6 ["tree"]:=ay X G r504 λ_ _ _ _ _ _=>u1 λ_=>rfl;have T:=Dk X G tx;obtain⟨_,d,o,m⟩:=d;obtain⟨_,c,i⟩:=c;obtain⟨_,e,p,n⟩:=e;obtain⟨_,b,k,j⟩:=b;have Gm:Glb K w a:=⟨(let ⟨t,z⟩:=g0;⟨t,MM X G z⟩),(let ⟨t,z⟩:=g1;⟨t,MM X G z⟩),(let ⟨t,z⟩:=g2;⟨t,MM X G z⟩),(let ⟨t,z⟩:=g3;⟨t,MM X G z⟩),(let ⟨t,z⟩:=g4;⟨t,MM X G z⟩),(let ⟨t,z⟩:=g5;⟨t,MM X G z⟩),(Bu X G h0),(ki X G d o),(gL X G d m),(gL X G c i),(ki X G e p),(gL X G e n),(ki X G b k),(gL X G b j)⟩;exact zk X G hfa r0 (λ_ _ _ _ _ _ _ _=>.of_eq rfl) λf fd F g=>Fun.okM F S0 rfl (by decide) (by decide) (by decide) (λ_ _ _ _ _ _ h=>D0 (xs g) (all H M d364 d366 d367 d2 d3 r u x N P Q A D d334 Z d253 d254 d507 d508 d241 d509 d243 d489 d490 d510 d511 d493 d494 d495 d496 d497 d498 y d499 d500 d501 d502 d503 d504  T Gm (xs g) 39) T Gm h) λ_=>rfl
end A12

namespace I12
open PySem PySem.Spec PyProof.Rows L2 L3 MR
noncomputable def top (i:O):Ry:=PySem.Challenge.pw_broadrow_k12_programs_written_and_read.main.body.getD i<|.Pass ⟨0,0,0,0⟩
abbrev ini (i j:O):Ry:=(jM<|top i).getD j<|.Pass ⟨0,0,0,0⟩
abbrev s_Walk:Ry:=ini 51 0
abbrev fs:U Str:=["words","at","spare"]
theorem Ej:af ["self","words"] ["self","words"] (defScope s_Walk):=fsc
theorem Kf (a:V):putF "spare" (.int 199) (putF "at" (.int 0)<|putF "words" a [])=fs.zip [a,.int 0,.int 199]:=by kernel_rfl
theorem ok_Walk {P:Ro}{w:LA}{K:Ly}{x:Str->L B}{d:Rx}{f:Rj}{r:Mu}{c k:O}(F:L2.Fun K "__init__" "Walk.__init__" s_Walk f r)(b:qp K c fs)(o:∃t,x "MOST_PIECES"=Y (.int 200 t)):
  dh P w K x d CX0 (k+1) f r ["self","words"] (spP c fs [0,199]):=by
 obtain⟨G,o⟩:=o;have len:∀m H Q E,spP c fs [0,199] m H Q E->m.length=(["self","words"]:U Str).length:=λm H Q E ⟨a,g,j,e,l,_⟩=>by rw[e,LG];have l:3=j.length+2:=l;show j.length+1=2;lia
 refine F.ok Ej len λy A p s H m Q E M h=>⟨_,iG (j6 (bR (i:=0) rfl (.inl rfl)) (bR (i:=1) rfl (.inl rfl)) rfl)<|iG (j6 (bR (i:=0) rfl (.inl rfl)) mJ rfl)<|oA<|j6 (bR (i:=0) rfl (.inl rfl)) (gc xk (gK (v:=.int 200) rfl o ⟨G,rfl⟩) mJ) rfl,?_⟩;obtain⟨a,g,j,rfl,l,z,q⟩:=h;obtain⟨y1,rfl⟩:∃y1,j=[y1]:=match j,l with|[_],_=>⟨_,rfl⟩
 have lt:∀{l:U (Str×V)} {n:O} {f:Str} {v:V},l.length<=n->(putF f v l).length<=n+1:=λh=>LL (eh _ _ _)<|PH h;have u:=lt (f:="words") (v:=y1) (LM 0) (l:=[]);have D:=lt (f:="at") (v:=.int 0) u;refine⟨y1,rfl,.ref a,rfl,a,c,g,[],rfl,z,b.1,b.2 _<|by simp,(by show 0<1000;decide),?_⟩;refine⟨.ref a,rfl,a,c,g,_,rfl,au,b.1,b.2 _<|by simp,N6 u<|by decide,?_⟩;refine⟨_,_,rfl,rfl,.ref a,rfl,a,c,g,_,rfl,au,b.1,b.2 _<|by simp,N6 D<|by decide,?_⟩;rw[j7,j7];show Q .non<|upd H a<|.ins c g<|putF "spare" (.int 199)<|putF "at" (.int 0)<|putF "words" y1 [];rw[Kf];exact q
end I12

set_option maxHeartbeats 0
namespace H12
open PySem PySem.W TP
noncomputable abbrev pr:Ro:=PySem.Challenge.pw_broadrow_k12_programs_written_and_read
def tn (i:O):Ry:=pr.main.body.getD i<|.Pass p0
def rc:U Rc:=[.m,
.x "BroadError" 206 (.ref 24) (λP=>[tu [.type "ValueError"],⟨.type "builtin_function_or_method",J,.fields #[.builtin "type.__prepare__",.type "type"],#[]⟩,di [en P "__module__" 196<|.str "broadrow.errors" 187,en P "__qualname__" 198<|.str "BroadError" 197,en P "__firstlineno__" 200<|.int (2) 199,en P "__static_attributes__" 201<|.ref 22] 4,tu [],fe [],cdo "BroadError" "BroadError" 191 194 2 0 0 18 Lv .none .none .none,⟨.type "frame",J,.plain,#[Y<|.ref 20,Y<|.ref 3,Y<|.ref 17,J,Y<|.str "broadrow.errors" 187,J,Y<|.ref 0]⟩,tu [],di [en P "__module__" 196<|.str "broadrow.errors" 187,en P "__firstlineno__" 200<|.int (2) 199,en P "__static_attributes__" 201<|.ref 22,en P "__weakref__" 203<|.ref 25,en P "__doc__" 204 .none] 3,⟨.type "type",J,.cls {name:="BroadError",bases:=[.type "ValueError"],mro:=[.ref 24,.type "ValueError",.type "Exception",.type "BaseException",.type "object"],ns:=23,qualname:="BroadError",subclasses:=[.ref 44]},#[Y<|.ref 15,J,Y<|.str "BroadError" 189,Y<|.str "BroadError" 197,Y<|.builtin "ValueError.__new__",Y<|.bool Lw]⟩,⟨.type "getset_descriptor",J,.fields #[.str "__weakref__" 202,.ref 24,.builtin "ExceptionGroup.__weakref__",.none],#[]⟩,⟨.type "super",J,.fields #[.ref 24,.ref 24,.ref 24],#[]⟩,⟨.type "builtin_function_or_method",J,.fields #[.builtin "object.__init_subclass__",.ref 24],#[]⟩]) [iv 2,iv 0,.ref 20] 28 207,
.x "NoText" 231 (.ref 44) (λP=>[tu [.ref 24],⟨.type "builtin_function_or_method",J,.fields #[.builtin "type.__prepare__",.type "type"],#[]⟩,di [en P "__module__" 214<|.str "broadrow.errors" 187,en P "__qualname__" 216<|.str "NoText" 215,en P "__firstlineno__" 218<|.int (4) 217,en P "__init__" 226<|.ref 41,en P "__static_attributes__" 228<|.ref 42] 5,tu [],fe [iv 6,iv 4,.ref 40],cdo "NoText" "NoText" 209 212 4 0 0 31 Lv .none .none .none,⟨.type "frame",J,.plain,#[Y<|.ref 33,Y<|.ref 3,Y<|.ref 30,J,Y<|.str "broadrow.errors" 187,J,Y<|.ref 0]⟩,tu [],fe [],tu [.str "self" 222,.str "at" 223],tu [],ofn .none (cb (tn 2) 0) "NoText.__init__" 0 .none .none .none,cdo "__init__" "NoText.__init__" 219 224 6 2 3 35 Lw (.ref 37) (.ref 38)<|.ref 39,ofn (.type "function") (cb (tn 2) 0) "NoText.__init__" 3 .none (.str "broadrow.errors" 187)<|.ref 40,tu [.str "at" 227],di [en P "__module__" 214<|.str "broadrow.errors" 187,en P "__firstlineno__" 218<|.int (4) 217,en P "__init__" 226<|.ref 41,en P "__static_attributes__" 228<|.ref 42,en P "__doc__" 229 .none] 2,⟨.type "type",J,.cls {name:="NoText",bases:=[.ref 24],mro:=[.ref 44,.ref 24,.type "ValueError",.type "Exception",.type "BaseException",.type "object"],ns:=43,qualname:="NoText"},#[Y<|.ref 28,J,Y<|.str "NoText" 207,Y<|.str "NoText" 215,Y<|.builtin "ValueError.__new__",Y<|.bool Lw]⟩,⟨.type "super",J,.fields #[.ref 44,.ref 44,.ref 44],#[]⟩,⟨.type "builtin_function_or_method",J,.fields #[.builtin "object.__init_subclass__",.ref 44],#[]⟩]) [iv 4,iv 0,.ref 33] 47 232,
.m,
.c,
.x "WITHIN" 248 (.ref 47) (λP=>[di [en P "num" 236<|.int (0) 237,en P "truth" 238<|.int (0) 239,en P "pair" 240<|.int (2) 241,en P "row" 242<|.int (1) 243] 4]) [] 48 249,
.d,
.d,
.d,
.d,
.d,
.m,
.c,
.c,
.d,
.d,
.d,
.d,
.d,
.d,
.d,
.d,
.d,
.d,
.d,
.m,
.x "PARTS" 486 (.ref 152) (λP=>[di [en P "num" 390<|.int (0) 391,en P "yes" 393<|.int (0) 394,en P "no" 396<|.int (0) 397,en P "name" 399<|.int (0) 400,en P "none" 402<|.int (0) 403,en P "not" 405<|.int (1) 406,en P "first" 408<|.int (1) 409,en P "second" 411<|.int (1) 412,en P "one" 414<|.int (1) 415,en P "upto" 417<|.int (1) 418,en P "long" 420<|.int (1) 421,en P "sum" 423<|.int (1) 424,en P "sums" 426<|.int (1) 427,en P "most" 429<|.int (1) 430,en P "flat" 432<|.int (1) 433,en P "add" 435<|.int (2) 436,en P "sub" 438<|.int (2) 439,en P "mul" 441<|.int (2) 442,en P "div" 443<|.int (2) 444,en P "rest" 445<|.int (2) 446,en P "less" 447<|.int (2) 448,en P "same" 449<|.int (2) 450,en P "both" 451<|.int (2) 452,en P "pair" 453<|.int (2) 454,en P "pick" 455<|.int (2) 456,en P "join" 457<|.int (2) 458,en P "keep" 459<|.int (2) 460,en P "cut" 461<|.int (2) 462,en P "let" 463<|.int (2) 464,en P "if" 465<|.int (3) 466,en P "each" 467<|.int (2) 468,en P "times" 469<|.int (3) 470] 32,di [en P "mul" 441<|.int (2) 442,en P "div" 443<|.int (2) 444,en P "rest" 445<|.int (2) 446,en P "less" 447<|.int (2) 448,en P "same" 449<|.int (2) 450,en P "both" 451<|.int (2) 452,en P "pair" 453<|.int (2) 454,en P "pick" 455<|.int (2) 456,en P "join" 457<|.int (2) 458,en P "keep" 459<|.int (2) 460,en P "cut" 461<|.int (2) 462,en P "let" 463<|.int (2) 464,en P "if" 465<|.int (3) 466,en P "each" 467<|.int (2) 468,en P "times" 469<|.int (3) 470] 15]) [] 154 487,
.x "AHEAD" 505 (.ref 154) (λP=>[di [en P "num" 487<|.str "number" 488,en P "name" 489<|.str "name" 490,en P "none" 491<|.str "kind" 492,en P "let" 493<|.str "name" 494,en P "each" 495<|.str "name" 496,en P "times" 497<|.str "name" 498] 6]) [] 155 506,
.x "BINDING" 515 (.ref 155) (λP=>[di [en P "let" 506<|.int (1) 507,en P "each" 508<|.int (1) 509,en P "times" 510<|.int (2) 511] 3]) [] 156 516,
.c,
.d,
.d,
.d,
.d,
.d,
.d,
.d,
.d,
.d,
.m,
.c,
.c,
.c,
.x "BLANKS" 607 (.ref 232) (λP=>[tu [],tu [.str "yes" 594],tu [.ref 216],tu [.str "yes" 595],tu [.str "yes" 596],tu [.ref 218,.ref 219],tu [.str "yes" 597],tu [.str "yes" 598],tu [.str "yes" 599],tu [.ref 221,.ref 222,.ref 223],tu [.str "yes" 601],tu [.str "yes" 602],tu [.str "x" 600,.ref 225,.ref 226],tu [.str "yes" 604],tu [.str "yes" 605],tu [.str "yes" 606],tu [.str "x" 603,.ref 228,.ref 229,.ref 230],tu [.ref 215,.ref 217,.ref 220,.ref 224,.ref 227,.ref 231]]) [] 233 608,
.d,
.d,
.d,
.d,
.d,
.d,
.d,
.x "Walk" 704 (.ref 304) (λP=>[tu [],⟨.type "builtin_function_or_method",J,.fields #[.builtin "type.__prepare__",.type "type"],#[]⟩,di [en P "__module__" 667<|.str "broadrow.programs" 586,en P "__qualname__" 669<|.str "Walk" 668,en P "__firstlineno__" 671<|.int (209) 670,en P "__init__" 679<|.ref 287,en P "seen" 686<|.ref 294,en P "go_on" 693<|.ref 301,en P "__static_attributes__" 697<|.ref 302] 7,tu [],fe [iv 211,iv 4,.ref 286,iv 216,iv 4,.ref 293,iv 219,iv 4,.ref 300],cdo "Walk" "Walk" 662 665 209 0 0 277 Lv .none .none .none,⟨.type "frame",J,.plain,#[Y<|.ref 279,Y<|.ref 3,Y<|.ref 276,J,Y<|.str "broadrow.programs" 586,J,Y<|.ref 0]⟩,tu [],fe [],tu [.str "self" 675,.str "words" 676],tu [],ofn .none (cb (tn 51) 0) "Walk.__init__" 0 .none .none .none,cdo "__init__" "Walk.__init__" 672 677 211 2 3 281 Lw (.ref 283) (.ref 284)<|.ref 285,ofn (.type "function") (cb (tn 51) 0) "Walk.__init__" 3 .none (.str "broadrow.programs" 586)<|.ref 286,tu [],fe [],tu [.str "self" 683],tu [],ofn .none (cb (tn 51) 1) "Walk.seen" 0 .none .none .none,cdo "seen" "Walk.seen" 680 684 216 1 3 288 Lw (.ref 290) (.ref 291)<|.ref 292,ofn (.type "function") (cb (tn 51) 1) "Walk.seen" 3 .none (.str "broadrow.programs" 586)<|.ref 293,tu [],fe [],tu [.str "self" 690],tu [],ofn .none (cb (tn 51) 2) "Walk.go_on" 0 .none .none .none,cdo "go_on" "Walk.go_on" 687 691 219 1 3 295 Lw (.ref 297) (.ref 298)<|.ref 299,ofn (.type "function") (cb (tn 51) 2) "Walk.go_on" 3 .none (.str "broadrow.programs" 586)<|.ref 300,tu [.str "at" 694,.str "spare" 695,.str "words" 696],di [en P "__module__" 667<|.str "broadrow.programs" 586,en P "__firstlineno__" 671<|.int (209) 670,en P "__init__" 679<|.ref 287,en P "seen" 686<|.ref 294,en P "go_on" 693<|.ref 301,en P "__static_attributes__" 697<|.ref 302,en P "__dict__" 699<|.ref 305,en P "__weakref__" 701<|.ref 306,en P "__doc__" 702 .none] 4,⟨.type "type",J,.cls {name:="Walk",bases:=[.type "object"],mro:=[.ref 304,.type "object"],ns:=303,qualname:="Walk"},#[J,J,Y<|.str "Walk" 660,Y<|.str "Walk" 668,Y<|.builtin "object.__new__",Y<|.bool Lw]⟩,⟨.type "getset_descriptor",J,.fields #[.str "__dict__" 698,.ref 304,.builtin "function.__dict__",.builtin "function.__dict__#set"],#[]⟩,⟨.type "getset_descriptor",J,.fields #[.str "__weakref__" 700,.ref 304,.builtin "ExceptionGroup.__weakref__",.none],#[]⟩,⟨.type "super",J,.fields #[.ref 304,.ref 304,.ref 304],#[]⟩,⟨.type "builtin_function_or_method",J,.fields #[.builtin "object.__init_subclass__",.ref 304],#[]⟩]) [iv 209,iv 0,.ref 279] 309 705,
.d,
.d,
.d,
.d,
.d,
.d,
.d,
.d,
.m,
.d,
.d,
.d,
.d,
.d,
.d,
.d,
.d]
theorem c0 (w:LA):Cut pr rc 0 15 187 p0 1 10 15 189 ⟨1,0,1,8⟩ w:=λo=>by kernel_rfl
theorem c1 (w:LA):Cut pr rc 1 15 189 ⟨1,0,1,8⟩ 2 432 47 232 ⟨4,0,8,20⟩ w:=λo=>by kernel_rfl
theorem c3 (w:LA):Cut pr rc 3 47 232 ⟨4,0,8,20⟩ 2 19 47 236 ⟨10,0,10,13⟩ w:=λo=>by kernel_rfl
theorem c5 (w:LA):Cut pr rc 5 47 236 ⟨10,0,10,13⟩ 1 71 48 249 ⟨11,0,11,6⟩ w:=byRow2 (P:=Cut pr rc 5 47 236 ⟨10,0,10,13⟩ 1 71 48 249 ⟨11,0,11,6⟩) "special-get-raises" (λw o=>by kernel_rfl) (λw o=>by kernel_rfl) w
theorem c6 (w:LA):Cut pr rc 6 48 249 ⟨11,0,11,6⟩ 20 514 152 390 ⟨114,0,114,8⟩ w:=λo=>by kernel_rfl
theorem c26 (w:LA):Cut pr rc 26 152 390 ⟨114,0,114,8⟩ 1 588 154 487 ⟨115,0,115,5⟩ w:=byRow2 (P:=Cut pr rc 26 152 390 ⟨114,0,114,8⟩ 1 588 154 487 ⟨115,0,115,5⟩) "special-get-raises" (λw o=>by kernel_rfl) (λw o=>by kernel_rfl) w
theorem c27 (w:LA):Cut pr rc 27 154 487 ⟨115,0,115,5⟩ 1 101 155 506 ⟨116,0,116,5⟩ w:=byRow2 (P:=Cut pr rc 27 154 487 ⟨115,0,115,5⟩ 1 101 155 506 ⟨116,0,116,5⟩) "special-get-raises" (λw o=>by kernel_rfl) (λw o=>by kernel_rfl) w
theorem c28 (w:LA):Cut pr rc 28 155 506 ⟨116,0,116,5⟩ 1 56 156 516 ⟨117,0,117,7⟩ w:=byRow2 (P:=Cut pr rc 28 155 506 ⟨116,0,116,5⟩ 1 56 156 516 ⟨117,0,117,7⟩) "special-get-raises" (λw o=>by kernel_rfl) (λw o=>by kernel_rfl) w
theorem c29 (w:LA):Cut pr rc 29 156 516 ⟨117,0,117,7⟩ 22 563 274 660 ⟨200,0,208,70⟩ w:=λo=>by kernel_rfl
theorem c51 (w:LA):Cut pr rc 51 274 660 ⟨200,0,208,70⟩ 14 683 393 830 ⟨311,0,324,15⟩ w:=λo=>by kernel_rfl
theorem c65 (w:LA):Cut pr rc 65 393 830 ⟨311,0,324,15⟩ 4 124 419 867 ⟨348,0,361,15⟩ w:=λo=>by kernel_rfl
theorem ch:Ch pr rc 69 419 867 0 15 187 p0 (10+(432+(19+(71+(514+(588+(101+(56+(563+(683+(124+(2)))))))))))):=bV c0<|bV c1<|bV c3<|bV c5<|bV c6<|bV c26<|bV c27<|bV c28<|bV c29<|bV c51<|bV c65<|Cn<|by kernel_rfl
def q:Ro:=view pr [68]
noncomputable def lo:U Str:=(["BroadError","NoText","DEEPEST_kinds","WITHIN","is_kind","is_kind_within","kind_text","take_kind","take_kind_within","GREATEST","LONGEST","is_worth","is_number","is_pair","is_row","worth_text","take_worth","number_of","truth_of","take_pair","take_row","stands_at","PARTS","AHEAD","BINDING","LONGEST_NAME","is_name","is_tree","may_stand_ahead","parts_start","parts","with_parts","binding","places","add_places","MOST_HEADS","MOST_PIECES","DEEPEST_programs","BLANKS","is_program","are_heads","is_head","names_of","binds_well","program_text","tree_text","Walk","read_program","walk_heads","walk_name","walk_kind","walk_tree","walk_parts","blank_of","number_piece","_law_kind","_law_leaf","_law_tree","_law_cleared","_law_heads","_law_kind_words","_law_words"]:U Rr).map Str.ofString
noncomputable def as:U Rj:=[3,24,44,47,53,54,58,59,63,64,70,71,77,78,84,85,91,92,98,99,103,104,108,109,115,116,122,123,129,130,136,137,143,144,150,151,152,154,155,159,160,164,165,171,172,178,179,185,186,192,193,199,200,206,207,213,214,215,216,217,218,219,220,221,222,223,224,225,226,227,228,229,230,231,232,236,237,241,242,248,249,253,254,260,261,267,268,272,273,304,314,315,321,322,328,329,335,336,342,343,349,350,356,357,363,364,370,371,377,378,384,385,391,392,398,399,405,406,412,413,417,418,303,287,286,294,293,301,300,294,293,301,300]
def K:Mb->Frag:=kK pr rc 69 as
def hk:Hook:=hkk pr rc 69 419
abbrev Xt (s:Lx):Rl:=xlAt q [] s&&recOk (RowW.records<|OpenRow.toRowW<|OpenLaw.row PySem.Challenge.rw_broadrow_k12_programs_written_and_read) s
theorem kin (w:LA)(h:Rx)(a:hk.says w h):(K w.params).In h:=JH (by kernel_rfl) (by kernel_rfl) a
theorem lk (w:LA):(λo=>((staticsOk (OH pr.main.body) (MB w.params) (hp pr rc 69 419 w.params)&&namesBound pr (hp pr rc 69 419 w.params)&&gensDone ⟨hp pr rc 69 419 w.params,#[],{},867,o⟩&&laidKept (MB w.params) (hp pr rc 69 419 w.params)),openSeen q lo (OH pr.main.body) Xt Lw ⟨hp pr rc 69 419 w.params,#[],{},867,o⟩,Hook.obs hk ⟨hp pr rc 69 419 w.params,#[],{},867,o⟩))=λ_=>(Lw,openGood q lo,Hook.val hk w):=by kernel_rfl
theorem e1:opening pr=plainProg pr.main.scope.names:=by kernel_rfl
theorem e2:Of pr=pr.main.body:=by kernel_rfl
theorem e3 (s:Lx):fenceModules? pr s=Y s:=by kernel_rfl
theorem pre (w:LA)(o:R0):topGo Nk pr w 11 an 12 ⟨MB w.params,OK [],boot_drawn,boot_toks,o⟩ (topStub pr)=Y ((sT pr rc w.params 0 15 187 o).abs,⟨denote Nk<|cE pr,cE pr,p0,B0⟩):=by kernel_rfl
theorem blk (w:LA)(o:R0):segRun Nk pr w 11 an 1 1 (sT pr rc w.params 0 15 187 o).abs (blockOf (Of pr) (ev pr) (cE pr) p0 B0)=Y (.next,(sT pr rc w.params 0 15 187 o).abs,cE pr,p0):=by kernel_rfl
theorem left:LeftO pr q lo Xt (Hook.obs hk) (Hook.val hk) 6426:=zU e1 (by kernel_rfl) e3 e2 AV pre blk ch (by kernel_rfl) lk
end H12

namespace A12
open PySem PySem.Spec PyProof.Rows L2 L3 MR
abbrev KK (w:LA):Ly:=H12.K w.params
theorem G5 (w:LA):∀f∈I12.fs,NoAttr (KK w) 304 f:=by
 intro f a;simp only[I12.fs,LK,M9,RG] at a;rcases a with rfl|rfl|rfl
 .show Mp (KK w) (.ref 304) _=Y J;kernel_rfl
 .show Mp (KK w) (.ref 304) _=Y J;kernel_rfl
 .show Mp (KK w) (.ref 304) _=Y J;kernel_rfl
theorem wd (w:LA):Cls (KK w) 304:=⟨by kernel_rfl,by kernel_rfl,by kernel_rfl,by kernel_rfl⟩
theorem BQ (w:LA):qp (KK w) 304 I12.fs:=⟨wd w,G5 w⟩
theorem HS (w:LA):Mk (KK w) 304 287:=⟨by kernel_rfl,by kernel_rfl,by kernel_rfl,by kernel_rfl⟩
theorem IZ (w:LA):∃a,L2.Fun (KK w) "__init__" "Walk.__init__" I12.s_Walk 287 a/\Binds (KK w) a ["self","words"] []:=by refine⟨ME "__init__" "Walk.__init__" (defArgs I12.s_Walk) (defBody I12.s_Walk) (defScope I12.s_Walk) .none .none .none (TP.pmO<|(KK w).lookup 287) J (.ref 286) .none,?_⟩;have F:L2.Fun (KK w) "__init__" "Walk.__init__" I12.s_Walk 287 (ME "__init__" "Walk.__init__" (defArgs I12.s_Walk) (defBody I12.s_Walk) (defScope I12.s_Walk) .none .none .none (TP.pmO ((KK w).lookup 287)) J (.ref 286) .none):=⟨⟨.type "function",J,_,_,_,_,_,_,#[],rfl,by kernel_rfl,by kernel_rfl⟩,by kernel_rfl⟩;exact⟨F,F.binds λ_ _ _ _ _ _ c b=>match c,b with|[_,_],_=>rfl⟩
theorem d_seen (w:LA):Dm (KK w) 304 "seen" "Walk.seen" mB ["self"]:=by have F:L2.Fun (KK w) "seen" "Walk.seen" mB 294 (ME "seen" "Walk.seen" (defArgs mB) (defBody mB) (defScope mB) .none .none .none (TP.pmO ((KK w).lookup 294)) J (.ref 293) .none):=⟨⟨.type "function",J,_,_,_,_,_,_,#[],rfl,by kernel_rfl,by kernel_rfl⟩,by kernel_rfl⟩;exact⟨⟨294,_,F,F.binds λ_ _ _ _ _ _ b a=>match b,a with|[_],_=>rfl,⟨by kernel_rfl,by kernel_rfl,by kernel_rfl⟩⟩,wd w⟩
theorem d_go_on (w:LA):Dm (KK w) 304 "go_on" "Walk.go_on" kZ ["self"]:=by have F:L2.Fun (KK w) "go_on" "Walk.go_on" kZ 301 (ME "go_on" "Walk.go_on" (defArgs kZ) (defBody kZ) (defScope kZ) .none .none .none (TP.pmO ((KK w).lookup 301)) J (.ref 300) .none):=⟨⟨.type "function",J,_,_,_,_,_,_,#[],rfl,by kernel_rfl,by kernel_rfl⟩,by kernel_rfl⟩;exact⟨⟨301,_,F,F.binds λ_ _ _ _ _ _ b a=>match b,a with|[_],_=>rfl,⟨by kernel_rfl,by kernel_rfl,by kernel_rfl⟩⟩,wd w⟩
theorem xs_mk {P:Ro}{w:LA}{h:Rx}{c:Str->L B}(X:(KK w).In h)(G:h.Ns LP c)(a:Rx):Xs P w (KK w) c a:=by obtain⟨d,F,b⟩:=IZ w;have e:∃t,c "MOST_PIECES"=Y (.int 200 t):=⟨TP.tkO<|MK (KK w) LP "MOST_PIECES",MM X G<|by kernel_rfl⟩;exact⟨⟨⟨287,d,_,HS w,b,λk=>I12.ok_Walk F (BQ w) e⟩,BQ w,MM X G<|by kernel_rfl⟩,d_seen w,d_go_on w⟩
end A12

set_option maxHeartbeats 4000000
open PySem PySem.W PyProof.Rows
set_option maxRecDepth 100000 in
set_option maxHeartbeats 0 in
theorem PySem.Challenge.cw_broadrow_k12_programs_written_and_read_holds : PySem.Challenge.rw_broadrow_k12_programs_written_and_read.Holds := by
 w_on; o_law
 refine holds_open (q:=H12.q) (loose:=H12.lo) (Xt:=H12.Xt) (XP:=XL H12.q []) (Yf:=Hook.obs H12.hk) (Ya:=Hook.val H12.hk) (YP:=Hook.says H12.hk) (N:=6426) (d:=TP.drec (H12.tn 68)) (kwd:=[]) H12.left (Hook.of H12.hk) (Hook.keeps H12.hk) (fun s e=>xl_of s (MU.mp e).1) XL.keeps (by kernel_rfl) (by kernel_rfl) (by kernel_rfl) (fun s e=>recFacts_of (MU.mp e).2) (by rfl) (by first | assumption | decide +kernel) (by decide +kernel) ⟨rfl,rfl,rfl,rfl,rfl,by decide +kernel⟩ ?hw ?hc
 case hw=>w_witness2
 refine MR.walkX (sx:="script") (l:=PySem.Challenge.rw_broadrow_k12_programs_written_and_read) (k:=42) (C:=A12.Cl 40) (ix:=0) (K:=H12.K) A12.pure_law rfl (by kernel_rfl) ⟨rfl,by decide,by decide,rfl⟩ H12.kin ?F
 case F =>
  intro w mg fa h KX G hmg
  refine' A12.all_mk KX G hmg ?zr215 ?zr216 ?zr364 ?zr366 ?zr367 ?zr2 ?zr3 ?zr162 ?zr164 ?zr165 ?zr226 ?zr227 ?zr228 ?zr175 ?zr176 ?zr334 ?zr233 ?zr253 ?zr254 ?zr507 ?zr508 ?zr241 ?zr509 ?zr243 ?zr489 ?zr490 ?zr510 ?zr511 ?zr493 ?zr494 ?zr495 ?zr496 ?zr497 ?zr498 ?zr171 ?zr499 ?zr500 ?zr501 ?zr502 ?zr503 ?zr504 ?zr0 ?zg0 ?zg1 ?zg2 ?zg3 ?zg4 ?zg5 ?zh0 ?zq_AHEAD ?zq_BINDING ?zq_PARTS ?zq_WITHIN ?ztx ?zxs
  case zg0=>exact ⟨TP.tkO (nsIn (H12.K w.params) mainGlobals "DEEPEST_kinds"),by kernel_rfl⟩
  case zg1=>exact ⟨TP.tkO (nsIn (H12.K w.params) mainGlobals "DEEPEST_programs"),by kernel_rfl⟩
  case zg2=>exact ⟨TP.tkO (nsIn (H12.K w.params) mainGlobals "GREATEST"),by kernel_rfl⟩
  case zg3=>exact ⟨TP.tkO (nsIn (H12.K w.params) mainGlobals "LONGEST_NAME"),by kernel_rfl⟩
  case zg4=>exact ⟨TP.tkO (nsIn (H12.K w.params) mainGlobals "MOST_HEADS"),by kernel_rfl⟩
  case zg5=>exact ⟨TP.tkO (nsIn (H12.K w.params) mainGlobals "MOST_PIECES"),by kernel_rfl⟩
  case zh0=>exact TP.glbR_mk (n:=9) (by kernel_rfl) (by kernel_rfl)
  case zq_AHEAD=>exact ⟨_,TP.tab_mk (by kernel_rfl) (by kernel_rfl) (by kernel_rfl) (by kernel_rfl),by kernel_rfl,TP.cst_of (n:=9) (by kernel_rfl)⟩
  case zq_BINDING=>exact ⟨_,TP.tab_mk (by kernel_rfl) (by kernel_rfl) (by kernel_rfl) (by kernel_rfl),TP.cst_of (n:=9) (by kernel_rfl)⟩
  case zq_PARTS=>exact ⟨_,TP.tab_mk (by kernel_rfl) (by kernel_rfl) (by kernel_rfl) (by kernel_rfl),by kernel_rfl,TP.cst_of (n:=9) (by kernel_rfl)⟩
  case zq_WITHIN=>exact ⟨_,TP.tab_mk (by kernel_rfl) (by kernel_rfl) (by kernel_rfl) (by kernel_rfl),by kernel_rfl,TP.cst_of (n:=9) (by kernel_rfl)⟩
  case zxs=>exact fun base=>A12.xs_mk KX G base
  case ztx=>refine' ⟨?_,?_,?_,?_,?_,?_,?_,?_,?_,?_,?_,?_,?_,?_,?_,?_,?_,?_,?_,?_,?_,trivial⟩<;>kernel_rfl
  all_goals exact TP.raw_mk (by kernel_rfl) (by kernel_rfl) (by kernel_rfl) (by kernel_rfl)
