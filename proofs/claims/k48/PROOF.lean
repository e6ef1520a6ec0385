import PyProof.Rows.All
import Wide.All
import OpenK.AllK
import Wide.FinOn
import Lean
import PyProof.EqAt
import PyProof.EqKinds
import PyProof.TupleCall
import PyProof.ExcInit
import PyProof.ExcClass3
import PyProof.ExcBaseAll.ValueError
import PyProof.StationsW
import PyProof.FString
import PyProof.Rows.FStr
import PyProof.NsDelKeeps
import PyProof.RulesAs
import PyProof.ExcArgs
import PySem.Str
import PySem.Builtin.Str.Common
import PyProof.ReprReads
import PyProof.Rows.Range3
import PyProof.P3Eq
import PyProof.TableCode
import PySem.Challenge.RW_broadrow_k48_rows_of_lets_and_of_what_ho
noncomputable section
open _root_ renaming List → U, Nat → O, Option → B, Int → I
open Option renaming some → Y, none → J
open PySem renaming Value → L
open PySem renaming Addr → QS, wpAny → QX, Program → QZ, Expr → Q1, Heap → Q5, eval → Q9, Stmt → Rf, DictEntry → Rh, IsPair → Ri, Scope → Rj, cLine → Rk, atKey → Rn, wpAny_pyNext_list_item → Rp, wpAny_isTrue_Compare1 → Ru, wpAny_pyNext_list_end → Rv, builtinLookup_eq_fast → Rw, valueAt → RA, swapsWithSole → RC, swappedStores → RD, seq_tuple_add → RF, comprehension → RH, typeLookup → RI, GenState → RK, codeAny_mono → RL, concat_meets → RM, seqIndex_neg → RN, ZipApart → RO, OsState → RP, isTrue → RR, strValues → RS, standAt → RT, bindL → RV, bindC → RX, field → RY
open _root_ renaming Bool → QT, of_decide_eq_true → QU, decide_eq_true → QV, absurd → QW, if_pos → QY, if_neg → Q0, beq_self_eq_true → Q2, decide_eq_true_eq → Q3, String → Q4, False → Q6, decide_eq_false → Q7, congrArg → Q8, Array → Rg, or_false → Rm, Inhabited → Ro, decide_false → Rr, beq_false_of_ne → Rt, DecidableEq → Rx, decide_true → Ry, if_true → Rz, True → RJ
open PyProof.Rows renaming subscriptTail_builtinR → Rq, IsTup → RB, subscriptTail → RG, IntsAre → RU
open PySem.W renaming nsIn → RQ, byRow2 → RZ
open Option renaming some → KW, none → KY
open Bool renaming false → K0, true → K1
open PySem renaming wpAny_bind → K4, Shared → K2, starEach → K7, wpAny_pure → Lc, model → K5, World → K6, mainGlobals → Ll, Around → Lj, wpAny_mono → Ly, foldedSetIterable → Mb, backTo → Lu, wpAny_field → L5, sysModules → L0, compareOp → LV, wpAny_pyIter_tuple → MY, Params → LC, behindInMarks → Ms, wpAny_callSpecial?_slot → Nx, binaryOp → LU, swapsWith → L7, wpAny_seqItems → MI, bootBuiltins → Mx, FuncData → LZ, lookup_relabel_local → NA, wpAny_pyIter_list → Nf, Keyword → LN, wpAny_newObj_type → Nd, wpAny_call_entry → Nc, wpAny_setField_rec → Nz, wpAny_holding → M4, attributeBase → M3, closureFor → My, keywordEach → MK, letOwnedTupleGo → Ny, tupleKind_room_in1 → NU, wpAny_truthy_bool → NT, IsZip → LM, call_meets → M0, sizeLine_eq → Nb, getItem → Mt, sliceBounds → Na, wpAny_passesOwn → NR, assign → Mk, backToKw → MJ, treeTable → MZ, assignEach → M9, wpAny_Call_method → Og, tupleKind → Ng, holding → MN, codeAny → MM, Builtin → ML, wpAny_execs_nil → Of, rawInt → MA, IsPart → Mz, wpAny_typeOf → NV, call_meetsIn → NQ, wpAny_rule → Nw, wpAny_updateSeq_pair → OL, importedModules → Oe, BindsTo → MX, callerA → MW, pyNext → MH, wpAny_Call_Name_kw → OJ, wpAny_standAt → Od, wpAny_onRaise → Oc, ExceptHandler → Ob, typeIs_str → NP, strKind_is → NO, relabel → M8, noFill_tuple_add → OI, subscripted → Oa
open PySem.W renaming boot_heap → Mc, behindTheImports → NS
open PyProof.Rows renaming envOfC → Mj, AllBare → MO
open PySem.W renaming Frag → K3, kia_one → Mh, kitOne → MS, fnOf → MP, findIn → Nt, keepIn → Nr, kia_tup → NG, kitx_list → OG, kitx_tuple → O4, nsIn → NX, codeIn → Ol, methodObj → OZ, hasDictIn → OY, mg_of → Ox, cellsFrom_some → QB, instObj → Pe, OpenLaw → Pd, lookIn → Pc, kitAny → Pa, specialIn → PX, kitx_none → PV, kitx_bool → PU, kitx_dict → PR, plainGet → PL, kitx_int → PJ, kitx_str → PH, takesIn → Pu, KeysLit → Qj, mroIn → Qb, WalkO → Qa, subIn → P8
open List renaming length_append → K8, length_map → K9, mem_cons_self → Lg, mem_cons_of_mem → Lr, length_cons → Lk, mem_append_right → Lw, size_toArray → Lq, mem_singleton → Lv, lookup → Le, mem_cons → Lm, replicate → Lo, map_cons → Ln, append_assoc → Lz, getElem?_eq_some_iff → L8, getElem?_cons_succ → L6, getElem?_map → LQ, length_singleton → Mi, mem_append → LL, append_nil → LK, getElem?_eq_getElem → MG, not_mem_nil → LY, nil_append → LX, range → Lx, mem_append_left → Mv, drop_succ_cons → Mu, getElem?_set_ne → MF, mem_of_getElem? → ME, any_cons → LS, map_append → L9, take_succ_cons → MD, nodup_cons → Mg, lookup_cons → Mo, mem_map → LR, length_replicate → M6, length_set → Mn, getElem?_set_self → Nv, drop_zero → Mr, replicate_succ → M7, map_nil → Ma, take_zero → Mw, getElem?_cons_zero → NN, all_eq_true → MV, cons_ne_nil → MU, map_map → Me, getElem?_append_right → N4, filterMap_cons → Np, getElem?_append_left → N3, length_nil → MT, flatten_cons → Nm, getD_eq_getElem?_getD → Oy, cons_append → Nl, any_nil → MC, find?_cons → Nk, length_take → NJ, length_drop → NI, take_of_length_le → OD, pairwise_cons → N8, singleton_append → OC, take_length → N5, map_congr_left → OB, getElem?_replicate → Pg, all_cons → NF, find?_cons_of_neg → Po, nodup_nil → N9, take_append_drop → O6, of_mem_zip → Oq, length_zip → Oo, set_cons_zero → O1, set_cons_succ → O0, mem_range → Om, drop_eq_getElem_cons → Qr, nodup_append → OV, length → NW, pairwise_singleton → QC, find?_cons_of_pos → Qy, append_eq_nil_iff → Qw, mem_of_mem_take → Qt, drop_drop → O9, take_succ → O7, map_eq_nil_iff → QL, length_pos_iff → QK, mem_filterMap → QI, map → NB, zipIdx_cons → PB, drop_length → Py, mem_filter → Pw, foldl_cons → Pt, forIn_cons → Qi, zipIdx_nil → Qh, forIn_nil → Qd, foldl → OT, take_nil → P7, drop_nil → P6, sum_cons → P5, map_id → Qk
open Bool renaming and_eq_true → Li, and_eq_true_iff → LB, false_ne_true → LA, or_false → Mq, or_true → MB, bne_false → M5, not_eq_true' → OW, true_or → OQ, not_eq_true → PD, or_eq_true → Qg, false_or → P9, and_true → P4
open Nat renaming le_refl → La, le_trans → Lf, lt_of_lt_of_le → LD, le_of_ble_eq_true → LI, ne_of_lt → Lp, zero_le → LH, ne_of_gt → MQ, succ_le_succ → NH, lt_irrefl → Nq, lt_trans → NL, zero_add → NK, pow_le_pow_right → O5, le_of_lt → NY, lt_of_le_of_lt → O3, add_comm → Ow, min_self → Ov, lt_succ_of_lt → PM, pow_succ → ON, le_of_not_lt → PF, le_add_right → Pz, not_lt_zero → Qe, mul_comm → PY
open Option.some renaming inj → LG, injEq → OX
open PySem.Str renaming join → LJ, mk → OP
open Array renaming length_toList → Mp, toList_inj → N6, all_eq_true' → OH, getElem?_eq_none → Pp, getElem?_eq_getElem → Qq, toList_append → QM, append_assoc → QJ, find?_toList → QH, mk → Oj, toList → PZ
open Or renaming inr → Ld, inl → Lh
open PyProof.Rows renaming slot_tuple_getitem → NM, boot_list → ND, boot_isinstance → OA, boot_tuple → N1, callWith_type1 → Oz, boot_dict → Qx, boot_bool → Qv, callWith_builtin1 → QN, boot_sorted → QO, eq_dataH → QR, ne_dataH → QQ
open PySem.F renaming slot_dict_get → Nu, plainAttrs_list → N2, plainAttrs_dict → OF, entry_dict_get → OE, slot_dict_getitem → Pl, args_tuple_add_2 → Pk, slot_list_append → Pj, type_list_append → Ph, entry_tuple_add → Pf, args_dict_get_2 → Pr, slot_tuple_add → Pq, type_dict_get → Pn, slot_dict_setdefault → Qs, plainAttrs_str → Qz
open True renaming intro → LW
open Nat.succ renaming inj → Mm
open PySem renaming mem_of_lookup → NC, Str → Mf, boot_len → Pb, NameKind → O8, reprText → Qc, call → OS, Within → P0
open Ne renaming symm → LF
open Prod renaming fst → LO, snd → Ni
open False renaming elim → Ml
open Int renaming fmod_eq_emod_of_nonneg → Pm, reduceLT → Ou, emod_lt_of_pos → QE, toNat_natCast → PN, emod_nonneg → Qf, natAbs → OR, toNat → OU
open Sum renaming inr → LP, inl → Nh
open Option renaming getD_none → N7, getD_some → Ot, toList_none → O2, isNone_iff_eq_none → Qo, isSome_iff_exists → Qn, bind_eq_some_iff → QD, map_eq_some_iff → QA, isSome_some → QG, isSome_map → PQ, bind_some → Px, toList → P1
open List.cons renaming inj → NZ
open And renaming left → Nj
open Char renaming toNat → N0
open String renaming length_toList → Qu
open Std renaming lt_of_le_of_lt → QF, not_lt → Oh
open Sum.inr renaming inj → OM
open BEq renaming comm → Oi
open Classical renaming em → Qm
open Prod.mk renaming inj → Ql
open List.Pairwise renaming nil → QP
set_option compiler.extract_closed false
set_option bootstrap.genMatcherCode false
set_option genSizeOf false
set_option genInjectivity false
set_option Elab.async false
set_option linter.all false
set_option maxRecDepth 100000
namespace L2
open PySem PySem.Spec PyProof.Rows
abbrev Key:=Sum I Str
noncomputable def gH:Key->L->QT
|.inl k,v=>Value.isInt k v
|.inr x,v=>Value.isStrOf x v
noncomputable def JF (w:K6):Key->I
|.inl k=>hashInt k
|.inr x=>hashStr w x
theorem aO:∀{k:Key} {v:L},gH k v=K1->(∃i t,k=Nh i/\v=Value.int i t)\/(∃x t,k=LP x/\v=Value.str x t)
|.inl i,v,h=>by obtain⟨t,e⟩:=Value.isInt_shape (k:=i) (v:=v) h;exact .inl ⟨i,t,rfl,e⟩
|.inr x,v,h=>by obtain⟨t,e⟩:=Value.isStrOf_shape (x:=x) (v:=v) h;exact .inr ⟨x,t,rfl,e⟩
theorem qN (i:I)(t:Tok):gH (.inl i) (.int i t)=true:=by simp[gH,Value.isInt]
theorem rL (x:Str)(t:Tok):gH (.inr x) (.str x t)=true:=by simp[gH,Value.isStrOf]
theorem Fx (a b:I):decide ((Nh a:Key)=Nh b)=(a==b):=by
 by_cases e:a=b
 .subst e;simp
 .have h:¬ (Nh a:Key)=Nh b:=fun q=>e<|Sum.inl.inj q;rw[Q7 h];exact(beq_eq_false_iff_ne.mpr e).symm
theorem Em (a b:Str):decide ((LP a:Key)=LP b)=decide (a=b):=by
 by_cases e:a=b
 .subst e;simp
 .have h:¬ (LP a:Key)=LP b:=fun q=>e<|OM q;rw[Q7 h,Q7 e]
theorem C3 (a:I)(b:Str):decide ((Nh a:Key)=LP b)=false:=Q7 λq=>nomatch q
theorem Et (a:Str)(b:I):decide ((LP a:Key)=Nh b)=false:=Q7 λq=>nomatch q
def aL (prog:QZ)(w:K6):PySem.KeyKind prog w Key where
 is:=gH
 hash:=JF w
 inj:=λv a b f d=>by
  rcases aO f with⟨i,t,rfl,rfl⟩|⟨x,t,rfl,rfl⟩
  .rcases aO d with ⟨j,u,rfl,e⟩ | ⟨y,u,rfl,e⟩
   .injection e with e1 _;rw[e1]
   .exact nomatch e
  .rcases aO d with ⟨j,u,rfl,e⟩ | ⟨y,u,rfl,e⟩
   .exact nomatch e
   .injection e with e1 _;rw[e1]
 byValue:=λk v h=>by rcases aO h with⟨i,t,rfl,rfl⟩|⟨x,t,rfl,rfl⟩<;>rfl
 pyHash:=λc h=>by
  rcases aO c with⟨i,t,rfl,rfl⟩|⟨x,t,rfl,rfl⟩
  .exact wpAny_pyHash_int h
  .exact wpAny_pyHash_str h
 eqBool:=λg c h=>by
  rcases aO g with⟨i,t,rfl,rfl⟩|⟨x,t,rfl,rfl⟩
  .rcases aO c with ⟨j,u,rfl,rfl⟩ | ⟨y,u,rfl,rfl⟩
   .rw[Fx] at h;exact wpAny_eqBool_int h
   .rw[C3] at h;exact SeqAt.EqAt.int_str i t y u _ _ _ _ h
  .rcases aO c with ⟨j,u,rfl,rfl⟩ | ⟨y,u,rfl,rfl⟩
   .rw[Et] at h;exact SeqAt.EqAt.str_int x t j u _ _ _ _ h
   .rw[Em] at h;exact wpAny_eqBool_str h
 «strs»:=λk x t v h=>by
  rcases aO h with⟨i,u,rfl,e⟩|⟨y,u,rfl,e⟩
  .exact nomatch e
  .injection e with e1 _
   subst e1;cases v<;>rfl
theorem lj (prog:QZ)(w:K6)(i:I)(t:Tok):(aL prog w).is (.inl i) (.int i t)=true:=qN i t
theorem lT (prog:QZ)(w:K6)(x:Str)(t:Tok):(aL prog w).is (.inr x) (.str x t)=true:=rL x t
set_option genInjectivity true
inductive V where
 |non|bl (b:QT)|int (i:I)|str (x:Str)|byt (b:Rg UInt8)|flt (b:UInt64)|ref (a:QS)|ty (n:Q4)
 deriving Rx
set_option genInjectivity false
def RelV:V->L->Prop
|.non,u=>u=Value.none
|.bl b,u=>u=Value.bool b
|.int i,u=>∃t,u=Value.int i t
|.str x,u=>∃t,u=Value.str x t
|.byt b,u=>∃t,u=Value.bytes b t
|.flt b,u=>∃t,u=Value.float b t
|.ref a,u=>u=Value.ref a
|.ty n,u=>u=Value.type n
abbrev Vals:U V->U L->Prop:=Paired RelV
theorem Vals.length {b:U V}{a:U L}(r:Vals b a):b.length=a.length:=Paired.length r
theorem Vals.get:∀{b:U V} {a:U L} {i:O} {x:V},Vals b a->b[i]?=Y x->∃u,a[i]?=Y u/\RelV x u
|_,_,_,_,.nil,e=>by simp at e
|_,_,0,_,.cons r _,e=>by simp at e;subst e;exact⟨_,rfl,r⟩
|_,_,i+1,x,.cons _ t,e=>by obtain⟨u,c,d⟩:=Vals.get (i:=i) (x:=x) t (by simpa using e);exact⟨u,by simpa using c,d⟩
theorem Vals.set {x:V}{u:L}(r:RelV x u):∀{b:U V} {a:U L} (i:O),Vals b a->Vals (b.set i x) (a.set i u)
|_,_,_,.nil=>.nil
|_,_,0,.cons _ t=>.cons r t
|_,_,i+1,.cons q t=>.cons q<|Vals.set r i t
theorem Vals.append:∀{c d:U V} {a b:U L},Vals c a->Vals d b->Vals (c++d) (a++b)
|_,_,_,_,.nil,s=>s
|_,_,_,_,.cons r t,s=>.cons r<|Vals.append t s
theorem Vals.take:∀{b:U V} {a:U L} (n:O),Vals b a->Vals (b.take n) (a.take n)
|_,_,0,_=>.nil
|_,_,_+1,.nil=>.nil
|_,_,n+1,.cons r t=>.cons r<|Vals.take n t
theorem Vals.drop:∀{b:U V} {a:U L} (n:O),Vals b a->Vals (b.drop n) (a.drop n)
|_,_,0,r=>r
|_,_,_+1,.nil=>.nil
|_,_,n+1,.cons _ t=>Vals.drop n t
def RelO:B V->B L->Prop
|some v,Y u=>RelV v u
|none,J=>RJ
|_,_=>Q6
def KV {a:Type}:U (a×V)->U (a×L)->Prop:=Paired λ(p:a×V) (q:a×L)=>p.1=q.1/\RelV p.2 q.2
def kV:Key->V
|.inl i=>.int i
|.inr x=>.str x
inductive HO where
 |lst (xs:U V)
 |tup (xs:U V)
 |dK (kvs:U (Key×V))|dT (kvs:U (U Key×V))
 |set (S:I->QT) (n:O)
 |ins (C dx:QS) (fs:U (Str×V))
 |own (x:QS)
 |xd (fs:U (Str×V))
 |met (f x:QS)
 |rng (lo hi:I)
 |frz (o:Obj) (u:HO)
 |tbl (ps:Rg L)
 |ext (φ:Q5->Prop)
abbrev Hp:=QS->B HO
noncomputable def upd (H:Hp)(a:QS)(o:HO):Hp:=λb=>if b=a then Y o else H b
theorem af {H:Hp}{a:QS}{o:HO}:upd H a o a=Y o:=by unfold upd;rw[QY rfl]
theorem ag {H:Hp}{a b:QS}{o:HO}(h:b≠a):upd H a o b=H b:=by unfold upd;rw[Q0 h]
theorem yc {H:Hp}{a:QS}{o u:HO}:upd (upd H a o) a u=upd H a u:=by funext b;unfold upd;split<;>rfl
theorem HZ {H:Hp}{a b:QS}{o u:HO}(h:H a=Y o)(c:H b=Y u)(d:o≠u):a≠b:=by intro e;subst e;rw[h] at c;exact d<|LG c
theorem aQ {H:Hp}{a b:QS}{o:HO}(h:H a=Y o)(c:H b=J):a≠b:=by intro e;subst e;rw[h] at c;cases c
section
variable (P:QZ)(w:K6)
def ObjOk (H:Hp)(h:Q5)(a:QS):HO->Prop
|.lst d=>d.length<=sizeLine/\∃(b:U L) (n:O),Vals d b/\h.get? a=Y {cls:=.type "list",data:=.seq b.toArray n}
|.tup d=>d.length<=sizeLine/\∃b:U L,Vals d b/\RB h a b.toArray
|.dK c=>c.length<=sizeLine/\(a==L0)=K0/\∃m,KV c m/\h.DictOf (aL P w) a m
| .dT c=>c.length<=sizeLine/\(a==L0)=K0/\∃ d:U (U Key×QS×L),
  Paired (λ(p:U Key×V) (q:U Key×QS×L)=>p.1=q.1/\H q.2.1=Y (.tup<|p.1.map kV)/\RelV p.2 q.2.2) c d /\
  ∃o j ep,h.get? a=Y o/\o.ExactDict/\o.data=.dict j ep/\j.toList=d.map (entryOfKey<|Ng<|aL P w)/\(d.map (·.1)).Nodup
|.set S n=>h.SetOf (intKind P w) a S n
| .ins C g fs=>H g=Y (.own a)/\fs.length<=1000/\g≠a/\h.get? a=Y (Pe C g) /\
  ∃e,h.Ns1 g e/\(∀f,RelO (fs.lookup f)<|e f)/\P0 e (fs.map (·.1))
|.own _=>∃o,h.get? a=Y o
|.xd fs=>∃e,h.Ns1 a e/\∀f,RelO (fs.lookup f)<|e f
|.rng lo r=>∃t u v,h.get? a=Y {cls:=.type "range",data:=.fields #[.int lo t,.int r u,.int 1 v]}
|.frz o u=>h.get? a=Y o/\ObjOk H h a u
|.tbl ps=>h.get? a=Y {cls:=.none,data:=.fields ps}
|.met f x=>h.get? a=Y (OZ (.ref f)<|.ref x)
|.ext i=>i h/\(∃o,h.get? a=Y o)/\∀k l:Q5,i k->(∀o,k.get? a=Y o->l.get? a=Y o)->i l
def HOk (H:Hp)(h:Q5):Prop:=∀a o,H a=Y o->ObjOk P w H h a o
end
section
variable {P:QZ}{w:K6}{H H':Hp}{h h':Q5}{a:QS}{o:HO}
theorem ObjOk.lt (x:ObjOk P w H h a o):a<h.objs.size:=by
 cases o with
 |lst c=>obtain⟨_,_,_,_,e⟩:=x;exact Heap.lt_size e
 |tup c=>obtain⟨_,_,_,p⟩:=x;exact p.lt
 |dK b=>obtain⟨_,_,_,_,o,_,_,e,_⟩:=x;exact Heap.lt_size e
 |dT b=>obtain⟨_,_,_,_,o,_,_,e,_⟩:=x;exact Heap.lt_size e
 |set S n=>obtain⟨o,_,_,_,e,_⟩:=x;exact Heap.lt_size e
 |ins C d fs=>obtain⟨_,_,_,e,_⟩:=x;exact Heap.lt_size e
 |own y=>obtain⟨_,e⟩:=x;exact Heap.lt_size e
 |xd fs=>obtain⟨_,⟨_,_,_,e,_⟩,_⟩:=x;exact Heap.lt_size e
 |rng lo g=>obtain⟨_,_,_,e⟩:=x;exact Heap.lt_size e
 |frz i u=>obtain⟨e,_⟩:=x;exact Heap.lt_size e
 |tbl ps=>exact Heap.lt_size<|show h.get? a=Y _ from x
 |met f y=>exact Heap.lt_size<|show h.get? a=Y _ from x
 |ext j=>obtain⟨_,⟨_,e⟩,_⟩:=x;exact Heap.lt_size e
theorem Paired.mapP {e g:Type}{F G:e->g->Prop}:∀{c:U e} {d:U g},Paired F c d->(∀a b,F a b->G a b)->Paired G c d
|_,_,.nil,_=>.nil
|_,_,.cons r t,f=>.cons (f _ _ r)<|Paired.mapP t f
theorem ObjOk.stay (x:ObjOk P w H h a o)(k:∀b u,(b=a\/H b=Y (.own a))->h.get? b=Y u->h'.get? b=Y u)
  (ho:∀b,H b=Y (.own a)->H' b=Y (.own a)) (F:∀b l,H b=Y (.tup l)->H' b=Y (.tup l)):ObjOk P w H' h' a o:=by
 induction o with
 |lst l=>obtain⟨z,j,n,r,e⟩:=x;exact⟨z,j,n,r,k _ _ (.inl rfl) e⟩
 |tup l=>obtain⟨z,j,r,g,e,c⟩:=x;exact⟨z,j,r,g,k _ _ (.inl rfl) e,c⟩
 |dK m=>obtain⟨z,y,N,r,g,i,ep,e,c⟩:=x;exact⟨z,y,N,r,g,i,ep,k _ _ (.inl rfl) e,c⟩
 |dT m=>obtain⟨z,y,l,r,g,i,ep,e,c⟩:=x;exact⟨z,y,l,Paired.mapP r λp q z=>⟨z.1,F _ _ z.2.1,z.2.2⟩,g,i,ep,k _ _ (.inl rfl) e,c⟩
 |set S n=>obtain⟨g,i,ep,t,e,c⟩:=x;exact⟨g,i,ep,t,k _ _ (.inl rfl) e,c⟩
 |ins C Q fs=>obtain⟨d,z,M,e,s,⟨A,i,ep,e2,c⟩,r⟩:=x;exact⟨ho _ d,z,M,k _ _ (.inl rfl) e,s,⟨A,i,ep,k _ _ (.inr d) e2,c⟩,r⟩
 |own y=>obtain⟨g,e⟩:=x;exact⟨g,k _ _ (.inl rfl) e⟩
 |xd fs=>obtain⟨s,⟨A,i,ep,e,c⟩,r⟩:=x;exact⟨s,⟨A,i,ep,k _ _ (.inl rfl) e,c⟩,r⟩
 |rng lo Z=>obtain⟨t,u,v,e⟩:=x;exact⟨t,u,v,k _ _ (.inl rfl) e⟩
 |frz g u G=>obtain⟨e,q⟩:=x;exact⟨k _ _ (.inl rfl) e,G q⟩
 |tbl ps=>have e:h.get? a=Y {cls:=.none,data:=.fields ps}:=x;show h'.get? a=Y {cls:=.none,data:=.fields ps};exact k a _ (.inl rfl) e
 |met f y=>have e:h.get? a=Y (OZ (.ref f) (.ref y)):=x;show h'.get? a=Y (OZ (.ref f)<|.ref y);exact k a _ (.inl rfl) e
 |ext φ=>obtain⟨p,⟨o,e⟩,D⟩:=x;exact⟨D _ _ p λo q=>k _ _ (.inl rfl) q,⟨o,k _ _ (.inl rfl) e⟩,D⟩
theorem HOk.lt (x:HOk P w H h)(e:H a=Y o):a<h.objs.size:=(x a o e).lt
theorem HOk.fresh (x:HOk P w H h)(e:h.objs.size<=a):H a=none:=by
 cases q:H a with
 |none=>rfl
 |some u=>exact QW (LD (x.lt q) e)<|Nq _
theorem HOk.kept (x:HOk P w H h)(k:∀b u,h.get? b=Y u->h'.get? b=Y u):HOk P w H h':=λa o e=>
 (x a o e).stay (λb u _ q=>k b u q) (λ_ q=>q) λ_ _ q=>q
theorem HOk.laid (x:HOk P w H h)(k:∀b u,h.get? b=Y u->h'.get? b=Y u)(hp:h.objs.size<=a)(d:ObjOk P w (upd H a o) h' a o):HOk P w (upd H a o) h':=λb u e=>by
 have g:=x.fresh hp;by_cases f:b=a
 .subst f;rw[af] at e;cases e;exact d
 .rw [ag f] at e;exact(x b u e).stay (λc v _ q=>k c v q) (λc q=>by rw[ag<|aQ q g];exact q) λc i q=>by rw[ag<|aQ q g];exact q
end
def Rd (H:Hp)(a:QS)(u:HO):Prop:=H a=Y u\/∃o,H a=Y (.frz o u)
theorem Rd.ok {P:QZ}{w:K6}{H:Hp}{h:Q5}{a:QS}{u:HO}(r:Rd H a u)(x:HOk P w H h):ObjOk P w H h a u:=by
 rcases r with r|⟨o,r⟩
 .exact x a u r
 .obtain ⟨_,q⟩:=x a _ r;exact q
def Mut:B HO->Prop
|some (.lst _)=>RJ
|some (.dK _)=>RJ
|some (.dT _)=>RJ
|some (.set _ _)=>RJ
|some (.ins _ _ _)=>RJ
|some (.ext _)=>RJ
|_=>Q6
section
variable {P:QZ}{w:K6}{H:Hp}{h h':Q5}{x e:QS}{o':HO}
theorem HOk.write (ok:HOk P w H h)(j:Mut<|H x)(o:e=x\/H e=Y (.own x))(k:∀b u,b≠e->h.get? b=Y u->h'.get? b=Y u)(m:∃u,h'.get? e=Y u)
  (n:ObjOk P w (upd H x o') h' x o'):HOk P w (upd H x o') h':=λb u q=>by
 have d:∀c y,H c=Y (.own y)->c≠x:=λc y r z=>by subst z;rw[r] at j;exact j
 have f:∀c l,H c=Y (.tup l)->c≠x:=λc l r z=>by subst z;rw[r] at j;exact j
 by_cases g:b=x
 .subst g;rw[af] at q;cases q;exact n
 .rw [ag g] at q;by_cases a:b=e
  .have p:H b=Y (.own x):=by
    rcases o with z|z
    .exact QW (a.trans z) g
    .rw[a];exact z
   rw[q] at p;cases p;obtain⟨v,s⟩:=m;exact⟨v,by rw[a];exact s⟩
  .refine (ok b u q).stay (fun c v i r=>k c v ?_ r) (fun c r=>by rw [ag (d c b r)]; exact r) fun c l r=>by rw [ag (f c l r)]; exact r
   rcases i with rfl|i
   .exact a
   .rintro rfl;rcases o with z|z
    .exact d c b i z
    .rw[i] at z;cases z;exact g rfl
end
structure Un (fs ex:U QS)(H H':Hp)(h h':Q5):Prop where
 keep:∀b o,h.get? b=Y o->H b=J->b ∉ fs->b ∉ ex->h'.get? b=Y o
 slot:∀b o,h.get? b=Y o->H b=J->b∈fs->b ∉ ex->∃sl,h'.get? b=Y {o with slots:=sl}
 free:∀b o,h.get? b=Y o->H b=J->b ∉ ex->H' b=J
 there:∀b o,h.get? b=Y o->b ∉ ex->∃o',h'.get? b=Y o'
 tups:∀b xs,H b=Y (.tup xs)->H' b=Y (.tup xs)
 frzs:∀b o u,H b=Y (.frz o u)->H' b=Y (.frz o u)
 tbls:∀b ps,H b=Y (.tbl ps)->∃more,H' b=Y (.tbl (ps++more))
section
variable {fs fs' ex ex':U QS}{H H1 H2:Hp}{h h1 h2 h':Q5}{a x e:QS}{o:HO}
theorem Un.any (u:Un fs ex H H1 h h1){b:QS}{c:Obj}(q:h.get? b=Y c)(n:H b=J)(hx:b ∉ ex):∃f,h1.get? b=Y {c with slots:=f}:=by
 by_cases d:b∈fs
 .exact u.slot b c q n d hx
 .exact⟨c.slots,u.keep b c q n d hx⟩
theorem Un.kept (k:∀b u,h.get? b=Y u->h'.get? b=Y u):Un fs ex H H h h':=
 ⟨λb c q _ _ _=>k b c q,λb c q _ _ _=>⟨c.slots,k b c q⟩,λ_ _ _ n _=>n,λb c q _=>⟨c,k b c q⟩,λ_ _ q=>q,λ_ _ _ q=>q,λ_ ps q=>⟨#[],by rw[q];simp⟩⟩
theorem Un.refl:Un fs ex H H h h:=Un.kept λ_ _ q=>q
theorem Un.laid (k:∀b u,h.get? b=Y u->h'.get? b=Y u)(hp:h.objs.size<=a)(c:H a=J):Un fs ex H (upd H a o) h h' where
 keep:=λb u q _ _ _=>k b u q
 slot:=λb u q _ _ _=>⟨u.slots,k b u q⟩
 free:=λb u q n _=>by rw[ag<|Lp<|LD (Heap.lt_size q) hp];exact n
 there:=λb u q _=>⟨u,k b u q⟩
 tups:=λb d q=>by rw[ag<|aQ q c];exact q
 frzs:=λb u d q=>by rw[ag<|aQ q c];exact q
 tbls:=λb ps q=>⟨#[],by rw[ag<|aQ q c,q];simp⟩
theorem Un.write (d:Mut<|H x)(j:e=x\/H e=Y (.own x))(k:∀b u,b≠e->h.get? b=Y u->h'.get? b=Y u)(f:∃u,h'.get? e=Y u):Un fs ex H (upd H x o) h h':=by
 have hx:∀b,H b=J->b≠x:=λb n z=>by subst z;rw[n] at d;exact d
 have i:∀b,H b=J->b≠e:=λb n z=>by
  subst z;rcases j with r|r
  .exact hx b n r
  .rw[n] at r;cases r
 have g:∀b u,H b=Y u->¬Mut (Y u)->b≠x:=λb u q l z=>by subst z;rw[q] at d;exact l d
 refine⟨λb u q n _ _=>k b u (i b n) q,λb u q n _ _=>⟨u.slots,k b u (i b n) q⟩,λb u q n _=>by rw[ag<|hx b n];exact n,λb u q _=>?_,
  λb m q=>by rw[ag<|g b _ q λz=>z];exact q,λb u m q=>by rw[ag<|g b _ q λz=>z];exact q,λb ps q=>⟨#[],by rw[ag<|g b _ q λz=>z,q];simp⟩⟩
 by_cases c:b=e
 .subst c;exact f
 .exact⟨u,k b u c q⟩
end
noncomputable def trk (h:Q5)(H:Hp):U QS:=(Lx h.objs.size).filter λa=>(H a).isSome
def ki (h:Q5)(H:Hp):Q5:=PySem.W.hideAll h<|trk h H
theorem qi (h:Q5)(H:Hp):(ki h H).objs.size=h.objs.size:=PySem.W.hideAll_size _ _
theorem wC {h:Q5}{H:Hp}{b:QS}{o:Obj}(e:h.get? b=Y o)(n:H b=J):(ki h H).get? b=Y o:=
 PySem.W.hideAll_get _ e λa=>by have q:(H b).isSome=true:=(Pw.mp a).2;rw[n] at q;simp at q
theorem yJ {h:Q5}{H:Hp}{b:QS}{o:Obj}(e:(ki h H).get? b=Y o):h.get? b=Y o/\H b=none:=by
 have a:h.get? b=Y o:=PySem.W.of_hideAll (trk h H) e;refine⟨a,?_⟩;cases q:H b with
 |none=>rfl
 |some x=>have c:b∈trk h H:=Pw.mpr ⟨Om.mpr<|Heap.lt_size a,by simp[q]⟩;have z:(ki h H).get? b=none:=PySem.W.hideAll_none (trk h H) c;rw[z] at e;cases e
noncomputable def xZ (g h:Q5)(b:QS):U (QS×Obj):=(Lx h.objs.size).filterMap λa=>if a=b\/(g.get? a).isSome=K1 then J else(h.get? a).map λo=>(a,o)
def rest (g h:Q5)(a d:QS):U (QS×Obj):=(xZ g h a).filter λp=>decide (p.1≠d)
structure Mod (K:K3)(mg:Str->B L)(base:Q5):Prop where
 kin:K.In base
 glob:base.Ns Ll mg
 blt:∃mb,base.Ns builtinsNs mb/\∀x:Str,x≠"__name__"->mb x=Mx x
 nolimit:base.NoLimit
structure Cx where
 prog:QZ
 w:K6
 K:K3
 mg:Str->B L
 base:Q5
 A:Lj
 N:U Str
 s₀:K2
 H₀:Hp
 env:Env
 outer:U Env
 stack:U Env
 ex:U QS
 fn:Str->QT
 calm:QT
 pn:U (QS×Obj)
 xe:L->K2->Prop
noncomputable def frs (l:U Env):U QS:=l.filterMap (·.frame)
abbrev Cx.fs (X:Cx):U QS:=frs X.outer
def Vis (a:Rj)(x:Str):Prop:=a.names.lookup x=Y .local\/a.names.lookup x=Y .cell\/a.names.lookup x=Y .free
def Loc (a:Rj)(x:Str):Prop:=a.names.lookup x=Y .local\/a.names.lookup x=Y .cell
def JW (a:Env)(h:Q5)(m:Str->B L)(x:Str)(u:L):Prop:=
 (a.kindOf x=Y .local/\m x=Y u)\/((a.kindOf x=Y .cell\/a.kindOf x=Y .free)/\∃c,a.cells.lookup x=Y c/\h.IsCell c (Y u))
structure Cx.Ok (X:Cx):Prop where
 mod:Mod X.K X.mg X.base
 kind:X.env.scope.kind=.function
 glob:X.env.globals=Ll
 blt:X.env.builtins=builtinsNs
 above:X.s₀.heap.objs.size<=X.env.locals
 inj:∀x y c,X.env.cells.lookup x=Y c->X.env.cells.lookup y=Y c->x=y
 has:∀x,(X.env.kindOf x=Y .cell\/X.env.kindOf x=Y .free)->∃c,X.env.cells.lookup x=Y c
 cab:∀x c,X.fn x=K1->X.env.cells.lookup x=Y c->X.s₀.heap.objs.size<=c
 hd:X.calm=K1->X.A.handled=J
 frames:X.A.frames=Y X.stack
 stk:X.stack=X.outer\/(X.stack=X.env::X.outer/\X.env.frame=Y X.env.locals)
 exf:∀b∈X.ex,b≠X.env.locals/\∀x c,X.env.cells.lookup x=Y c->c≠b
 bs:∀b o,X.base.get? b=Y o->X.s₀.heap.get? b=Y o/\X.H₀ b=J
 bsz:X.base.objs.size<=X.s₀.heap.objs.size
 noex:∀b o,X.base.get? b=Y o->b ∉ X.ex
 exfs:∀b∈X.ex,b ∉ X.fs
 funs:X.s₀.heap.FunFrames X.base X.outer
 frf:∀b∈X.fs,X.H₀ b=J
structure Inv (X:Cx)(pins:U (QS×Obj))(σ:U (B V))(H:Hp)(s:K2):Prop where
 ok:X.Ok
 os:s.os=X.s₀.os
 bare:MO s.gens
 base:Un X.fs X.ex X.H₀ H X.s₀.heap s.heap
 loc:∃m,s.heap.Ns X.env.locals m/\∀(i:O) (x:Str) (v:V),X.N[i]?=Y x->σ[i]?=Y (Y v)->Vis X.env.scope x->∃u,RelV v u/\JW X.env s.heap m x u
 cell:∀x c,X.env.cells.lookup x=Y c->∃v,s.heap.IsCell c v
 free:H X.env.locals=J
 freeC:∀x c,X.env.cells.lookup x=Y c->H c=J
 pin:∀p∈X.pn++pins,s.heap.get? p.1=Y p.2/\H p.1=J/\p.1≠X.env.locals/\p.1 ∉ X.fs/\∀v,p.2.data≠.cell v
 hok:HOk X.prog X.w H s.heap
 len:σ.length=X.N.length
section
variable {X:Cx}{pins:U (QS×Obj)}{σ:U (B V)}{H H':Hp}{s:K2}{h':Q5}
theorem Cx.Ok.nofr (ok:X.Ok){b:QS}{o:Obj}(e:X.base.get? b=Y o):b ∉ X.fs:=λa=>by have:=(ok.funs.mem a).1;rw[e] at this;cases this
theorem Inv.bs (a:Inv X pins σ H s):∀b o,X.base.get? b=Y o->s.heap.get? b=Y o/\H b=none:=λb o e=>
 ⟨a.base.keep b o (a.ok.bs b o e).1 (a.ok.bs b o e).2 (a.ok.nofr e)<|a.ok.noex b o e,a.base.free b o (a.ok.bs b o e).1 (a.ok.bs b o e).2<|a.ok.noex b o e⟩
theorem Inv.bk (a:Inv X pins σ H s):∀b o,X.base.get? b=Y o->s.heap.get? b=Y o:=λb o e=>(a.bs b o e).1
theorem Inv.mod (a:Inv X pins σ H s):Mod X.K X.mg X.base:=a.ok.mod
theorem Inv.kIn (a:Inv X pins σ H s):X.K.In s.heap:=a.ok.mod.kin.keeps a.bk
theorem Inv.fr (a:Inv X pins σ H s):∃m,Fr X.base X.env.locals s.heap m:=
 let ⟨m,b,_⟩:=a.loc
 ⟨m,b,a.bk,Lf a.ok.bsz a.ok.above⟩
theorem Inv.lt (a:Inv X pins σ H s):X.env.locals<s.heap.objs.size:=let ⟨_,b,_⟩:=a.loc;b.lt
theorem Inv.sz (a:Inv X pins σ H s):X.s₀.heap.objs.size<=s.heap.objs.size:=Lf a.ok.above<|NY a.lt
theorem Inv.nofs (b:Inv X pins σ H s){a:QS}(h:s.heap.objs.size<=a):a ∉ X.fs:=λc=>by obtain⟨_,o,ho,_⟩:=b.ok.funs.mem c;exact QW (LD (Heap.lt_size ho)<|Lf b.sz h)<|Nq _
theorem Inv.cne (a:Inv X pins σ H s):∀x c,X.env.cells.lookup x=Y c->c≠X.env.locals:=λx c e z=>by obtain⟨v,o,ho,hd⟩:=a.cell x c e;obtain⟨m,⟨g,f,ep,d,b,_⟩,_⟩:=a.loc;rw[z,d] at ho;cases ho;rw[b] at hd;cases hd
theorem Inv.funs (a:Inv X pins σ H s):s.heap.FunFrames X.base X.outer:=by
 have all:∀(l:U Env),(∀b∈frs l,b∈X.fs)->X.s₀.heap.FunFrames X.base l->s.heap.FunFrames X.base l:=by
  intro l;induction l with
  |nil=>intro _ _;trivial
  |cons i r n=>intro h j;obtain⟨hk,⟨c,o,g,k,ho,hd⟩,m⟩:=j;have d:c∈X.fs:=h c (by unfold frs;rw[Np,g];exact Lg);obtain⟨p,e⟩:=a.base.slot c o ho (a.ok.frf c d) d λz=>a.ok.exfs c z d;exact⟨hk,⟨c,_,g,k,e,hd⟩,n (λb f=>h b<|by unfold frs;rw[Np,g];exact Lr _ f) m⟩
 exact all X.outer (λ_ f=>f) a.ok.funs
theorem Inv.stack (a:Inv X pins σ H s):s.heap.FunFrames X.base X.stack:=by
 rcases a.ok.stk with e|⟨e,hf⟩
 .rw[e];exact a.funs
 .rw [e];obtain⟨m,b,_⟩:=a.loc;refine .cons (by rw[a.ok.kind];decide) hf b ?_ a.funs;exact Heap.get?_none_of_le<|Lf a.ok.bsz a.ok.above
theorem Inv.stkSub (a:Inv X pins σ H s):∀b∈frs X.stack,b∈X.env.locals::X.fs:=λb c=>by
 rcases a.ok.stk with e|⟨e,hf⟩
 .rw[e] at c;exact Lr _ c
 .rw [e] at c;unfold frs at c;rw[Np,hf] at c;exact c
theorem Inv.stkFree (a:Inv X pins σ H s):∀b∈frs X.stack,H b=none:=λb c=>by
 rcases Lm.mp (a.stkSub b c) with e|c
 .rw[e];exact a.free
 .obtain ⟨_,o,ho,_⟩:=a.ok.funs.mem c;exact a.base.free b o ho (a.ok.frf b c) λz=>a.ok.exfs b z c
theorem Inv.step {g':Rg RK}{t':O}{d':Drawn}{ch:U QS}(a:Inv X pins σ H s)
  (h:∀b∈ch,(b∈X.ex\/X.s₀.heap.objs.size<=b)/\b≠X.env.locals/\(∀x c,X.env.cells.lookup x=Y c->c≠b)/\∀p∈X.pn++pins,p.1≠b)
  (keep:∀b o,b≠X.env.locals->b ∉ X.fs->b ∉ ch->s.heap.get? b=Y o->H b=J->h'.get? b=Y o)
  (y:∀b o,b≠X.env.locals->b∈X.fs->b ∉ ch->s.heap.get? b=Y o->H b=J->∃sl,h'.get? b=Y {o with slots:=sl}) (f:∀b o,b ∉ ch->s.heap.get? b=Y o->H b=J->H' b=J)
  (F:∀b o,b ∉ ch->s.heap.get? b=Y o->∃P,h'.get? b=Y P)
  (Z:∀b A,H b=Y (.tup A)->H' b=Y (.tup A)) (G:∀b o u,H b=Y (.frz o u)->H' b=Y (.frz o u)) (Q:∀b ps,H b=Y (.tbl ps)->∃M,H' b=Y (.tbl<|ps++M))
  (ns:∀m,s.heap.Ns X.env.locals m->h'.Ns X.env.locals m) (hok:HOk X.prog X.w H' h') (hg:MO g'):
  Inv X pins σ H' {s with heap:=h',gens:=g',drawn:=d',toks:=t'}:=by
 have N:∀b o,X.s₀.heap.get? b=Y o->b≠X.env.locals:=λb o e=>Lp<|LD (Heap.lt_size e) a.ok.above
 have t:∀b o,X.s₀.heap.get? b=Y o->b ∉ X.ex->b ∉ ch:=λb o e hx D=>by
  rcases(h b D).1 with z|z
  .exact hx z
  .exact QW (LD (Heap.lt_size e) z) (Nq _)
 have g:∀x c,X.env.cells.lookup x=Y c->∀v,s.heap.IsCell c v->h'.IsCell c v:=λx c e v ⟨o,ho,hd⟩=>by
  have j:c ∉ ch:=λz=>(h c z).2.2.1 x c e rfl;by_cases hc:c∈X.fs
  .obtain ⟨sl,q⟩:=y c o (a.cne x c e) hc j ho<|a.freeC x c e;exact⟨_,q,hd⟩
  .exact⟨o,keep c o (a.cne x c e) hc j ho<|a.freeC x c e,hd⟩
 refine⟨a.ok,a.os,hg,⟨λb o e n D hx=>?_,λb o e n D hx=>?_,λb o e n hx=>?_,λb o e hx=>?_,λb A e=>Z b A<|a.base.tups b A e,λb o A e=>G b o A<|a.base.frzs b o A e,λb ps e=>?_⟩,?_,λx c e=>?_,?_,λx c e=>?_,λp hp=>?_,hok,a.len⟩
 .exact keep b o (N b o e) D (t b o e hx) (a.base.keep b o e n D hx) (a.base.free b o e n hx)
 .obtain ⟨sl,e1⟩:=a.base.slot b o e n D hx;obtain⟨sl',e2⟩:=y b _ (N b o e) D (t b o e hx) e1<|a.base.free b o e n hx;exact⟨sl',e2⟩
 .obtain ⟨P,e1⟩:=a.base.there b o e hx;exact f b P (t b o e hx) e1<|a.base.free b o e n hx
 .obtain ⟨P,e1⟩:=a.base.there b o e hx;exact F b P (t b o e hx) e1
 .obtain ⟨m1,e1⟩:=a.base.tbls b ps e;obtain⟨m2,e2⟩:=Q b _ e1;exact⟨m1++m2,by rw[e2,QJ]⟩
 .obtain ⟨m,hn,hl⟩:=a.loc;refine⟨m,ns m hn,λi x v e1 e2 e3=>?_⟩;obtain⟨u,r,l⟩:=hl i x v e1 e2 e3;refine⟨u,r,?_⟩;rcases l with l|⟨k,c,e,z⟩
  .exact .inl l
  .exact .inr ⟨k,c,e,g x c e _ z⟩
 .obtain ⟨v,z⟩:=a.cell x c e;exact⟨v,g x c e v z⟩
 .obtain ⟨m,⟨o,_,_,ho,_⟩,_⟩:=a.loc;exact f _ o (λz=>(h _ z).2.1 rfl) ho a.free
 .obtain ⟨v,o,ho,hd⟩:=a.cell x c e;exact f c o (λz=>(h c z).2.2.1 x c e rfl) ho<|a.freeC x c e
 .obtain ⟨e,n,ne,nf,d⟩:=a.pin p hp;have j:p.1 ∉ ch:=λz=>(h p.1 z).2.2.2 p hp rfl;exact⟨keep p.1 p.2 ne nf j e n,f p.1 p.2 j e n,ne,nf,d⟩
theorem Inv.un {t':O}(a:Inv X pins σ H s)(u:Un X.fs [] H H' s.heap h')(h:HOk X.prog X.w H' h'):Inv X pins σ H' {s with heap:=h',toks:=t'}:=by
 obtain⟨m,⟨o,l,ep,ho,r⟩,_⟩:=id a.loc;obtain⟨v,i⟩:=u.any ho a.free<|by simp
 exact a.step (g':=s.gens) (d':=s.drawn) (ch:=[]) (λ_ z=>nomatch z) (λb o _ g _ e n=>u.keep b o e n g<|by simp) (λb o _ g _ e n=>u.slot b o e n g<|by simp) (λb o _ e n=>u.free b o e n<|by simp) (λb o _ e=>u.there b o e<|by simp) u.tups u.frzs u.tbls (λp j=>by
  obtain⟨t,f,d,c,k⟩:=j;rw[ho] at c;cases c;exact⟨_,f,d,i,k⟩) h a.bare
theorem Inv.call {g':Rg RK}{t':O}{d':Drawn}{ch:U QS}(a:Inv X pins σ H s)(u:Un (frs X.stack) ch H H' s.heap h')(k:HOk X.prog X.w H' h')(t:MO g')
  (f:∀b∈ch,(b∈X.ex\/X.s₀.heap.objs.size<=b)/\b≠X.env.locals/\(∀x c,X.env.cells.lookup x=Y c->c≠b)/\∀p∈X.pn++pins,p.1≠b):
  Inv X pins σ H' {s with heap:=h',gens:=g',drawn:=d',toks:=t'}:=by
 obtain⟨m,⟨o,A,ep,ho,r⟩,_⟩:=id a.loc;obtain⟨G,j⟩:=u.any ho a.free λz=>(f _ z).2.1 rfl
 exact a.step (ch:=ch) f (λb o j l d e n=>u.keep b o e n (λz=>(Lm.mp<|a.stkSub b z).elim j l) d) (λb o _ _ d e n=>u.any e n d) (λb o d e n=>u.free b o e n d) (λb o d e=>u.there b o e d) u.tups u.frzs u.tbls (λD v=>by
  obtain⟨F,i,h,g,y⟩:=v;rw[ho] at g;cases g;exact⟨_,i,h,j,y⟩) k t
theorem Inv.turned {t':O}{it:QS}(a:Inv X pins σ H s)(k:∀b o,b≠it->s.heap.get? b=Y o->h'.get? b=Y o)(y:H it=J)(g:it≠X.env.locals)
  (i:it∈X.ex\/X.s₀.heap.objs.size<=it) (j:∀x c,X.env.cells.lookup x=Y c->c≠it) (l:∀p∈X.pn++pins,p.1≠it):Inv X pins σ H {s with heap:=h',toks:=t'}:=by
 have f:∀b u,H b=Y u->b≠it:=λb u e z=>by rw[z,y] at e;cases e
 refine a.step (g':=s.gens) (d':=s.drawn) (ch:=[it]) (λb t=>?_) (λb o _ _ d e _=>k b o (λz=>d<|by simp[z]) e) (λb o _ _ d e _=>⟨o.slots,k b o (λz=>d<|by simp[z]) e⟩) (λ_ _ _ _ n=>n)
  (λb o d e=>⟨o,k b o (λz=>d<|by simp[z]) e⟩) (λ_ _ e=>e) (λ_ _ _ e=>e) (λb ps e=>⟨#[],by rw[e];simp⟩) (λm w=>?_) (λb u e=>?_) a.bare
 .have e:b=it:=by simpa using t
  subst e;exact⟨i,g,j,l⟩
 .obtain ⟨o,h,ep,ho,r⟩:=w;exact⟨o,h,ep,k _ o (LF g) ho,r⟩
 .refine (a.hok b u e).stay (fun c v d q=>k c v ?_ q) (fun _ q=>q) fun _ _ q=>q;rcases d with z|z
  .rw[z];exact f b u e
  .exact f c _ z
theorem Inv.tok (a:Inv X pins σ H s)(t:O):Inv X pins σ H {s with toks:=t}:=a.un (h':=s.heap) (t':=t) Un.refl a.hok
theorem Inv.kept {t':O}(a:Inv X pins σ H s)(k:∀b u,s.heap.get? b=Y u->h'.get? b=Y u):Inv X pins σ H {s with heap:=h',toks:=t'}:=a.un (Un.kept k)<|a.hok.kept k
theorem Inv.laid {a:QS}{o:HO}{t':O}(c:Inv X pins σ H s)(k:∀b u,s.heap.get? b=Y u->h'.get? b=Y u)(hp:s.heap.objs.size<=a)(d:ObjOk X.prog X.w (upd H a o) h' a o):
  Inv X pins σ (upd H a o) {s with heap:=h',toks:=t'}:=c.un (Un.laid k hp<|c.hok.fresh hp)<|c.hok.laid k hp d
theorem Inv.write {x e:QS}{o:HO}{h:O}(a:Inv X pins σ H s)(g:Mut<|H x)(f:e=x\/H e=Y (.own x))(k:∀b u,b≠e->s.heap.get? b=Y u->h'.get? b=Y u)(c:∃u,h'.get? e=Y u)
  (d:ObjOk X.prog X.w (upd H x o) h' x o):Inv X pins σ (upd H x o) {s with heap:=h',toks:=h}:=a.un (Un.write g f k c)<|a.hok.write g f k c d
theorem Inv.weak {b:U<|B V}(a:Inv X pins σ H s)(d:b.length=σ.length)(w:∀(i:O) v,b[i]?=Y (Y v)->σ[i]?=Y (Y v)):Inv X pins b H s:=
 ⟨a.ok,a.os,a.bare,a.base,let ⟨m,e,c⟩:=a.loc;⟨m,e,λi x v e1 e2 e3=>c i x v e1 (w i v e2) e3⟩,a.cell,a.free,a.freeC,a.pin,a.hok,d.trans a.len⟩
theorem Inv.pins_of {b:U<|QS×Obj}(a:Inv X pins σ H s)(h:∀p∈b,s.heap.get? p.1=Y p.2/\H p.1=J/\p.1≠X.env.locals/\p.1 ∉ X.fs/\∀v,p.2.data≠.cell v):Inv X b σ H s:=
 ⟨a.ok,a.os,a.bare,a.base,a.loc,a.cell,a.free,a.freeC,λp hp=>(LL.mp hp).elim (λz=>a.pin p<|Mv _ z)<|h p,a.hok,a.len⟩
theorem lW {N:U Str}(c:N.Nodup){i j:O}{x:Str}(a:N[i]?=Y x)(b:N[j]?=Y x):i=j:=by obtain⟨d,e1⟩:=L8.mp a;obtain⟨e,e2⟩:=L8.mp b;exact(List.getElem_inj c).mp<|e1.trans e2.symm
theorem ju {M:Model}{A:Lj}{E:L->K2->Prop}{i:O}{x:Str}{v:V}{u:L}{Q:Unit->K2->Prop}(f:Inv X pins σ H s)(hN:X.N.Nodup)(hi:X.N[i]?=Y x)(hx:Loc X.env.scope x)(r:RelV v u)
  (h:∀s',Inv X pins (σ.set i<|Y v) H s'->(∃a,Heap.SameBut a s.heap s'.heap/\(a=X.env.locals\/X.env.cells.lookup x=Y a))->Q () s') (hf:X.fn x=K1\/X.env.scope.names.lookup x=Y .local:=by first|exact .inl rfl|exact .inr rfl|assumption):QX M A (storeName X.env x u) Q E s:=by
 obtain⟨m,hn,hl⟩:=id f.loc;have hcls:(X.env.scope.kind==.class || (X.env.scope.kind==.module&&X.env.locals != X.env.globals))=false:=by rw[f.ok.kind];rfl
 have F:i < σ.length:=by rw[f.len];exact(L8.mp hi).1
 have cne:=f.cne
 have l:∀{a:QS} {h':Q5},(∃o,s.heap.get? a=Y o/\H a=J)->Heap.SameBut a s.heap h'->HOk X.prog X.w H h':=λ{a h'} ha g b ob e=>by
  obtain⟨_,_,D⟩:=ha;refine(f.hok b ob e).stay (λc w' t q=>(g.2 c ?_).trans q) (λ_ q=>q) λ_ _ q=>q;rintro rfl;rcases t with rfl|t
  .rw[D] at e;cases e
  .rw[D] at t;cases t
 rcases hx with hk|hk
 .refine wpAny_storeName_local hk hn (fun h' hn' g=>?_) hcls;obtain⟨oL,_,_,hoL,_⟩:=id hn;refine h _ ⟨f.ok,f.os,f.bare,⟨λb o e n G hx=>?_,λb o e n G hx=>?_,f.base.free,λb o e hx=>?_,f.base.tups,f.base.frzs,f.base.tbls⟩,⟨_,hn',λj y v' e1 e2 e3=>?_⟩,λy c e=>?_,f.free,f.freeC,λp hp=>?_,l ⟨oL,hoL,f.free⟩ g,by simpa using f.len⟩ ⟨_,g,.inl rfl⟩
  .exact(g.2 b<|Lp<|LD (Heap.lt_size e) f.ok.above).trans<|f.base.keep b o e n G hx
  .obtain ⟨sl,e1⟩:=f.base.slot b o e n G hx;exact⟨sl,(g.2 b<|Lp<|LD (Heap.lt_size e) f.ok.above).trans e1⟩
  .obtain ⟨o',e1⟩:=f.base.there b o e hx;exact⟨o',(g.2 b<|Lp<|LD (Heap.lt_size e) f.ok.above).trans e1⟩
  .by_cases Z:j=i
   .subst Z;rw[hi] at e1;cases e1;rw[Nv F] at e2;cases e2;exact⟨u,r,.inl ⟨hk,by simp⟩⟩
   .rw [MF (LF Z)] at e2;obtain⟨u',r',q⟩:=hl j y v' e1 e2 e3;refine⟨u',r',?_⟩;rcases q with⟨k,e⟩|⟨k,c,e,z⟩
    .refine .inl ⟨k,?_⟩;have:y≠x:=λe=>Z<|lW hN e1<|e ▸ hi;simp[this,e]
    .exact .inr ⟨k,c,e,z.sameBut g<|cne y c e⟩
  .obtain ⟨w',z⟩:=f.cell y c e;exact⟨w',z.sameBut g<|cne y c e⟩
  .obtain ⟨e,n,ne,nf,d⟩:=f.pin p hp;exact⟨(g.2 p.1 ne).trans e,n,ne,nf,d⟩
 .have P:X.fn x=true:=by
   rcases hf with z|z
   .exact z
   .rw[z] at hk;cases hk
  obtain⟨c,t⟩:=f.ok.has x<|.inl hk;obtain⟨w',z⟩:=f.cell x c t;refine wpAny_storeName_cell f.ok.kind hk t z λh' hc' g=>?_;obtain⟨oc,hoc,hocd⟩:=id z;refine h {s with heap:=h'} ⟨f.ok,f.os,f.bare,⟨λb o e n G hx=>?_,λb o e n G hx=>?_,f.base.free,λb o e hx=>?_,f.base.tups,f.base.frzs,f.base.tbls⟩,⟨m,hn.sameBut g<|LF<|cne x c t,λj y v' e1 e2 e3=>?_⟩,λy c' e=>?_,f.free,f.freeC,λp hp=>?_,l ⟨oc,hoc,f.freeC x c t⟩ g,by simpa using f.len⟩ ⟨c,g,.inr t⟩
  .exact(g.2 b<|Lp<|LD (Heap.lt_size e)<|f.ok.cab x c P t).trans<|f.base.keep b o e n G hx
  .obtain ⟨sl,e1⟩:=f.base.slot b o e n G hx;exact⟨sl,(g.2 b<|Lp<|LD (Heap.lt_size e)<|f.ok.cab x c P t).trans e1⟩
  .obtain ⟨o',e1⟩:=f.base.there b o e hx;exact⟨o',(g.2 b<|Lp<|LD (Heap.lt_size e)<|f.ok.cab x c P t).trans e1⟩
  .by_cases Z:j=i
   .subst Z;rw[hi] at e1;cases e1;rw[Nv F] at e2;cases e2;exact⟨u,r,.inr ⟨.inl hk,c,t,hc'⟩⟩
   .rw [MF (LF Z)] at e2;obtain⟨u',r',q⟩:=hl j y v' e1 e2 e3;refine⟨u',r',?_⟩;rcases q with q|⟨k,c',e,z'⟩
    .exact .inl q
    .refine .inr ⟨k,c',e,z'.sameBut g ?_⟩;rintro rfl;exact Z<|lW hN e1<|f.ok.inj _ _ _ e t ▸ hi
  .by_cases hcc:c'=c
   .subst hcc;exact⟨_,hc'⟩
   .obtain ⟨w2,z2⟩:=f.cell y c' e;exact⟨w2,z2.sameBut g hcc⟩
  .obtain ⟨e,n,ne,nf,d⟩:=f.pin p hp;refine⟨(g.2 p.1 ?_).trans e,n,ne,nf,d⟩;intro q;rw[q,hoc] at e;have q':oc=p.2:=LG e;exact d w'<|by rw[<- q'];exact hocd
theorem lE {M:Model}{A:Lj}{E:L->K2->Prop}{i:O}{x:Str}{v:V}{u:L}{Q:Unit->K2->Prop}(a:Inv X pins σ H s)(d:X.N.Nodup)(f:X.N[i]?=Y x)(hx:Loc X.env.scope x)(r:RelV v u)
  (h:∀b,Inv X pins (σ.set i<|Y v) H b->Q () b) (e:X.fn x=K1\/X.env.scope.names.lookup x=Y .local:=by first|exact .inl rfl|exact .inr rfl|assumption):QX M A (storeName X.env x u) Q E s:=
 ju a d f hx r (λb c _=>h b c) e
theorem Inv.call' {s':K2}{ch:U QS}(a:Inv X pins σ H s)(ho:s'.os=s.os)(u:Un (frs X.stack) ch H H' s.heap s'.heap)(f:HOk X.prog X.w H' s'.heap)(g:MO s'.gens)
  (d:∀b∈ch,(b∈X.ex\/X.s₀.heap.objs.size<=b)/\b≠X.env.locals/\(∀x c,X.env.cells.lookup x=Y c->c≠b)/\∀p∈X.pn++pins,p.1≠b):Inv X pins σ H' s':=by
 obtain⟨h',g',d',t',h⟩:=s';have e:h=s.os:=ho;subst e;exact a.call (g':=g') (t':=t') (d':=d') u f g d
end
abbrev XK:=L->B QS->Hp->Prop
abbrev St:=U<|B V
abbrev VK:=V->Hp->Prop
abbrev TE:=St->Hp->VK->Prop
abbrev TT:=St->Hp->(QT->Hp->Prop)->Prop
abbrev TA:=St->Hp->(U V->Hp->Prop)->Prop
structure bP where
 nx:St->Hp->Prop
 rt:VK
 bk:St->Hp->Prop:=λ_ _=>Q6
 ct:St->Hp->Prop:=λ_ _=>Q6
abbrev TS:=bP->St->Hp->Prop
def EP (X:Cx)(a:U<|QS×Obj)(d:St)(Q:VK)(u:L)(c:K2):Prop:=∃v b,Inv X a d b c/\RelV v u/\Q v b
def TP (X:Cx)(a:U<|QS×Obj)(e:St)(Q:QT->Hp->Prop)(b:QT)(d:K2):Prop:=∃c,Inv X a e c d/\Q b c
def AP (X:Cx)(a:U<|QS×Obj)(f:St)(Q:U V->Hp->Prop)(e:U L)(d:K2):Prop:=∃c b,Inv X a f b d/\Vals c e/\Q c b
def SP (X:Cx)(b:U<|QS×Obj)(D:bP)(f:Flow)(d:K2):Prop:=
 match f with
 |.next=>∃a c,Inv X b a c d/\D.nx a c
 |.brk=>∃a c,Inv X b a c d/\D.bk a c
 |.cont=>∃a c,Inv X b a c d/\D.ct a c
 |.ret u=>∃v a c,Inv X b a c d/\RelV v u/\D.rt v c
def PE (X:Cx)(e:Q1)(t:TE):Prop:=
 ∀(a:U<|QS×Obj) (s:K2) (b:St) (H:Hp) (Q:VK),Inv X a b H s->t b H Q->QX (K5 X.prog X.w) X.A (Q9 e X.env) (EP X a b Q) X.xe s
def PT (X:Cx)(e:Q1)(t:TT):Prop:=
 ∀(a:U<|QS×Obj) (s:K2) (b:St) (H:Hp) (Q:QT->Hp->Prop),Inv X a b H s->t b H Q->QX (K5 X.prog X.w) X.A (RR e X.env<|Q9 e X.env) (TP X a b Q) X.xe s
def PW (X:Cx)(e:Q1)(t:TT):Prop:=
 ∀(b:Sem L) (a:U<|QS×Obj) (s:K2) (c:St) (H:Hp) (Q:QT->Hp->Prop),Inv X a c H s->t c H Q->QX (K5 X.prog X.w) X.A (RR e X.env b) (TP X a c Q) X.xe s
theorem PW.pt {X:Cx}{e:Q1}{t:TT}(h:PW X e t):PT X e t:=h _
def PA (X:Cx)(d:U Q1)(t:TA):Prop:=
 ∀(b:Pos) (a:U<|QS×Obj) (s:K2) (c:St) (H:Hp) (Q:U V->Hp->Prop),Inv X a c H s->t c H Q->QX (K5 X.prog X.w) X.A (spliced<|Lu b<|K7 d X.env) (AP X a c Q) X.xe s
def PS (X:Cx)(c:Rf)(t:TS):Prop:=
 ∀(a:U<|QS×Obj) (s:K2) (b:St) (H:Hp) (D:bP),Inv X a b H s->t D b H->QX (K5 X.prog X.w) X.A (exec c X.env) (SP X a D) X.xe s
def PSs (X:Cx)(c:U Rf)(t:TS):Prop:=
 ∀(a:U<|QS×Obj) (s:K2) (b:St) (H:Hp) (D:bP),Inv X a b H s->t D b H->QX (K5 X.prog X.w) X.A (execs c X.env) (SP X a D) X.xe s
theorem thn {c:Type}{t:Sem c}{Q b:c->K2->Prop}{M:Model}{A:Lj}{E:L->K2->Prop}{s:K2}(h:QX M A t Q E s)(d:∀a s,Q a s->b a s):QX M A t b E s:=Ly h d λ_ _ x=>x
section
variable {X:Cx}
theorem bin {a b:Q1}{m n:TE}(t:PE X a m)(z:PE X b n){d:U<|QS×Obj}{s:K2}{g:St}{H:Hp}{R:V->V->Hp->Prop}(c:Inv X d g H s)(h:m g H λx l=>n g l λy e=>R x y e)
  {o:Type} {Q:o->K2->Prop} {f:L->L->Sem o}
  (D:∀v u k x y e,Inv X d g e k->RelV x v->RelV y u->R x y e->QX (K5 X.prog X.w) X.A (f v u) Q X.xe k):
  QX (K5 X.prog X.w) X.A (Q9 a X.env) (λv i=>QX (K5 X.prog X.w) X.A (Q9 b X.env) (λu j=>QX (K5 X.prog X.w) X.A (f v u) Q X.xe j) X.xe i) X.xe s:=by
 refine thn (t d s g H _ c h) λv M ⟨x,l,p,r1,F⟩=>?_;refine thn (z d M g l _ p F) λu k ⟨y,e,r,r2,G⟩=>?_;exact D v u k x y e r r1 r2 G
def bJ (i:O):TE:=λa H Q=>∃v,a[i]?=Y (Y v)/\Q v H
def tC (v:V):TE:=λ_ H Q=>Q v H
theorem bM {i:O}{x:Str}{j:Pos}(n:X.N[i]?=Y x)(w:Vis X.env.scope x)(hd:(x==("__debug__":Str))=false:=by decide)(g:(x==("__classdict__":Str))=false:=by decide):PE X (.Name x j) (bJ i):=by
 intro f s y H Q a h;obtain⟨v,e,h⟩:=h;obtain⟨m,t,o⟩:=a.loc;obtain⟨u,r,l⟩:=o i x v n e w;have d:EP X f y Q u s:=⟨v,H,a,r,h⟩;rcases l with⟨hk,p⟩|⟨hk,c,k,b⟩
 .exact wpAny_Name (wpAny_loadName_local a.ok.kind hk t p d) hd
 .rcases hk with hk | hk
  .exact wpAny_Name (wpAny_loadName_cell a.ok.kind hk k b d) hd
  .exact wpAny_Name (wpAny_loadName_free a.ok.kind hk k b d g) hd
theorem kg {i j pos}:PE X (.Constant (.int i) j pos) (tC<|.int i):=λ_ _ _ H _ a h=>wpAny_Constant_int ⟨.int i,H,a.tok _,⟨_,rfl⟩,h⟩
theorem Bd {b j pos}:PE X (.Constant (.bool b) j pos) (tC<|.bl b):=λ_ _ _ H _ a h=>Constant_bool ⟨.bl b,H,a,rfl,h⟩
theorem EA {j pos}:PE X (.Constant .none j pos) (tC .non):=λ_ _ _ H _ a h=>Constant_none ⟨.non,H,a,rfl,h⟩
theorem wz {x j pos}:PE X (.Constant (.str x) j pos) (tC<|.str x):=λ_ _ _ H _ a h=>Calls.Constant_str ⟨.str x,H,a.tok _,⟨_,rfl⟩,h⟩
def Gl (X:Cx)(x:Str):Prop:=X.env.kindOf x=Y .globalImplicit
theorem oQ {E:L->K2->Prop}{b:U<|QS×Obj}{s:K2}{f:St}{H:Hp}{x:Str}{u:L}{c:Pos}{Q:L->K2->Prop}(a:Inv X b f H s)(d:Gl X x)(e:X.mg x=Y u)(h:Q u s)
  (hd:(x==("__debug__":Str))=false:=by decide):QX (K5 X.prog X.w) X.A (Q9 (.Name x c) X.env) Q E s:=
 Calls.Name_function_global a.ok.kind d (Calls.loadGlobal_global (by rw[a.ok.glob];exact a.mod.glob.keeps a.bk) e h) hd
theorem fT {E:L->K2->Prop}{b:U<|QS×Obj}{s:K2}{k:St}{H:Hp}{x:Str}{u:L}{c:Pos}{Q:L->K2->Prop}(a:Inv X b k H s)(f:Gl X x)(g:X.mg x=J)(j:Mx x=Y u)(h:Q u s)
  (i:x≠"__name__":=by decide) (hd:(x==("__debug__":Str))=false:=by decide):QX (K5 X.prog X.w) X.A (Q9 (.Name x c) X.env) Q E s:=by
 obtain⟨l,d,e⟩:=a.mod.blt;exact Calls.Name_function_global a.ok.kind f (Calls.loadGlobal_builtin (by rw[a.ok.glob];exact a.mod.glob.keeps a.bk) g (by rw[a.ok.blt];exact d.keeps a.bk) ((e x i).trans j) h) hd
theorem pC {x:Str}{v:V}{u:L}{b:Pos}(c:Gl X x)(d:X.mg x=Y u)(r:RelV v u)(hd:(x==("__debug__":Str))=false:=by decide):PE X (.Name x b) (tC v):=
 λ_ _ _ H _ a h=>oQ a c d ⟨v,H,a,r,h⟩ hd
theorem yg {x:Str}{v:V}{u:L}{b:Pos}(c:Gl X x)(d:X.mg x=J)(f:Mx x=Y u)(r:RelV v u)(e:x≠"__name__":=by decide)(hd:(x==("__debug__":Str))=false:=by decide):PE X (.Name x b) (tC v):=
 λ_ _ _ H _ a h=>fT a c d f ⟨v,H,a,r,h⟩ e hd
def t2I (d e:TE)(k:I->I->Hp->Prop):St->Hp->Prop:=λa H=>d a H λx b=>e a b λy c=>∃i j,x=.int i/\y=.int j/\k i j c
def AR (b c:TE):TE:=λd H Q=>t2I b c (λi j a=>Q (.int<|i+j) a) d H
variable {a b:Q1}{ta tb:TE}{pos:Pos}
theorem Cc (g:PE X a ta)(k:PE X b tb):PE X (.BinOp a .Add b pos) (AR ta tb):=by intro d s p H Q c h;refine wpAny_BinOp<|bin g k c h λv u n x y e f l m q=>?_;obtain⟨i,j,rfl,rfl,q⟩:=q;obtain⟨t,rfl⟩:=l;obtain⟨o,rfl⟩:=m;exact add_int ⟨.int _,e,f.tok _,⟨_,rfl⟩,q⟩
def PC (X:Cx)(op:CmpOp)(a b:Q1)(t:TE):Prop:=
 ∀(c:U<|QS×Obj) (s:K2) (f:St) (H:Hp) (Q:VK),Inv X c f H s->t f H Q ->
  QX (K5 X.prog X.w) X.A (Q9 a X.env) (λv d=>QX (K5 X.prog X.w) X.A (Q9 b X.env) (λu e=>QX (K5 X.prog X.w) X.A (LV op v u) (EP X c f Q) X.xe e) X.xe d) X.xe s
def tB (t:TE):TT:=λe H Q=>t e H λx d=>∃c,x=.bl c/\Q c d
theorem Dp {op:CmpOp}{t:TE}(h:PC X op a b t)(g:Ms op b=false:=by first|exact nobehind _ (by decide) (by decide)|rfl):PT X (.Compare a [op] [b] pos) (tB t):=by intro f s n H Q e l;refine Ru (thn (h f s n H _ e l) λv o g=>thn g λu p k=>thn k λc r ⟨x,i,j,r1,m⟩=>?_) g;obtain⟨d,rfl,q⟩:=m;cases r1;exact NT ⟨i,j,q⟩
theorem w6 {e:Q1}{t:TE}(h:PE X e t)(k:∀f,RR e X.env f=(do let v <- f;RT e.pos;MN [v] (truthy v)):=by intro _;rfl):PT X e (tB t):=by intro g s n H Q c l;refine isTrue_plain (thn (h g s n H _ c l) λv o ⟨x,i,j,r1,m⟩=>?_)<|k _;obtain⟨d,rfl,q⟩:=m;cases r1;exact NT ⟨i,j,q⟩
variable {tA tB':TT}{rest:U Q1}
noncomputable def Ja (t u:TT):TT:=λe H Q=>t e H λc d=>if c=K1 then u e d Q else Q K0 d
noncomputable def tOr (t u:TT):TT:=λe H Q=>t e H λc d=>if c=K1 then Q K1 d else u e d Q
def II (t:TT):TT:=λe H Q=>t e H λc d=>Q (!c) d
theorem xG (g:PT X a tA):PW X (.BoolOp .And [a] pos) tA:=by
 intro k f s i H Q d h;refine isTrue_and<|thn (g f s i H Q d h) λc j e=>?_;cases c with
 |true=>exact isTrue_and_nil e
 |false=>exact e
theorem E3 (g:PT X a tA):PW X (.BoolOp .Or [a] pos) tA:=by
 intro k f s i H Q d h;refine isTrue_or<|thn (g f s i H Q d h) λc j e=>?_;cases c with
 |false=>exact isTrue_or_nil e
 |true=>exact e
theorem E7 (k:PT X a tA)(l:PW X (.BoolOp .And (b::rest) pos) tB'):PW X (.BoolOp .And (a::b::rest) pos) (Ja tA tB'):=by
 intro n e s j H Q d h;refine isTrue_and<|thn (k e s j H _ d h) λc m ⟨f,g,i⟩=>?_;cases c with
 |true=>exact l n e m j f Q g i
 |false=>exact⟨f,g,i⟩
theorem Hq (k:PT X a tA)(l:PW X (.BoolOp .Or (b::rest) pos) tB'):PW X (.BoolOp .Or (a::b::rest) pos) (tOr tA tB'):=by
 intro n e s j H Q d h;refine isTrue_or<|thn (k e s j H _ d h) λc m ⟨f,g,i⟩=>?_;cases c with
 |true=>exact⟨f,g,i⟩
 |false=>exact l n e m j f Q g i
theorem DK (g:PT X a tA):PT X (.UnaryOp .Not a pos) (II tA):=by intro e s i H Q d h;exact isTrue_not<|g e s i H (λc f=>Q (!c) f) d h
def tIf (t:TT)(ta tb:TE):TE:=λd H Q=>t d H λc e=>if c=K1 then ta d e Q else tb d e Q
theorem tU {c:Q1}(o:PT X c tA)(m:PE X a ta)(n:PE X b tb):PE X (.IfExp c a b pos) (tIf tA ta tb):=by
 intro f s g H Q e h;refine wpAny_IfExp<|thn (o f s g H _ e h) λd l ⟨i,j,k⟩=>?_;cases d with
 |true=>exact m f l g i Q j k
 |false=>exact n f l g i Q j k
end
def SqL (K:K3)(H:Hp)(a:QS)(c:U V):Prop:=
 Rd H a (.lst c) \/
  ∃(o:Obj) (b:Rg L) (n:O),K.lookup a=Y o/\o.cls=.type "list"/\o.dict=J/\o.data=.seq b n/\b.size<=sizeLine/\Vals c b.toList
def SqT (K:K3)(H:Hp)(a:QS)(c:U V):Prop:=
 Rd H a (.tup c) \/
  ∃(o:Obj) (b:Rg L) (n:O),K.lookup a=Y o/\o.cls=.type "tuple"/\o.data=.seq b n/\b.size<=sizeLine/\Vals c b.toList
def Jy:L->B V
|.none=>Y .non
|.bool b=>Y<|.bl b
|.int i _=>Y<|.int i
|.str x _=>Y<|.str x
|.bytes b _=>Y<|.byt b
|.float b _=>Y<|.flt b
|.ref a=>Y<|.ref a
|.type n=>Y<|.ty n
|_=>J
theorem RelV.abs {x:V}{u:L}(r:RelV x u):Jy u=Y x:=by
 cases x with
 |non=>cases r;rfl
 |bl _=>cases r;rfl
 |int _=>obtain⟨t,rfl⟩:=r;rfl
 |str _=>obtain⟨t,rfl⟩:=r;rfl
 |byt _=>obtain⟨t,rfl⟩:=r;rfl
 |flt _=>obtain⟨t,rfl⟩:=r;rfl
 |ref _=>cases r;rfl
 |ty _=>cases r;rfl
theorem RelV.inj {x y:V}{u:L}(r:RelV x u)(q:RelV y u):x=y:=LG<|r.abs.symm.trans q.abs
theorem Vals.inj:∀{b c:U V} {a:U L},Vals b a->Vals c a->b=c
|_,_,_,.nil,.nil=>rfl
|_,_,_,.cons r t,.cons d e=>by rw[r.inj d,Vals.inj t e]
section
variable {X:Cx}{pins:U (QS×Obj)}{σ:St}{H:Hp}{s:K2}{a:QS}{xs ys:U V}
theorem SqL.of {K:K3}(h:H a=Y (.lst xs)):SqL K H a xs:=.inl<|.inl h
theorem SqT.of {K:K3}(h:H a=Y (.tup xs)):SqT K H a xs:=.inl<|.inl h
theorem Inv.list (b:Inv X pins σ H s)(h:SqL X.K H a xs):∃c:U L,Vals xs c/\PlainL s.heap a c.toArray/\xs.length<=sizeLine:=by
 rcases h with h|⟨o,c,n,hk,hc,hd,hs,hz,r⟩
 .obtain ⟨z,c,n,r,e⟩:=h.ok b.hok;exact⟨c,r,⟨_,n,e,rfl,rfl,rfl⟩,z⟩
 .refine ⟨c.toList,r,⟨o,n,b.kIn a o hk,hc,hd,by simpa using hs⟩,?_⟩;have e:=r.length;simp only[Mp] at e;lia
theorem Inv.tuple (b:Inv X pins σ H s)(h:SqT X.K H a xs):∃c:U L,Vals xs c/\RB s.heap a c.toArray/\xs.length<=sizeLine:=by
 rcases h with h|⟨o,c,n,hk,hc,hs,hz,r⟩
 .obtain ⟨z,c,r,p⟩:=h.ok b.hok;exact⟨c,r,p,z⟩
 .refine ⟨c.toList,r,⟨o,b.kIn a o hk,hc,n,by simpa using hs⟩,?_⟩;have e:=r.length;simp only[Mp] at e;lia
theorem Inv.list_inj (b:Inv X pins σ H s)(h:SqL X.K H a xs)(k:SqL X.K H a ys):xs=ys:=by
 obtain⟨f,r,⟨o,n,e,_,_,d⟩,_⟩:=b.list h;obtain⟨c,l,⟨p,m,i,_,_,g⟩,_⟩:=b.list k;rw[e] at i;cases i;rw[d] at g;injection g with j _
 have:f=c:=by simpa using Q8 PZ j
 subst this;exact r.inj l
theorem Inv.tuple_inj (b:Inv X pins σ H s)(h:SqT X.K H a xs)(k:SqT X.K H a ys):xs=ys:=by
 obtain⟨f,r,⟨o,e,_,n,d⟩,_⟩:=b.tuple h;obtain⟨c,l,⟨p,i,_,m,g⟩,_⟩:=b.tuple k;rw[e] at i;cases i;rw[d] at g;injection g with j _
 have:f=c:=by simpa using Q8 PZ j
 subst this;exact r.inj l
end
abbrev Cx.wish (X:Cx)(E:L->K2->Prop):Cx:={X with xe:=E}
abbrev Cx.nox (X:Cx):Cx:=X.wish λ_ _=>Q6
theorem Cx.Ok.wish {X:Cx}(ok:X.Ok)(E:L->K2->Prop):(X.wish E).Ok:=
 ⟨ok.mod,ok.kind,ok.glob,ok.blt,ok.above,ok.inj,ok.has,ok.cab,ok.hd,ok.frames,ok.stk,ok.exf,ok.bs,ok.bsz,ok.noex,ok.exfs,ok.funs,ok.frf⟩
theorem Cx.Ok.unwish {X:Cx}{E:L->K2->Prop}(ok:(X.wish E).Ok):X.Ok:=
 ⟨ok.mod,ok.kind,ok.glob,ok.blt,ok.above,ok.inj,ok.has,ok.cab,ok.hd,ok.frames,ok.stk,ok.exf,ok.bs,ok.bsz,ok.noex,ok.exfs,ok.funs,ok.frf⟩
section
variable {X:Cx}{pins:U (QS×Obj)}{σ:St}{H:Hp}{s:K2}{E:L->K2->Prop}
theorem Inv.wish (a:Inv X pins σ H s)(E:L->K2->Prop):Inv (X.wish E) pins σ H s:=⟨a.ok.wish E,a.os,a.bare,a.base,a.loc,a.cell,a.free,a.freeC,a.pin,a.hok,a.len⟩
theorem Inv.unwish (a:Inv (X.wish E) pins σ H s):Inv X pins σ H s:=⟨a.ok.unwish,a.os,a.bare,a.base,a.loc,a.cell,a.free,a.freeC,a.pin,a.hok,a.len⟩
theorem SP.unwish {D:bP}{f:Flow}{d:K2}(h:SP (X.wish E) pins D f d):SP X pins D f d:=by
 cases f with
 |next=>obtain⟨b,c,a,q⟩:=h;exact⟨b,c,a.unwish,q⟩
 |brk=>obtain⟨b,c,a,q⟩:=h;exact⟨b,c,a.unwish,q⟩
 |cont=>obtain⟨b,c,a,q⟩:=h;exact⟨b,c,a.unwish,q⟩
 |ret u=>obtain⟨v,b,c,a,r,q⟩:=h;exact⟨v,b,c,a.unwish,r,q⟩
theorem PSs.nox {b:U Rf}{t:TS}(h:PSs X.nox b t):PSs X b t:=λpins s σ H D a c=>
 Ly (h pins s σ H D (a.wish _) c) (λ_ _ q=>q.unwish) λ_ _ z=>Ml z
end
section
variable {X:Cx}{st:Rf}{rest:U Rf}{t u:TS}{e:Q1}{te:TE}{pos:Pos}
def lR:TS:=λD a H=>D.nx a H
def nE (t u:TS):TS:=λD a H=>t {D with nx:=u D} a H
theorem gz:PSs X [] lR:=λ_ _ b H _ a h=>Of ⟨b,H,a,h⟩
theorem bZ (i:PS X st t)(j:PSs X rest u):PSs X (st::rest) (nE t u):=by
 intro b s l H D a h;refine wpAny_execs_cons<|thn (i b s l H {D with nx:=u D} a h) λf k q=>?_;cases f with
 |next=>obtain⟨c,d,g,q⟩:=q;exact j b k c d D g q
 |ret v=>exact q
 |brk=>exact q
 |cont=>exact q
theorem dG (c:PS X st t):PSs X [st] t:=by
 intro b s d H D a h;refine wpAny_execs_cons<|thn (c b s d H D a h) λf g q=>?_;cases f with
 |next=>exact Of q
 |ret v=>exact q
 |brk=>exact q
 |cont=>exact q
theorem Inv.quiet {b:U<|QS×Obj}{c:St}{H:Hp}{s:K2}(a:Inv X b c H s):interactive X.env=false:=by simp[interactive,a.ok.kind]
def pq (te:TE):TS:=λD a H=>te a H λ_ b=>D.nx a b
theorem fK (g:PE X e te)(i:L7 e J pos.line X.env=pure false:=by rfl):PS X (.Expr e pos) (pq te):=by intro b s c H D a h;exact wpAny_Expr_any (thn (g b s c H _ a h) λv k ⟨x,d,f,r1,j⟩=>⟨c,d,f,j⟩) a.quiet i
def Hv (te:TE):TS:=λD a H=>te a H D.rt
theorem mM (g:PE X e te):PS X (.Return (Y e) pos) (Hv te):=by intro b s c H D a h;exact wpAny_Return_some<|thn (g b s c H _ a h) λv j ⟨x,d,f,r1,i⟩=>⟨x,c,d,f,r1,i⟩
noncomputable def xp (c:TT)(t u:TS):TS:=λD a H=>c a H λb d=>if b=K1 then t D a d else u D a d
theorem om {c:Q1}{a b:U Rf}{n:TT}(r:PT X c n)(o:PSs X a t)(p:PSs X b u):PS X (.If c a b pos) (xp n t u):=by
 intro g s i H D f h;refine wpAny_If<|thn (r g s i H _ f h) λd m ⟨j,k,l⟩=>?_;cases d with
 |true=>exact o g m i j D k l
 |false=>exact p g m i j D k l
end
abbrev TG:=V->St->Hp->(St->Hp->Prop)->Prop
abbrev TGs:=U V->St->Hp->(St->Hp->Prop)->Prop
def PG (X:Cx)(a:Q1)(t:TG):Prop:=
 ∀(b:U<|QS×Obj) (s:K2) (e:St) (H:Hp) (v:V) (u:L) (Q:St->Hp->Prop),Inv X b e H s->RelV v u->t v e H Q ->
  QX (K5 X.prog X.w) X.A (Mk a X.env u) (λ_ f=>∃c d,Inv X b c d f/\Q c d) X.xe s
def PGs (X:Cx)(h:U Q1)(t:TGs):Prop:=
 ∀(a:U<|QS×Obj) (s:K2) (f:St) (H:Hp) (e:U V) (d:U L) (Q:St->Hp->Prop),Inv X a f H s->Vals e d->t e f H Q ->
  QX (K5 X.prog X.w) X.A (assignInOrder ((M9 h X.env).map (·.2)) d) (λ_ g=>∃b c,Inv X a b c g/\Q b c) X.xe s
abbrev Fh:=V->V->V->Hp->(Hp->Prop)->Prop
def HP (X:Cx)(t:Fh):Prop:=
 ∀(a:U<|QS×Obj) (s:K2) (d:St) (H:Hp) (o i v:V) (c iv u:L) (Q:Hp->Prop),Inv X a d H s->RelV o c->RelV i iv->RelV v u->t o i v H Q ->
  QX (K5 X.prog X.w) X.A (setItem c iv u) (λ_ e=>∃b,Inv X a d b e/\Q b) X.xe s
section
variable {X:Cx}{pos:Pos}
def bO (i:O):TG:=λv a H Q=>Q (a.set i<|Y v) H
theorem bN {i:O}{x:Str}(d:X.N.Nodup)(f:X.N[i]?=Y x)(hx:Loc X.env.scope x)(e:X.fn x=K1\/X.env.scope.names.lookup x=Y .local:=by first|exact .inl rfl|exact .inr rfl|assumption):PG X (.Name x pos) (bO i):=by intro b s j H v u Q a r h;exact wpAny_assign_Name<|lE a d f hx r (λg c=>⟨_,H,c,h⟩) e
def zU:TGs:=λa b H Q=>a=[]/\Q b H
noncomputable def gf (t:TG)(u:TGs):TGs:=λc d H Q=>∃v r,c=v::r/\t v d H λa b=>u r a b Q
theorem jK:PGs X [] zU:=by intro b s c H f d Q a r h;obtain⟨e,h⟩:=h;subst e;cases r;exact assignInOrder_nil ⟨c,H,a,h⟩
theorem cA {e:Q1}{c:U Q1}{t:TG}{u:TGs}(i:PG X e t)(j:PGs X c u)
  (k:(M9 (e::c) X.env).map (·.2)=Mk e X.env::(M9 c X.env).map (·.2):=by rfl):PGs X (e::c) (gf t u):=by
 intro b s o H x p Q a r h;obtain⟨v,w,e1,h⟩:=h;subst e1;cases r with
 |cons r m=>rw[k];refine assignInOrder_cons<|thn (i b s o H _ _ _ a r h) λ_ n ⟨d,f,g,l⟩=>?_;exact j b n d f _ _ Q g m l
def AI (K:K3)(n:O)(t:TGs):TG:=λv c H Q=>∃a b,v=.ref a/\SqT K H a b/\b.length=n/\t b c H Q
theorem nY {f:U Q1}{k:O}{t:TGs}{n:O}(w:X.calm=K1)(h:PGs X f t)
  (y:(M9 f X.env).length=n:=by rfl) (g:(M9 f X.env).findIdx? (·.1)=none:=by rfl):PG X (.Tuple f k pos) (AI X.K n t):=by
 intro d s l H v u Q c r i;obtain⟨a,F,e1,z,x,i⟩:=i;subst e1;cases r;obtain⟨D,j,A,G⟩:=c.tuple z;refine assign_Tuple_tuple (c.ok.hd w) A (by simp[y,<- x,j.length]) g λp hx=>?_;have m:Inv X d l H {s with heap:=p}:=c.kept (t':=s.toks) λb o e=>hx b o (Lp<|Heap.lt_size e) e;exact h d _ l H F _ Q m (by simpa using j) i
def Ji (to e:TE)(t:Fh):TG:=λv a H Q=>to a H λo b=>e a b λi c=>t o i v c λd=>Q a d
theorem C6 {o i:Q1}{to e:TE}{t:Fh}(ho:PE X o to)(p:PE X i e)(w:HP X t)
  (n:∀ v,Mk (.Subscript o i pos) X.env v=(do
   let c <- MN [v] (Q9 o X.env);let iv <- MN [v,c] (Q9 i X.env)
   RT pos
   MN [v,c,iv] (setItem c iv v)
   release [v,c,iv] []):=by intro _;rfl):PG X (.Subscript o i pos) (Ji to e t):=by
 intro b s d H v u Q a r h;rw[n];refine K4<|M4<|thn (ho b s d H _ a h) λc F ⟨x,f,k,r1,z⟩=>?_;refine K4<|M4<|thn (p b F d f _ k z) λiv G ⟨y,g,l,r2,A⟩=>?_;refine K4<|Od<|K4<|M4<|thn (w b G d g x y v c iv u _ l r1 r2 r A) λ_ M ⟨j,m,D⟩=>?_;exact wpAny_release ⟨d,j,m,D⟩
def kz (c:TE)(g:TG):TS:=λD a H=>c a H λx b=>g x a b D.nx
theorem xr {c e:Q1}{d:TE}{g:TG}(l:PE X e d)(m:PG X c g)(n:RC [c] e pos.line X.env=pure false:=by rfl)(o:RD [c] e X.env=pure none:=by rfl)
  (k:(M9 [c] X.env).map (·.2)=[Mk c X.env]:=by rfl):PS X (.Assign [c] e pos) (kz d g):=by
 intro b s f H D a h;refine wpAny_Assign_stores (thn (l b s f H _ a h) λv r ⟨x,i,j,r1,p⟩=>?_) n o;rw[k];exact thn (m b r f i x v _ j r1 p) λ_ t q=>q
theorem kc {i:O}{x:Str}{e:Q1}{d:TE}{b:Pos}(k:X.N.Nodup)(n:X.N[i]?=Y x)(hx:Loc X.env.scope x)(l:PE X e d)(o:L7 e (Y<|.Name x b) pos.line X.env=pure false:=by rfl)(m:X.fn x=K1\/X.env.scope.names.lookup x=Y .local:=by first|exact .inl rfl|exact .inr rfl|assumption):
  PS X (.Assign [.Name x b] e pos) (kz d<|bO i):=by
 intro c s r H D a h;refine wpAny_Assign_Name (thn (l c s r H _ a h) λv t ⟨y,f,g,r1,p⟩=>?_) o;exact lE g k n hx r1 (λu j=>⟨_,f,j,p⟩) m
end
structure It where
 go:O->Hp->Prop
 yld:O->Hp->V->Hp->Prop
 stop:O->Hp->Prop
def iW (X:Cx)(a:U<|QS×Obj)(H:Hp)(b:QS):Prop:=
 H b=J/\b≠X.env.locals/\b ∉ X.fs/\(b∈X.ex\/X.s₀.heap.objs.size<=b)/\(∀x c,X.env.cells.lookup x=Y c->c≠b)/\∀p∈X.pn++a,p.1≠b
theorem Inv.fpOk {X:Cx}{d:U<|QS×Obj}{i:St}{H g:Hp}{s:K2}{b:QS}(a:Inv X d i H s)(f:s.heap.objs.size<=b)(h:g b=J):iW X d g b:=by
 refine⟨h,MQ<|LD a.lt f,a.nofs f,.inr<|Lf a.sz f,λx c e z=>?_,λp hp z=>?_⟩
 .obtain ⟨v,q⟩:=a.cell x c e;exact QW (LD q.lt<|by rw[z];exact f)<|Nq _
 .exact QW (LD (Heap.lt_size (a.pin p hp).1)<|by rw[z];exact f) (Nq _)
structure qr (P:QZ)(w:K6)(K:K3)(tg:Q1)(J:It)(fp:U QS)(it:QS)(tn:O->Q5->Prop):Prop where
 mem:it∈fp
 obj:∀i h,tn i h->∀b∈fp,∃o,h.get? b=Y o/\∀v,o.data≠.cell v
 keep:∀i h h',tn i h->(∀b∈fp,∀o,h.get? b=Y o->h'.get? b=Y o)->tn i h'
 item:∀(X:Cx),X.prog=P->X.w=w->X.K=K->X.calm=K1->∀(i:O) (pins:U (QS×Obj)) (s:K2) (σ:St) (H:Hp) (E:L->K2->Prop),Inv X pins σ H s->(∀b∈fp,iW X pins H b)->tn i s.heap->J.go i H ->
  QX (K5 P w) X.A (MH (.ref it)) (λr s1=>∃u,r=Y u /\
   QX (K5 P w) X.A (Ny tg (.ref it) u) (λ_ s2=>∃x H',Inv X pins σ H' s2/\RelV x u/\J.yld i H x H'/\tn (i+1) s2.heap/\∀b∈fp,H' b=KY) E s1) E s
 done:∀(X:Cx),X.prog=P->X.w=w->X.K=K->X.calm=K1->∀(i:O) (pins:U (QS×Obj)) (s:K2) (σ:St) (H:Hp) (E:L->K2->Prop),Inv X pins σ H s->(∀b∈fp,iW X pins H b)->tn i s.heap->J.stop i H ->
  QX (K5 P w) X.A (MH (.ref it)) (λr s1=>r=KY/\Inv X pins σ H s1) E s
 self:∀(A:Lj) (i:O) (s:K2) (Q:L->K2->Prop) (E:L->K2->Prop),tn i s.heap->Q (.ref it) s->QX (K5 P w) A (pyIter (.ref it)) Q E s
abbrev TI:=St->Hp->(It->Hp->Prop)->Prop
def PIE (X:Cx)(c:U<|QS×Obj)(j:St)(i:Q1)(R:It->Hp->Prop)(e:L)(h:K2):Prop:=
 ∃(g:QS) (f:U QS) (tn:O->Q5->Prop) (a:It) (d:Hp),e=.ref g/\Inv X c j d h/\qr X.prog X.w X.K i a f g tn/\tn 0 h.heap/\(∀b∈f,iW X c d b)/\R a d
def PI (X:Cx)(e b:Q1)(f:TI):Prop:=
 ∀(a:U<|QS×Obj) (s:K2) (c:St) (H:Hp) (R:It->Hp->Prop),Inv X a c H s->f c H R ->
  QX (K5 X.prog X.w) X.A (Q9 b X.env) (λv d=>QX (K5 X.prog X.w) X.A (pyIter v) (PIE X a c e R) X.xe d) X.xe s
theorem v5 {M:Model}{A:Lj}{E:L->K2->Prop}{s:K2}{c:Q1}{b:QS}{u:L}{o:Obj}{n:Q4}{d:Rg L}{Q:Unit->K2->Prop}(ho:s.heap.get? b=Y o)(e:o.cls=.type n)(hd:o.data=.fields d)
  (f:["enumerate","zip","dict_itemiterator","dict_reverseitemiterator","odict_iterator","itertools.zip_longest","itertools.pairwise"].contains n=K0) (a:Q () s):QX M A (Ny c (.ref b) u) Q E s:=by
 unfold Ny
 cases c<;>first
  |exact Lc a
  | (cases u<;>first
    |exact Lc a
    | (refine K4 (wpAny_load ho ?_)
       rw[e,hd];show QX M A (if(["enumerate","zip","dict_itemiterator","dict_reverseitemiterator","odict_iterator","itertools.zip_longest","itertools.pairwise"].contains n&&d[0]?==Y (MA _))=K1 then _ else _) Q E s;rw[Q0<|by intro h;rw[f,Bool.false_and] at h;cases h];exact Lc a))
def Itl (K:K3)(a:QS):It:=
 ⟨λi H=>∃b x,SqL K H a b/\b[i]?=Y x,λi H x c=>c=H/\∀b,SqL K H a b->b[i]?=Y x,λi H=>∃b,SqL K H a b/\b.length<=i⟩
def Itt (K:K3)(a:QS):It:=
 ⟨λi H=>∃b x,SqT K H a b/\b[i]?=Y x,λi H x c=>c=H/\∀b,SqT K H a b->b[i]?=Y x,λi H=>∃b,SqT K H a b/\b.length<=i⟩
def Itr (lo:I)(n:O):It:=⟨λi _=>i<n,λi H x a=>a=H/\x=.int (lo+i),λi _=>n<=i⟩
theorem qE {P:QZ}{w:K6}{K:K3}{tg:Q1}(a m:QS):qr P w K tg (Itl K a) [m] m (λi h=>h.IsListIter m a i) where
 mem:=by simp
 obj:=λi h g b l=>by
  have e:b=m:=by simpa using l
  subst e;obtain⟨o,e,c,d⟩:=g;exact⟨o,e,λv z=>by rw[d] at z;cases z⟩
 keep:=λi h r g k=>g.at λo e=>k m (by simp) o e
 item:=by intro X Q hw N hc i j s σ H E f t g Z;subst Q hw N;obtain⟨xs,x,y,hx⟩:=Z;obtain⟨its,rv,p,hz⟩:=f.list y;obtain⟨u,hu,ru⟩:=rv.get hx;obtain⟨A,D,f2,F,G,M⟩:=t m (by simp);refine Rp g p.isList (x:=u) (by simpa using hu) λr n sb=>?_;have I1:Inv X j σ H {s with heap:=r}:=f.turned (t':=s.toks) (λb o l e=>(sb.2 b l).trans e) A D F G M;obtain⟨o,e,c,d⟩:=id n;exact⟨u,rfl,v5 (s:={s with heap:=r}) e c d (by decide) ⟨x,H,I1,ru,⟨rfl,λys hy=>by rw[f.list_inj hy y];exact hx⟩,n,λb l=>(t b l).1⟩⟩
 done:=by intro X Q hw N hc i j s σ H E f t g Z;subst Q hw N;obtain⟨xs,y,hx⟩:=Z;obtain⟨its,rv,p,hz⟩:=f.list y;obtain⟨A,D,f2,F,G,M⟩:=t m (by simp);have hl:=rv.length;exact Rv (f.ok.hd hc) g p.isList (by simp;lia) λr eb=>⟨rfl,f.turned (t':=s.toks) (λb o l e=>eb b o l e) A D F G M⟩
 self:=λ_ _ _ _ _ g h=>wpAny_pyIter_listiter g h
theorem mC {P:QZ}{w:K6}{K:K3}{tg:Q1}(a m:QS):qr P w K tg (Itt K a) [m] m (λi h=>h.IsTupleIter m a i) where
 mem:=by simp
 obj:=λi h g b l=>by
  have e:b=m:=by simpa using l
  subst e;obtain⟨o,e,c,d⟩:=g;exact⟨o,e,λv z=>by rw[d] at z;cases z⟩
 keep:=λi h t g k=>g.at λo e=>k m (by simp) o e
 item:=by intro X Z hw Q hc i j s σ H E f y g hg;subst Z hw Q;obtain⟨xs,x,A,hx⟩:=hg;obtain⟨n,rv,p,hz⟩:=f.tuple A;obtain⟨u,hu,ru⟩:=rv.get hx;obtain⟨D,F,f2,G,M,N⟩:=y m (by simp);refine wpAny_pyNext_tuple_item g (show s.heap.IsTuple a n.toArray from p) (x:=u) (by simpa using hu) λt r sb=>?_;have I1:Inv X j σ H {s with heap:=t}:=f.turned (t':=s.toks) (λb o l e=>(sb.2 b l).trans e) D F G M N;obtain⟨o,e,c,d⟩:=id r;exact⟨u,rfl,v5 (s:={s with heap:=t}) e c d (by decide) ⟨x,H,I1,ru,⟨rfl,λys hy=>by rw[f.tuple_inj hy A];exact hx⟩,r,λb l=>(y b l).1⟩⟩
 done:=by intro X Z hw Q hc i j s σ H E f y g hg;subst Z hw Q;obtain⟨xs,A,hx⟩:=hg;obtain⟨n,rv,p,hz⟩:=f.tuple A;obtain⟨D,F,f2,G,M,N⟩:=y m (by simp);have hl:=rv.length;exact wpAny_pyNext_tuple_end (f.ok.hd hc) g (show s.heap.IsTuple a n.toArray from p) (by simp;lia) λt eb=>⟨rfl,f.turned (t':=s.toks) (λb o l e=>eb b o l e) D F G M N⟩
 self:=λ_ _ _ _ _ g h=>wpAny_pyIter_tupleiter g h
theorem nT {P:QZ}{w:K6}{K:K3}{tg:Q1}(d:QS)(lo:I)(n:O):qr P w K tg (Itr lo n) [d] d (λi h=>IsRangeIter h d (lo+(i:O) * 1) ((n:I)-(i:O)) 1) where
 mem:=by simp
 obj:=λi h c b g=>by
  have e:b=d:=by simpa using g
  subst e
  exact⟨_,c,λv z=>by
   have z':Data.fields _=Data.cell v:=z;cases z'⟩
 keep:=λi h l c k=>k d (by simp) _ c
 item:=by intro X D M A F i f s Q H E a m c G;subst D M A;obtain⟨p,r,f2,u,x,y⟩:=m d (by simp);have W:=Walks.range (prog:=X.prog) (w:=X.w) (a.ok.hd F) d lo 1 n;refine W.item i s _ _ G c λv l N hv j kk=>?_;obtain⟨t,rfl⟩:=hv;have Z:Inv X f Q H {s with heap:=l,toks:=N}:=a.turned (λb o g e=>kk b o (by simpa using g) e) p r u x y;refine⟨_,rfl,v5 (s:={s with heap:=l,toks:=N}) (n:="range_iterator") j rfl rfl (by decide) ⟨.int<|lo+i,H,Z,⟨t,?_⟩,⟨rfl,rfl⟩,j,λb g=>(m b g).1⟩⟩;rw[Int.mul_one]
 done:=by intro X D M A F i f s Q H E a m c G;subst D M A;obtain⟨p,r,f2,u,x,y⟩:=m d (by simp);exact wpAny_pyNext_range_end (a.ok.hd F) c (by have:n<=i:=G;lia) λl eb=>⟨rfl,a.turned (t':=s.toks) (λb o g e=>eb b o g e) p r u x y⟩
 self:=λ_ _ _ _ _ c h=>wpAny_pyIter_rangeiter c h
section
variable {X:Cx}{tg:Q1}
def dI (K:K3)(c:TE):TI:=λe H R=>c e H λx b=>∃a,x=.ref a/\(∃d,SqL K b a d)/\R (Itl K a) b
def Dq (K:K3)(c:TE):TI:=λe H R=>c e H λx b=>∃a,x=.ref a/\(∃d,SqT K b a d)/\R (Itt K a) b
theorem eF {l:Q1}{i:TE}(m:PE X l i):PI X tg l (dI X.K i):=by
 intro d s u H R c h;refine thn (m d s u H _ c h) λv g ⟨x,j,f,r1,t⟩=>?_;obtain⟨a,e,⟨z,n⟩,q⟩:=t;subst e;cases r1;obtain⟨r,y,p,w⟩:=f.list n;refine Nf p.isList ?_;refine⟨g.heap.objs.size,[g.heap.objs.size],_,_,j,rfl,f.kept (t':=g.toks) λb o e=>Heap.get?_push_of_some _ e,qE a _,⟨_,Heap.get?_push_size _ rfl,rfl,rfl⟩,λb k=>?_,q⟩;have e:b=g.heap.objs.size:=by simpa using k
 subst e;exact f.fpOk (La _)<|f.hok.fresh<|La _
theorem nC {l:Q1}{j:TE}(n:PE X l j):PI X tg l (Dq X.K j):=by
 intro d s u H R c h;refine thn (n d s u H _ c h) λv f ⟨x,k,g,r1,t⟩=>?_;obtain⟨a,e,⟨z,r⟩,q⟩:=t;subst e;cases r1;obtain⟨i,y,p,w⟩:=g.tuple r;refine MY (show f.heap.IsTuple a i.toArray from p) ?_;refine⟨f.heap.objs.size,[f.heap.objs.size],_,_,k,rfl,g.kept (t':=f.toks) λb o e=>Heap.get?_push_of_some _ e,mC a _,⟨_,Heap.get?_push_size _ rfl,rfl,rfl⟩,λb m=>?_,q⟩;have e:b=f.heap.objs.size:=by simpa using m
 subst e;exact g.fpOk (La _)<|g.hok.fresh<|La _
theorem xa {d:U<|QS×Obj}{h:St}{H:Hp}{s:K2}{R:It->Hp->Prop}{E:L->K2->Prop}{lo c:I}{t u v:Tok}{g:O}(a:Inv X d h H s)(i:-(2 ^ 62)<=lo)(j:lo<2 ^ 62)(k:-(2 ^ 62)<=c)(l:c<2 ^ 62)
  (q:R (Itr lo (c-lo).toNat) H):QX (K5 X.prog X.w) X.A (pyIter<|.ref s.heap.objs.size) (PIE X d h tg R) E {s with heap:=s.heap.push {cls:=.type "range",data:=.fields #[.int lo t,.int c u,.int 1 v]},toks:=g}:=by
 refine wpAny_pyIter_range (IsRange.new ..) (small_one i j k l) ?_;have f:Inv X d h H {s with heap:=s.heap.push {cls:=.type "range",data:=.fields #[.int lo t,.int c u,.int 1 v]},toks:=g}:=a.kept λb o e=>Heap.get?_push_of_some _ e
 refine⟨(s.heap.push {cls:=.type "range",data:=.fields #[.int lo t,.int c u,.int 1 v]}).objs.size,[(s.heap.push {cls:=.type "range",data:=.fields #[.int lo t,.int c u,.int 1 v]}).objs.size],_,_,H,rfl,
  f.kept (t':=g) λb o e=>Heap.get?_push_of_some _ e,nT _ lo (c-lo).toNat,?_,λb m=>?_,q⟩
 .have e1:lo+((0:O):I) * 1=lo:=by simp
  have e2:(((c-lo).toNat:O):I)-((0:O):I)=Builtin.Range.rangeSize lo c 1:=by rw[rangeSize_one];split<;>lia
  show IsRangeIter _ _ (lo+((0:O):I) * 1) ((((c-lo).toNat:O):I)-((0:O):I)) 1;rw[e1,e2];exact Heap.get?_push_size _ rfl
 .have e:b=(s.heap.push { cls:=.type "range",data:=.fields #[.int lo t,.int c u,.int 1 v] }).objs.size:=by simpa using m
  subst e;exact f.fpOk (La _)<|f.hok.fresh<|La _
def Bl (b:TA):TI:=λd H R=>b d H λc a=>∃j:I,c=[.int j]/\-(2 ^ 62)<=j/\j<2 ^ 62/\R (Itr 0 j.toNat) a
theorem rQ {a:Q1}{g:TA}{p d:Pos}(l:Gl X "range")(m:X.mg "range"=J)(k:PA X [a] g)(n:K7 [a] X.env=[(K0,Q9 a X.env)]:=by rfl):PI X tg (.Call (.Name "range" p) [a] [] d) (Bl g):=by
 intro c s v H R b h;refine Call_<|fT b l m boot_range<|Oz (thn (k d c s v H _ b h) λy x ⟨z,w,i,r1,f⟩=>?_) n rfl;obtain⟨j,e,f,o,q⟩:=f;subst e;cases r1 with
 |cons r u=>cases u;obtain⟨t,rfl⟩:=r;exact call_range_1<|xa i (by lia) (by lia) f o<|by simpa using q
def zg (l:TI)(g:TG)(k:TS):TS:=λD b H=>l b H λa h=>∃W:O->O->St->Hp->Prop,(∃m,W 0 m b h)/\∀i m b H,W i m b H ->
 (a.stop i H/\D.nx b H)\/(a.go i H/\∃N:St->Hp->Prop,(∀d c,N d c->∃f,f<m/\W (i+1) f d c)/\∀x c,a.yld i H x c->g x b c λe j=>k {D with nx:=N,ct:=N,bk:=D.nx} e j)
noncomputable def iK (a:U QS)(h:Q5):U (QS×Obj):=a.filterMap λb=>(h.get? b).map λo=>(b,o)
theorem bR {a:U QS}{h:Q5}{b:QS}{o:Obj}(c:b∈a)(e:h.get? b=Y o):(b,o)∈iK a h:=QI.mpr ⟨b,c,by rw[e];rfl⟩
theorem qq {a:U QS}{h:Q5}{p:QS×Obj}(hp:p∈iK a h):p.1∈a/\h.get? p.1=Y p.2:=by
 obtain⟨b,d,e⟩:=QI.mp hp;cases q:h.get? b with
 |none=>rw[q] at e;cases e
 |some o=>rw[q] at e;have c:(b,o)=p:=LG e;subst c;exact⟨d,q⟩
theorem Inv.pinned {c:U<|QS×Obj}{i:St}{H:Hp}{s:K2}{f:U QS}(a:Inv X c i H s)(m:∀b∈f,iW X c H b)(ho:∀b∈f,∃o,s.heap.get? b=Y o/\∀v,o.data≠.cell v):Inv X (c++iK f s.heap) i H s:=
 a.pins_of λp hp=>(LL.mp hp).elim (λz=>a.pin p<|Lw _ z) λz=>by obtain⟨h,e⟩:=qq z;obtain⟨j,k,l,_⟩:=m p.1 h;obtain⟨o,g,d⟩:=ho p.1 h;rw[e] at g;cases g;exact⟨e,j,k,l,d⟩
theorem Inv.unpinned {b d:U<|QS×Obj}{c:St}{H:Hp}{s:K2}(a:Inv X (b++d) c H s):Inv X b c H s:=a.pins_of λp hp=>a.pin p<|Lw _<|Mv _ hp
theorem jL {y:Q1}{P:U Rf}{wi:TI}{g:TG}{tb:TS}{pos:Pos}(hp:PassesOwn (K5 X.prog X.w) X.A X.env X.xe)(hc:X.calm=K1)(hi:PI X tg y wi)(hg:PG X tg g)(t:PSs X P tb)
  (hs:∀x,Mb y X.env x=pure x:=by intro _;rfl):PS X (.For tg y P [] pos) (zg wi g tb):=by
 intro j s σ H D a h;refine wpAny_For (thn (hi j s σ H _ a h) λv s1 h1=>thn h1 λitv s2 h2=>?_) hs;obtain⟨it,fp,tn,c,H2,e,I2,T,st2,f2,W,⟨m0,w0⟩,turn⟩:=h2;subst e
 -- what stays K1 of the iterator's objects through the loop
 have z:∀{M:Hp},(∀b∈fp,M b=J)->∀b∈fp,iW X j M b:=λhn b t=>⟨hn b t,(f2 b t).2⟩;refine codeAny_forLoop_any (λn s'=>∃i F M,Inv X j F M s'/\tn i s'.heap/\(∀b∈fp,M b=J)/\W i n F M) ?_ m0 ⟨0,σ,H2,I2,st2,λb t=>(f2 b t).1,w0⟩;rintro n s3 ⟨i,G,H3,I3,st3,fr3,w3⟩;rcases turn i n G H3 w3 with⟨stop,qn⟩|⟨go,N,hN,step⟩
 .refine NR hp (thn (T.done X rfl rfl rfl hc i j s3 G H3 X.xe I3 (z fr3) st3 stop) fun r s4 ⟨hr,I4⟩=>?_);subst hr;exact Of ⟨G,H3,I4,qn⟩
 .refine NR hp (thn (T.item X rfl rfl rfl hc i j s3 G H3 X.xe I3 (z fr3) st3 go) fun r s4 ⟨u,hr,h4⟩=>?_);subst hr;refine NR hp (thn h4 λ_ s5 ⟨x,H5,I5,r5,y5,Z,fr5⟩=>?_);have I5':=I5.pinned (z fr5) (T.obj _ _ Z);refine NR hp (thn (hg _ s5 G H5 x u _ I5' r5 (step x H5 y5)) λ_ s6 ⟨σ6,H6,I6,q6⟩=>?_);refine NR hp (thn (t _ s6 σ6 H6 _ I6 q6) λf s7 Q=>?_);have again:∀{k:St} {l:Hp},Inv X (j++iK fp s5.heap) k l s7->N k l->∃m,m<n/\∃i F M,Inv X j F M s7/\tn i s7.heap/\(∀b∈fp,M b=J)/\W i m F M:=λ{k l} p n7=>by obtain⟨m',hm,w7⟩:=hN k l n7;refine⟨m',hm,i+1,k,l,p.unpinned,T.keep _ _ _ Z λb t o e=>(p.pin (b,o) (Lw _ (Lw _ (bR t e)))).1,λb t=>?_,w7⟩;obtain⟨o,e,d⟩:=T.obj _ _ Z b t;exact(p.pin (b,o) (Lw _ (Lw _ (bR t e)))).2.1
  cases f with
  |next=>obtain⟨k,l,p,n7⟩:=Q;exact again p n7
  |cont=>obtain⟨k,l,p,n7⟩:=Q;exact again p n7
  |brk=>obtain⟨k,l,p,Q⟩:=Q;exact⟨k,l,p.unpinned,Q⟩
  |ret v=>obtain⟨x7,k,l,p,r7,Q⟩:=Q;exact⟨x7,k,l,p.unpinned,r7,Q⟩
end
theorem ll {K:K3}{a:QS}{xs:U V}{g:TG}{n:TS}{D:bP}{b:St}{H:Hp}(c:O->St->Hp->Prop)(o:c 0 b H)(s:∀i b H,i<=xs.length->c i b H->SqL K H a xs)
  (t:∀i x b H,xs[i]?=Y x->c i b H->g x b H λh k=>n {D with nx:=c<|i+1,ct:=c<|i+1,bk:=D.nx} h k) (hd:∀b H,c xs.length b H->D.nx b H):
  ∃W:O->O->St->Hp->Prop,(∃m,W 0 m b H)/\∀i m b H,W i m b H ->
   ((Itl K a).stop i H/\D.nx b H)\/((Itl K a).go i H/\∃N:St->Hp->Prop,(∀f d,N f d->∃l,l<m/\W (i+1) l f d)/\∀x d,(Itl K a).yld i H x d->g x b d λh k=>n {D with nx:=N,ct:=N,bk:=D.nx} h k):=by
 refine⟨λi m b H=>m=xs.length-i/\i<=xs.length/\c i b H,⟨xs.length,by simp,LH _,o⟩,?_⟩;rintro i m b H ⟨rfl,r,p⟩;have q:=s i b H r p;by_cases j:i<xs.length
 .refine .inr ⟨⟨xs,xs[i],q,by simp [j]⟩,c<|i+1,fun f d u=>⟨xs.length-(i+1),by lia,rfl,j,u⟩,fun x d y=>?_⟩;obtain⟨e,y⟩:=y;subst e;exact t i x b _ (y xs q) p
 .have e:i=xs.length:=by lia
  subst e;exact .inl ⟨⟨xs,q,La _⟩,hd b H p⟩
theorem yV {K:K3}{a:QS}{xs:U V}{g:TG}{n:TS}{D:bP}{b:St}{H:Hp}(c:O->St->Hp->Prop)(o:c 0 b H)(s:∀i b H,i<=xs.length->c i b H->SqT K H a xs)
  (t:∀i x b H,xs[i]?=Y x->c i b H->g x b H λh k=>n {D with nx:=c<|i+1,ct:=c<|i+1,bk:=D.nx} h k) (hd:∀b H,c xs.length b H->D.nx b H):
  ∃W:O->O->St->Hp->Prop,(∃m,W 0 m b H)/\∀i m b H,W i m b H ->
   ((Itt K a).stop i H/\D.nx b H)\/((Itt K a).go i H/\∃N:St->Hp->Prop,(∀f d,N f d->∃l,l<m/\W (i+1) l f d)/\∀x d,(Itt K a).yld i H x d->g x b d λh k=>n {D with nx:=N,ct:=N,bk:=D.nx} h k):=by
 refine⟨λi m b H=>m=xs.length-i/\i<=xs.length/\c i b H,⟨xs.length,by simp,LH _,o⟩,?_⟩;rintro i m b H ⟨rfl,r,p⟩;have q:=s i b H r p;by_cases j:i<xs.length
 .refine .inr ⟨⟨xs,xs[i],q,by simp [j]⟩,c<|i+1,fun f d u=>⟨xs.length-(i+1),by lia,rfl,j,u⟩,fun x d y=>?_⟩;obtain⟨e,y⟩:=y;subst e;exact t i x b _ (y xs q) p
 .have e:i=xs.length:=by lia
  subst e;exact .inl ⟨⟨xs,q,La _⟩,hd b H p⟩
abbrev R2:=V->V->Hp->VK->Prop
def OpR (X:Cx)(f:L->L->Sem L)(r:R2):Prop:=
 ∀(a:U<|QS×Obj) (s:K2) (b:St) (H:Hp) (x y:V) (v u:L) (Q:VK),Inv X a b H s->RelV x v->RelV y u->r x y H Q ->
  QX (K5 X.prog X.w) X.A (f v u) (EP X a b Q) X.xe s
def dR (X:Cx)(f:L)(r:U V->Hp->VK->Prop):Prop:=
 ∀(a:U<|QS×Obj) (s:K2) (d:St) (H:Hp) (c:U V) (b:U L) (Q:VK),Inv X a d H s->Vals c b->r c H Q ->
  QX (K5 X.prog X.w) X.A (call f b) (EP X a d Q) X.xe s
def Kw (X:Cx)(r:V->Hp->(QT->Hp->Prop)->Prop):Prop:=
 ∀(a:U<|QS×Obj) (s:K2) (b:St) (H:Hp) (x:V) (v:L) (Q:QT->Hp->Prop),Inv X a b H s->RelV x v->r x H Q ->
  QX (K5 X.prog X.w) X.A (truthy v) (TP X a b Q) X.xe s
def tOp (r:R2)(d e:TE):TE:=λa H Q=>d a H λx b=>e a b λy c=>r x y c Q
def rI (C:I->I->Prop)(g:I->I->V):R2:=λx y H Q=>∃i j,x=.int i/\y=.int j/\C i j/\Q (g i j) H
def rI0 (g:I->I->V):R2:=λx y H Q=>∃i j,x=.int i/\y=.int j/\Q (g i j) H
section
variable {X:Cx}{a b c:Q1}{ta tb tc:TE}{pos:Pos}
theorem Di (p:PE X a ta)(r:PE X b tb){e:U<|QS×Obj}{s:K2}{i:St}{H:Hp}{R:V->V->Hp->Prop}(d:Inv X e i H s)
  (h:ta i H λx m=>tb i m λy g=>R x y g) {Q:L->K2->Prop} {f:L->L->Sem L}
  (t:∀v u l x y g,Inv X e i g l->RelV x v->RelV y u->R x y g->QX (K5 X.prog X.w) X.A (f v u) Q X.xe l):
  QX (K5 X.prog X.w) X.A (Q9 a X.env) (λv j=>QX (K5 X.prog X.w) X.A (Q9 b X.env) (λu k=>QX (K5 X.prog X.w) X.A (f v u) Q X.xe k) X.xe j) X.xe s:=by
 refine thn (p e s i H _ d h) λv F ⟨x,m,n,r1,z⟩=>?_;refine thn (r e F i m _ n z) λu l ⟨y,g,o,r2,D⟩=>?_;exact t v u l x y g o r1 r2 D
theorem eM {op:Operator}{r:R2}(ho:OpR X (LU op) r)(i:PE X a ta)(j:PE X b tb):PE X (.BinOp a op b pos) (tOp r ta tb):=by intro e s n H Q d h;exact wpAny_BinOp<|Di i j d h λv u m x y f g k l q=>ho e m n f x y v u Q g k l q
theorem opI {f:L->L->Sem L}{C:I->I->Prop}{g:I->I->I}
  (rule:∀(i j:I) (t u:Tok) (s:K2) (Q:L->K2->Prop) (E:L->K2->Prop),C i j->Q (.int (g i j) s.toks) {s with toks:=s.toks+1}->QX (K5 X.prog X.w) X.A (f (.int i t)<|.int j u) Q E s):
  OpR X f (rI C λi j=>.int<|g i j):=by
 intro e s o H x y v u Q d l m h;obtain⟨i,j,rfl,rfl,k,q⟩:=h;obtain⟨t,rfl⟩:=l;obtain⟨n,rfl⟩:=m;exact rule i j t n s _ _ k ⟨.int<|g i j,H,d.tok _,⟨_,rfl⟩,q⟩
theorem HM {f:L->L->Sem L}{g:I->I->I}
  (rule:∀(i j:I) (t u:Tok) (s:K2) (Q:L->K2->Prop) (E:L->K2->Prop),Q (.int (g i j) s.toks) {s with toks:=s.toks+1}->QX (K5 X.prog X.w) X.A (f (.int i t)<|.int j u) Q E s):
  OpR X f (rI0 λi j=>.int<|g i j):=by
 intro e s n H x y v u Q d k l h;obtain⟨i,j,rfl,rfl,q⟩:=h;obtain⟨t,rfl⟩:=k;obtain⟨m,rfl⟩:=l;exact rule i j t m s _ _ ⟨.int<|g i j,H,d.tok _,⟨_,rfl⟩,q⟩
theorem BK {f:L->L->Sem L}{g:I->I->QT}
  (rule:∀(i j:I) (t u:Tok) (s:K2) (Q:L->K2->Prop) (E:L->K2->Prop),Q (.bool<|g i j) s->QX (K5 X.prog X.w) X.A (f (.int i t)<|.int j u) Q E s):
  OpR X f (rI0 λi j=>.bl<|g i j):=by
 intro e s n H x y v u Q d k l h;obtain⟨i,j,rfl,rfl,q⟩:=h;obtain⟨t,rfl⟩:=k;obtain⟨m,rfl⟩:=l;exact rule i j t m s _ _ ⟨.bl<|g i j,H,d,rfl,q⟩
def DL (i j:I):Prop:=0<=j/\j<=1000000/\i.natAbs<2 ^ 64
def CMul (i j:I):Prop:=(-(2 ^ 64)<i/\i<2 ^ 64)\/(-(2 ^ 64)<j/\j<2 ^ 64)
theorem CMul.ok {i j:I}(h:CMul i j):IntMulOk i j:=by
 rcases h with⟨d,e⟩|⟨d,e⟩
 .exact .of_left (intBits_le_64 d e)
 .exact .of_right (intBits_le_64 d e)
theorem op_add:OpR X (LU .Add) (rI0 λi j=>.int<|i+j):=HM λ_ _ _ _ _ _ _ q=>add_int q
theorem DF:OpR X (LU .Sub) (rI0 λi j=>.int<|i-j):=HM λ_ _ _ _ _ _ _ q=>sub_int q
theorem op_mul:OpR X (LU .Mult) (rI CMul λi j=>.int<|i * j):=opI λ_ _ _ _ _ _ _ d q=>mul_int q d.ok
theorem E5:OpR X (LU .Mod) (rI (λ_ j=>0<j) λi j=>.int<|i % j):=opI λi j _ _ _ _ _ d q=>by have e:(0:I)<j:=d;exact mod_int' (by lia)<|by rw[Pm i<|by lia];exact q
theorem Ac:OpR X (LU .Mod) (rI (λ_ j=>j≠0) λi j=>.int<|i.fmod j):=opI λ_ _ _ _ _ _ _ d q=>mod_int' d q
theorem Es:OpR X (LU .Pow) (rI DL λi j=>.int<|i ^ j.toNat):=opI λ_ _ _ _ _ _ _ d q=>pow_int_small d.1 d.2.1 d.2.2 q
end
section
variable {X:Cx}{a b c:Q1}{ta tb tc:TE}{pos:Pos}
theorem vX {f:U<|QS×Obj}{h:St}{H:Hp}{s:K2}{Q:VK}{k g:QT}(d:Inv X f h H s)(q:Q (.bl k) H)(e:k=g):EP X f h Q (.bool g) s:=by subst e;exact⟨.bl k,H,d,rfl,q⟩
theorem Hz:OpR X (LV .Lt) (rI0 λi j=>.bl<|decide (i<j)):=BK λ_ _ _ _ _ _ _ q=>lt_int q
theorem He:OpR X (LV .Gt) (rI0 λi j=>.bl<|decide (j<i)):=BK λ_ _ _ _ _ _ _ q=>gt_int q
theorem HG:OpR X (LV .GtE) (rI0 λi j=>.bl<|decide (j<=i)):=BK λ_ _ _ _ _ _ _ q=>ge_int q
theorem Cw:OpR X (LV .Is) (λx y H Q=>y=.non/\Q (.bl<|decide (x=.non)) H):=by
 intro e s i H x y v u Q d f g h;obtain⟨rfl,q⟩:=h;cases g;refine is_none_gen<|vX d q ?_
 cases x<;>first
  |(cases f;rfl)
  |(obtain⟨t,rfl⟩:=f;rfl)
theorem As:OpR X (LV .IsNot) (λx y H Q=>y=.non/\Q (.bl<|!decide (x=.non)) H):=by
 intro e s i H x y v u Q d f g h;obtain⟨rfl,q⟩:=h;cases g;refine isnot_none_gen<|vX d q ?_
 cases x<;>first
  |(cases f;rfl)
  |(obtain⟨t,rfl⟩:=f;rfl)
theorem OpR.or {f:L->L->Sem L}{r g:R2}(h:OpR X f r)(l:OpR X f g):OpR X f (λx y H Q=>r x y H Q\/g x y H Q):=by
 intro e s k H x y v u Q d i j q;rcases q with q|q
 .exact h e s k H x y v u Q d i j q
 .exact l e s k H x y v u Q d i j q
theorem dD (b:Q1){op:CmpOp}(h:op≠.In:=by decide)(d:op≠.NotIn:=by decide):Ms op b=false:=by
 have e1:(op==CmpOp.In)=false:=by cases op<;>first|rfl|exact QW rfl h
 have e2:(op==CmpOp.NotIn)=false:=by cases op<;>first|rfl|exact QW rfl d
 cases b<;>simp[Ms,e1,e2]
theorem yo {op:CmpOp}{r:R2}(ho:OpR X (LV op) r)(i:PE X a ta)(j:PE X b tb)(k:Ms op b=K0):PE X (.Compare a [op] [b] pos) (tOp r ta tb):=by intro e s o H Q d h;exact wpAny_Compare1 (Di i j d h λv u n x y f g l m q=>ho e n o f x y v u Q g l m q) k
def kY (t:TE):TT:=λe H Q=>t e H λx d=>∃k,x=.bl k/\Q k d
theorem gx {op:CmpOp}{r:R2}(ho:OpR X (LV op) r)(p:PE X a ta)(t:PE X b tb)(w:Ms op b=K0):PT X (.Compare a [op] [b] pos) (kY<|tOp r ta tb):=by
 intro f s g H Q d h
 refine Ru (thn (p f s g H _ d h) λv M ⟨x,i,m,r1,A⟩=>thn (t f M g i _ m A) λu N ⟨y,j,n,r2,D⟩=>
  thn (ho f N g j x y v u _ n r1 r2 D) λc P ⟨z,l,o,G,k,e,F⟩=>?_) w
 subst e;cases G;exact NT ⟨l,o,F⟩
def D3 (K:K3)(x:V)(H:Hp)(k:QT):Prop:=
 match x with
 |.non=>k=K0
 |.bl b=>k=b
 |.int i=>k=(i != 0)
 |.str y=>y.length<=sizeLine/\k=((y.length:I) != 0)
 |.byt y=>y.size<=sizeLine/\k=((y.size:I) != 0)
 |.ref p=>(∃e,SqL K H p e/\k=!e.isEmpty)\/(∃e,SqT K H p e/\k=!e.isEmpty)\/∃d,H p=Y (.dK d)/\k=!d.isEmpty
 |_=>Q6
theorem nJ {f:Type}{d:U<|f×V}{e:U<|f×L}(r:KV d e):(!e.isEmpty)=!d.isEmpty:=by cases r<;>rfl
theorem ij {e:U V}{d:U L}(r:Vals e d):(!d.toArray.isEmpty)=!e.isEmpty:=by cases r<;>simp
theorem fU:(sizeLine:O)<2 ^ 63:=by rw[Nb];decide
theorem Fi:Kw X (λx H Q=>∃k,D3 X.K x H k/\Q k H):=by
 intro D s Z H x v Q d n h;obtain⟨k,e,q⟩:=h;have M:=fU;have N:sizeLine=16777216:=Nb;cases x with
 |non=>cases n;have f:k=false:=e;subst f;exact truthy_none ⟨H,d,q⟩
 |bl b=>cases n;have f:k=b:=e;subst f;exact NT ⟨H,d,q⟩
 |int i=>obtain⟨t,rfl⟩:=n;have f:k=(i != 0):=e;subst f;exact PySem.P.truthy_int ⟨H,d,q⟩
 |str y=>obtain⟨t,rfl⟩:=n;obtain⟨G,f⟩:y.length<=sizeLine/\k=((y.length:I) != 0):=e;subst f;exact PySem.P.truthy_str (by lia) ⟨H,d.tok _,q⟩
 |byt y=>obtain⟨t,rfl⟩:=n;obtain⟨G,f⟩:y.size<=sizeLine/\k=((y.size:I) != 0):=e;subst f;exact PySem.W.truthy_bytes (by lia) ⟨H,d.tok _,q⟩
 | ref p =>
  cases n;have f:(∃l,SqL X.K H p l/\k=!l.isEmpty)\/(∃l,SqT X.K H p l/\k=!l.isEmpty)\/∃g,H p=Y (.dK g)/\k=!g.isEmpty:=e;rcases f with⟨l,hx,f⟩|⟨l,hx,f⟩|⟨g,hx,f⟩
  .subst f;obtain⟨u,r,z,A⟩:=d.list hx;have j:=r.length;exact wpAny_truthy_list z.isList (by simp only[Lq];lia) ⟨H,d.tok _,by rw[ij r];exact q⟩
  .subst f;obtain⟨u,r,z,A⟩:=d.tuple hx;have j:=r.length;exact truthy_tuple z (by simp only[Lq];lia) ⟨H,d.tok _,by rw[ij r];exact q⟩
  .subst f;obtain⟨A,F,o,r,m⟩:g.length<=sizeLine/\(p==L0)=K0/\∃o,KV g o/\s.heap.DictOf (aL X.prog X.w) p o:=d.hok p _ hx;have j:g.length=o.length:=Paired.length r;exact wpAny_truthy_dict F m (by lia) ⟨H,d.tok _,by rw[nJ r];exact q⟩
 |_=>exact(show Q6 from e).elim
theorem wx (m:PE X a ta)(n:∀e,RR a X.env e=(do let v <- e;RT a.pos;MN [v] (truthy v))):
  PT X a (λg H Q=>ta g H λx i=>∃k,D3 X.K x i k/\Q k i):=by
 intro f s g H Q d h;exact isTrue_plain (thn (m f s g H _ d h) λv p ⟨x,j,l,r1,o⟩=>Fi f p g j x v Q l r1 o)<|n _
theorem op_add_str:OpR X (LU .Add) (λx y H Q=>∃i j,x=.str i/\y=.str j/\i.length+j.length<=sizeLine/\Q (.str<|i++j) H):=by intro e s n H x y v u Q d g k h;obtain⟨i,j,rfl,rfl,f,q⟩:=h;obtain⟨t,rfl⟩:=g;obtain⟨l,rfl⟩:=k;exact add_str (λl m=>⟨.str<|i++j,H,d.tok _,⟨_,rfl⟩,q⟩) f
theorem gJ {x:V}{d:U L}(r:Vals [x] d):∃u,d=[u]/\RelV x u:=by
 cases r with
 |cons r1 r2=>cases r2;exact⟨_,rfl,r1⟩
theorem tJ {x y:V}{d:U L}(r:Vals [x,y] d):∃u e,d=[u,e]/\RelV x u/\RelV y e:=by
 cases r with
 |cons r1 r2=>
  cases r2 with
  |cons f g=>cases g;exact⟨_,_,rfl,r1,f⟩
def D8 (K:K3)(x:V)(H:Hp)(n:O):Prop:=
 match x with
 |.str y=>y.length<=sizeLine/\n=y.length
 |.byt y=>y.size<=sizeLine/\n=y.size
 |.ref p=>(∃d,SqL K H p d/\n=d.length)\/∃d,SqT K H p d/\n=d.length
 |_=>Q6
theorem gL:dR X (.builtin "len") (λf H Q=>∃x n,f=[x]/\D8 X.K x H n/\Q (.int n) H):=by
 intro o s F H f D Q d r h;obtain⟨x,n,rfl,e,q⟩:=h;obtain⟨u,rfl,m⟩:=gJ r;have z:=fU;have A:sizeLine=16777216:=Nb;cases x with
 |str y=>obtain⟨t,rfl⟩:=m;obtain⟨v,i⟩:y.length<=sizeLine/\n=y.length:=e;subst i;exact len_str (by lia) ⟨.int _,H,d.tok _,⟨_,rfl⟩,q⟩
 |byt y=>obtain⟨t,rfl⟩:=m;obtain⟨v,i⟩:y.size<=sizeLine/\n=y.size:=e;subst i;exact PySem.W.len_bytes (by lia) ⟨.int _,H,d.tok _,⟨_,rfl⟩,q⟩
 | ref p =>
  cases m;have i:(∃f,SqL X.K H p f/\n=f.length)\/∃f,SqT X.K H p f/\n=f.length:=e;rcases i with⟨f,hx,i⟩|⟨f,hx,i⟩
  .subst i;obtain⟨j,l,k,w⟩:=d.list hx;have g:=l.length;exact Calls.call_len_list k.isList (by simp only[Lq];lia) ⟨.int f.length,H,d.tok _,⟨_,by simp only[Lq];rw[g]⟩,q⟩
  .subst i;obtain⟨j,l,k,w⟩:=d.tuple hx;have g:=l.length;exact len_tuple k (by simp only[Lq];lia) ⟨.int f.length,H,d.tok _,⟨_,by simp only[Lq];rw[g]⟩,q⟩
 |_=>exact(show Q6 from e).elim
end
structure ObjM (h:Q5)(x dx C:QS)(mA:Str->B L):Prop where
 obj:h.get? x=Y (Pe C dx)
 ns:h.Ns1 dx mA
 ne:dx≠x
theorem qT {h:Q5}{d:QS}{g:Str->B L}(n:h.Ns1 d g):∃i,h.get? d=Y i/\∀b,Pc b i=Y (g b):=by
 obtain⟨o,f,ep,ho,hd,hk,_,k⟩:=n;refine⟨o,ho,λb=>?_⟩;have e:=k b;unfold nsFind findBy at e;rw[<- QH] at e;unfold Pc;rw[hd];dsimp only;split
 .rename_i y q;rw[q] at e;exact Q8 Y e
 .rename_i q;rw[q] at e;have a:f.toList.any (·.refKey)=false:=by rw[List.any_eq_false];intro y l;obtain⟨z,t,c⟩:=hk y (Array.mem_toList_iff.mp l);simp[DictEntry.refKey,c]
  have j:¬f.toList.any (·.refKey)=true:=by rw[a];exact LA
  rw[Q0 j];exact Q8 Y e
theorem ObjM.look {h:Q5}{x d C:QS}{e:Str->B L}(a:ObjM h x d C e):∃c,PySem.W.InstAt h x (Pe C d) C (Y c)/\∀b,Pc b c=Y (e b):=
 let ⟨c,ho,f⟩:=qT a.ns
 ⟨c,⟨a.obj,rfl,rfl,ho⟩,f⟩
def Hb (f:Str)(v:V):U (Str×V)->U (Str×V)
|[]=>[(f,v)]
|(g,x)::r=>if g=f then(g,v)::r else(g,x)::Hb f v r
theorem RelO.some_of {v:V}{o:B L}(r:RelO (Y v) o):∃u,o=Y u/\RelV v u:=by
 cases o with
 |none=>exact(show Q6 from r).elim
 |some u=>exact⟨u,rfl,r⟩
section
variable {P:QZ}{w:K6}{H H':Hp}{h h':Q5}{a C dx:QS}{fs fs':U (Str×V)}
theorem yL (c:HOk P w H h)(e:H a=Y (.ins C dx fs)):∃b,ObjM h a dx C b/\(∀f,RelO (fs.lookup f)<|b f)/\P0 b (fs.map (·.1))/\fs.length<=1000/\H dx=Y (.own a):=by obtain⟨d,z,g,i,b,n,r,q⟩:=(show ObjOk P w H h a (.ins C dx fs) from c a _ e);exact⟨b,⟨i,n,g⟩,r,q,z,d⟩
end
structure Cls (K:K3)(C:QS):Prop where
 pg:PL K C Str.empty=K1
 hd:OY K C=K1
 po:PySem.W.plainOver K C=K1
 sa:Nt K (.ref C) "__setattr__"=Y (Y (.builtin "object.__setattr__"))
theorem Cls.get {K:K3}{C:QS}(c:Cls K C)(f:Str):PL K C f=true:=c.pg
def Cr (K:K3)(C:QS)(f:Str):Prop:=Nt K (.ref C) f=Y J
section
variable {X:Cx}{pins:U (QS×Obj)}{σ:St}{H:Hp}{s:K2}{A:Lj}{E:L->K2->Prop}{Q:L->K2->Prop}{c:L}{b:QT}
inductive gj (K:K3)(H:Hp):V->L->Prop where
 |non:gj K H .non (.type "NoneType")
 |bl (x:QT):gj K H (.bl x) (.type "bool")
 |int (i:I):gj K H (.int i) (.type "int")
 |str (x:Str):gj K H (.str x) (.type "str")
 |flt (x:UInt64):gj K H (.flt x) (.type "float")
 |lst {a:QS} {xs:U V} (e:H a=Y (.lst xs)):gj K H (.ref a) (.type "list")
 |frz {a:QS} {o:Obj} {xs:U V} (e:H a=Y (.frz o (.lst xs))):gj K H (.ref a) (.type "list")
 |tup {a:QS} {xs:U V} (e:H a=Y (.tup xs)):gj K H (.ref a) (.type "tuple")
 |dK {a:QS} {kvs:U (Key×V)} (e:H a=Y (.dK kvs)):gj K H (.ref a) (.type "dict")
 |dT {a:QS} {kvs:U (U Key×V)} (e:H a=Y (.dT kvs)):gj K H (.ref a) (.type "dict")
 | ins {a C dx:QS} {fs:U (Str×V)} (e:H a=Y (.ins C dx fs)) (cl:Cls K C) (ha:Nt K (.ref C) "__class__"=Y (Y (.builtin "object.__class__")))
   (hn:PX K (.builtin "object.__class__") "__get__"=Y (Y (.builtin "getset_descriptor.__get__"))) (htk:Pu K (.builtin "object.__class__")=Y K1)
   (hm:Qb K C (.type "object")=Y K1):gj K H (.ref a) (.ref C)
theorem ej {x:V}{u t:L}(d:Inv X pins σ H s)(k:RelV x u)(ty:gj X.K H x t)(e:MS X.K t c=Y b)(h:∀tk,Q (.bool b) {s with toks:=tk}):
  QX (K5 X.prog X.w) A (call (.builtin "isinstance") [u,c]) Q E s:=by
 cases ty with
 |non=>cases(show u=Value.none from k);exact Mh PV d.kIn LW e (λz=>nomatch z) h
 |bl y=>cases(show u=Value.bool y from k);exact Mh PU d.kIn LW e (λz=>nomatch z) h
 |int i=>obtain⟨t,q⟩:=(show∃t,u=Value.int i t from k);cases q;exact Mh PJ d.kIn LW e (λz=>nomatch z) h
 |str y=>obtain⟨t,q⟩:=(show∃t,u=Value.str y t from k);cases q;exact Mh PH d.kIn LW e (λz=>nomatch z) h
 |flt y=>obtain⟨t,q⟩:=(show∃t,u=Value.float y t from k);cases q;exact Mh PySem.W.kitx_float d.kIn LW e (λz=>nomatch z) h
 | @lst a r j=>cases(show u=Value.ref a from k);obtain⟨_,_,n,_,l⟩:=(show ObjOk X.prog X.w H s.heap a (.lst r) from d.hok a _ j);exact Mh OG d.kIn ⟨_,l,rfl⟩ e (λz=>nomatch z) h
 | @frz a Z r j=>cases(show u=Value.ref a from k);obtain⟨_,_,_,n,_,l⟩:=(show ObjOk X.prog X.w H s.heap a (.frz Z<|.lst r) from d.hok a _ j);exact Mh OG d.kIn ⟨_,l,rfl⟩ e (λz=>nomatch z) h
 | @tup a r j=>cases(show u=Value.ref a from k);obtain⟨_,_,_,p⟩:=(show ObjOk X.prog X.w H s.heap a (.tup r) from d.hok a _ j);obtain⟨o,l,v,_⟩:=p;exact Mh O4 d.kIn ⟨o,l,v⟩ e (λz=>nomatch z) h
 | @dK a m j=>cases(show u=Value.ref a from k);obtain⟨_,_,vs,_,p⟩:=(show ObjOk X.prog X.w H s.heap a (.dK m) from d.hok a _ j);obtain⟨o,G,ep,l,v,_⟩:=p;exact Mh PR d.kIn ⟨o,l,v.1⟩ e (λz=>nomatch z) h
 | @dT a m j=>cases(show u=Value.ref a from k);obtain⟨_,_,r,_,o,G,ep,l,v,_⟩:=(show ObjOk X.prog X.w H s.heap a (.dT m) from d.hok a _ j);exact Mh PR d.kIn ⟨o,l,v.1⟩ e (λz=>nomatch z) h
 | @ins a C dx fs j F M P D N=>cases(show u=Value.ref a from k);obtain⟨mA,g,_⟩:=yL d.hok j;obtain⟨od,f,_⟩:=g.look;exact Mh (PySem.W.kitx_own (F.get _) F.hd M P D N) d.kIn f e (λz=>nomatch z) h
end
structure Room (k:O)(A:Lj):Prop where
 hd:A.handled=J
 dp:A.depth+3 * k+5<recursionLimit
 un:A.units+16 * k+200<Rk
 gu:A.guards=Y []
theorem Room.deeper {k:O}{A:Lj}(r:Room (k+1) A)(a:Env):Room k (A.deeper a):=
 ⟨r.hd,by have:=r.dp;show A.depth+1+3 * k+5<_;lia,by have:=r.un;show A.units+3+16 * k+200<_;lia,r.gu⟩
theorem Room.depth {k:O}{A:Lj}(r:Room k A):A.depth<recursionLimit:=by have:=r.dp;lia
theorem Room.units {k:O}{A:Lj}(r:Room k A):A.units+64<Rk:=by have:=r.un;lia
def nQ:TA:=λ_ H Q=>Q [] H
def gc (d:TE)(e:TA):TA:=λa H Q=>d a H λx b=>e a b λf c=>Q (x::f) c
section
variable {X:Cx}{e:Q1}{es:U Q1}{te:TE}{t:TA}{pos:Pos}
theorem a6:PA X [] nQ:=λ_ _ _ _ H Q a h=>Calls.spliced_nil ⟨[],H,a,.nil,h⟩
theorem aE (j:PE X e te)(k:PA X es t)(l:K7 (e::es) X.env=(K0,Q9 e X.env)::K7 es X.env:=by rfl):PA X (e::es) (gc te t):=by intro pos b s c H Q a h;rw[l];show QX _ _ (spliced ((K0,Q9 e X.env)::Lu pos (K7 es X.env))) _ _ s;refine Calls.spliced_cons<|thn (j b s c H _ a h) λu o ⟨x,d,g,r1,m⟩=>?_;exact thn (k pos b o c d _ g m) λv r ⟨p,f,i,r2,n⟩=>⟨x::p,f,i,.cons r1 r2,n⟩
def Hy (t:TA):TE:=λc H Q=>t c H λb a=>b.length<=sizeLine/\∀p,a p=J->Q (.ref p) (upd a p<|.tup b)
def Ho (t:TA):TE:=λc H Q=>t c H λb a=>b.length<=sizeLine/\∀p,a p=J->Q (.ref p) (upd a p<|.lst b)
theorem mE {x1}(h:PA X es t):PE X (.Tuple es x1 pos) (Hy t):=by intro c s m H Q a j;refine wpAny_Tuple_spliced<|thn (h pos c s m H _ a j) λk d ⟨l,f,g,r,z,q⟩=>⟨by rw[<- r.length];exact z,?_⟩;have i:f d.heap.objs.size=none:=g.hok.fresh<|La _;refine⟨.ref d.heap.objs.size,upd f d.heap.objs.size<|.tup l,g.laid (t':=d.toks) (λb u e=>Heap.get?_push_of_some _ e) (La _) ?_,rfl,q _ i⟩;exact⟨z,k,r,⟨_,Heap.get?_push_size _ rfl,rfl,_,rfl⟩⟩
theorem uU (h:PA X es t):PE X (.List es pos) (Ho t):=by intro c s m H Q a j;refine wpAny_List_spliced<|thn (h pos c s m H _ a j) λk d ⟨l,f,g,r,z,q⟩=>⟨by rw[<- r.length];exact z,?_⟩;have i:f d.heap.objs.size=none:=g.hok.fresh<|La _;refine⟨.ref d.heap.objs.size,upd f d.heap.objs.size<|.lst l,g.laid (t':=d.toks) (λb u e=>Heap.get?_push_of_some _ e) (La _) ?_,rfl,q _ i⟩;exact⟨z,k,0,r,Heap.get?_push_size _ rfl⟩
end
abbrev Sp:=U V->Hp->VK->XK->Prop
abbrev CXT:=U Env->Hp->K2->XK->L->K2->Prop
structure xV (P:QZ)(w:K6)(K:K3)(mg:Str->B L)(base:Q5)(A:Lj)(outer:U Env)(s:K2)(H:Hp):Prop where
 frames:A.frames=Y outer
 mod:Mod K mg base
 bs:∀b o,base.get? b=Y o->s.heap.get? b=Y o/\H b=J
 bsz:base.objs.size<=s.heap.objs.size
 funs:s.heap.FunFrames base outer
 frf:∀b∈frs outer,H b=J
 hok:HOk P w H s.heap
 bare:MO s.gens
def CE (a:U Env)(P:QZ)(w:K6)(H:Hp)(s:K2)(Q:VK)(u:L)(b:K2):Prop:=
 ∃v c,b.os=s.os/\MO b.gens/\Un (frs a) [] H c s.heap b.heap/\HOk P w c b.heap/\RelV v u/\Q v c
def CR (c:CXT)(a:U Env)(P:QZ)(w:K6)(H:Hp)(s:K2)(Q:VK)(E:XK)(r:Result)(b:K2):Prop:=
 match r with
 |.ok (.ret u)=>CE a P w H s Q u b
 |.ok _=>Q6
 |.error e=>c a H s E e b
structure dJ (P:QZ)(w:K6)(K:K3)(mg:Str->B L)(base:Q5)(CX:CXT)(k:O)(f:QS)(fd:LZ)(ps:U Str)(sp:Sp):Prop where
 len:∀vs H Q E,sp vs H Q E->vs.length=ps.length
 run:∀(A:Lj) (outer:U Env) (s:K2) (H:Hp) (args:Args) (us:U L) (vs:U V) (Q:VK) (E:XK),Room k A->xV P w K mg base A outer s H->MX s fd args (ps.zip us)->Vals vs us->sp vs H Q E ->
  MM (K5 P w) A (.call (.ref f) args) (CR CX outer P w H s Q E) s
section
variable {X:Cx}{pins:U (QS×Obj)}{σ:St}{H:Hp}{s s':K2}
theorem Inv.env0 (a:Inv X pins σ H s):xV X.prog X.w X.K X.mg X.base X.A X.stack s H:=
 ⟨a.ok.frames,a.ok.mod,a.bs,Lf a.ok.bsz a.sz,a.stack,a.stkFree,a.hok,a.bare⟩
theorem Inv.after {Q:VK}{u:L}(a:Inv X pins σ H s)(h:CE X.stack X.prog X.w H s Q u s'):EP X pins σ Q u s':=by obtain⟨v,f,os,bare,un,c,r,q⟩:=h;obtain⟨i,g,d,t,e⟩:=s';obtain rfl:e=s.os:=os;exact⟨v,f,a.call (h':=i) (g':=g) (d':=d) (t':=t) (ch:=[]) un c bare λb z=>QW z<|by simp,r,q⟩
end
def Ba (sp:Sp)(a:U V)(E:XK)(t:TA):TE:=λd H Q=>t d H λc b=>sp (c++a) b Q E
def Binds (K:K3)(b:LZ)(ps:U Str)(ds:U L):Prop:=
 ∀(s:K2) (a:U L),K.In s.heap->(a++ds).length=ps.length->MX s b ⟨a,[]⟩ (ps.zip<|a++ds)
theorem Binds.all {K:K3}{b:LZ}{ps:U Str}(h:∀a:U L,a.length=ps.length->bindArgs b ⟨a,[]⟩=pure (ps.zip a)):Binds K b ps []:=λs a _ c=>by rw[LK] at c ⊢;exact .of_eq<|h a c
def n9 (c:CXT)(X:Cx)(E:XK):Prop:=∀(a:U<|QS×Obj) (d:St) (H:Hp) (s:K2) (e:L) (b:K2),Inv X a d H s->c X.stack H s E e b->X.xe e b
section
variable {X:Cx}{CX:CXT}{k:O}{f C:QS}{fd:LZ}{ps:U Str}{sp:Sp}{dvs:U V}{ds:U L}{E:XK}{x m:Str}{p pos apos:Pos}{e o:Q1}{es:U Q1}{ta:TE}{t:TA}
theorem FF {b:U<|QS×Obj}{i:St}{H:Hp}{s:K2}{Q:VK}{c:U L}{g:U V}(F:dJ X.prog X.w X.K X.mg X.base CX k f fd ps sp)(n:Room k X.A)(j:Binds X.K fd ps ds)(hd:Vals dvs ds)(hx:n9 CX X E)
  (a:Inv X b i H s) (r:Vals g c) (h:sp (g++dvs) H Q E):QX (K5 X.prog X.w) X.A (call (.ref f) c) (EP X b i Q) X.xe s:=by
 have r2:Vals (g++dvs) (c++ds):=r.append hd;have l:(c++ds).length=ps.length:=by rw[<- r2.length];exact F.len _ _ _ _ h
 refine wpAny_call<|RL (F.run X.A X.stack s H ⟨c,[]⟩ (c++ds) (g++dvs) Q E n a.env0 (j s c a.kIn l) r2 h) λr v d=>?_;cases r with
 |error e=>exact hx b i H s e v a d
 |ok fl=>
  cases fl with
  |ret u=>exact a.after d
  |next=>exact Ml d
  |brk=>exact Ml d
  |cont=>exact Ml d
theorem kN (F:dJ X.prog X.w X.K X.mg X.base CX k f fd ps sp)(v:Room k X.A)(n:Gl X x)(u:X.mg x=Y (.ref f))(hk:Nr X.K (.ref f)=K1)(j:Binds X.K fd ps ds)(hd:Vals dvs ds)(hx:n9 CX X E)
  (i:PA X (e::es) t) (c:(x==("__debug__":Str))=false:=by decide) (l:K7 (e::es) X.env=(K0,Q9 e X.env)::K7 es X.env:=by rfl) (d:(Lu pos<|K7 es X.env).any (·.1)=false:=by rfl):
  PE X (.Call (.Name x p) (e::es) [] pos) (Ba sp dvs E t):=by
 intro b s y H Q a h;refine OJ<|oQ a n u ?_ c;refine PySem.W.callWith_K (h₀:=X.base) a.ok.mod.kin hk (thn (i pos b s y H _ a h) λG D ⟨M,z,g,r,q⟩=>⟨g.kIn,?_⟩) l d;exact FF F v j hd hx g r q
end
def PK (X:Cx)(b:U LN)(t:TA):Prop:=
 ∀(c:Pos) (a:U<|QS×Obj) (s:K2) (d:St) (H:Hp) (Q:U V->Hp->Prop),Inv X a d H s->t d H Q->QX (K5 X.prog X.w) X.A (evalAll<|(MJ c<|MK b X.env).map (·.2)) (AP X a d Q) X.xe s
structure aj (N P:U Str)(sc:Rj):Prop where
 kind:sc.kind=.function
 co:sc.isCoroutine=K0
 gen:sc.isGenerator=K0
 nd:N.Nodup
 pre:N.take P.length=P
 par:∀x∈P,sc.names.lookup x=Y .local\/sc.names.lookup x=Y .cell
 nofree:∀y∈sc.names,y.2≠.free
theorem jD {kindOf:Str->B NameKind}{x:Str}:∀{binds:U<|Str×L} {m:Str->B L},(∀v,(x,v) ∉ binds)->RV kindOf binds m x=m x
|[],_,_=>rfl
| (n,v)::r,m,h=>by
 unfold RV;rw[jD λw a=>h w<|Lr _ a];split
 .have:x≠n:=by rintro rfl; exact h v Lg
  simp[this]
 .rfl
theorem jr {kindOf:Str->B NameKind}{x:Str}:∀{binds:U<|Str×L} {m:Str->B L},(∀v,(x,v) ∉ binds)->RX kindOf binds m x=m x
|[],_,_=>rfl
| (n,v)::r,m,h=>by
 unfold RX;rw[jr λw a=>h w<|Lr _ a];split
 .rfl
 .have:x≠n:=by rintro rfl; exact h v Lg
  simp[this]
theorem ji {kindOf:Str->B NameKind}{x:Str}{v:L}:∀{P:U Str} {a:U L} {i:O} {m:Str->B L},P.Nodup->P[i]?=Y x->a[i]?=Y v->kindOf x=Y .local ->
 RV kindOf (P.zip a) m x=Y v
|[],_,_,_,_,h,_,_=>by simp at h
|_::_,[],_,_,_,_,h,_=>by simp at h
|p::P,w::a,0,m,d,b,c,hk=>by simp at b c;subst b;subst c;show RV kindOf ((p,w)::P.zip a) m p=_;unfold RV;rw[jD λv e=>(Mg.mp d).1 (Oq e).1,QY hk];simp
|p::P,w::a,i+1,m,d,b,c,hk=>by show RV kindOf ((p,w)::P.zip a) m x=_;unfold RV;exact ji (i:=i) (Mg.mp d).2 (by simpa using b) (by simpa using c) hk
theorem jv {kindOf:Str->B NameKind}{x:Str}{v:L}:∀{P:U Str} {a:U L} {i:O} {m:Str->B L},P.Nodup->P[i]?=Y x->a[i]?=Y v->kindOf x≠Y .local ->
 RX kindOf (P.zip a) m x=Y v
|[],_,_,_,_,h,_,_=>by simp at h
|_::_,[],_,_,_,_,h,_=>by simp at h
|p::P,w::a,0,m,d,b,c,hk=>by simp at b c;subst b;subst c;show RX kindOf ((p,w)::P.zip a) m p=_;unfold RX;rw[jr λv e=>(Mg.mp d).1 (Oq e).1,Q0 hk];simp
|p::P,w::a,i+1,m,d,b,c,hk=>by show RX kindOf ((p,w)::P.zip a) m x=_;unfold RX;exact jv (i:=i) (Mg.mp d).2 (by simpa using b) (by simpa using c) hk
noncomputable def start (N:U Str)(a:U V):St:=a.map Y++Lo (N.length-a.length) J
def jT (g:CXT)(P:QZ)(w:K6)(K:K3)(mg:Str->B L)(base:Q5)(N:U Str)(b:Str)(a:Rj)(f:QS)(d:L)(A:Lj)(outer:U Env)(s:K2)(H:Hp)(E:XK):Cx where
 prog:=P
 w:=w
 K:=K
 mg:=mg
 base:=base
 A:=A.deeper<|Mj b a s.heap.objs.size f d
 N:=N
 s₀:=s
 H₀:=H
 env:=Mj b a s.heap.objs.size f d
 outer:=outer
 stack:=Mj b a s.heap.objs.size f d::outer
 ex:=[]
 calm:=K1
 fn:=λ_=>K1
 pn:=[]
 xe:=λe i=>QX (K5 P w) (A.deeper<|Mj b a s.heap.objs.size f d) (leaving (Mj b a s.heap.objs.size f d) e) (λ_ c=>g outer H s E e c) (λh c=>g outer H s E h c) i
theorem lS {a:Rj}{n:O}{x:Str}(h:a.names.lookup x=Y .cell):∃c,(cellsFrom n a.names []).lookup x=Y c:=by have q:=QB a.names n []<|.inl h;exact Qn.mp q
theorem qz {CX:CXT}{P:QZ}{w:K6}{K:K3}{mg:Str->B L}{m:Q5}{N ps:U Str}{j:Str}{d:Rj}{f:QS}{M:L}{A:Lj}{g:U Env}{s s1:K2}{H:Hp}{E:XK}{us:U L}{F:U V}
  (S:aj N ps d) (hd:A.handled=J) (o:xV P w K mg m A g s H) (hl:F.length=ps.length) (r:Vals F us)
  (x:InCallC s s.heap.objs.size (RV (Mj j d s.heap.objs.size f M).kindOf (ps.zip us) λ_=>J) (cellsFrom (s.heap.objs.size+1) d.names []) (RX (Mj j d s.heap.objs.size f M).kindOf (ps.zip us) λ_=>J) s1):
  Inv (jT CX P w K mg m N j d f M A g s H E) [] (start N F) H s1:=by
 have hpl:ps.length<=N.length:=by have:=Q8 NW S.pre;rw[NJ] at this;lia
 obtain⟨Q,tk,rfl,hk⟩:=x.done;have D:∀b:QS,b ∉ (jT CX P w K mg m N j d f M A g s H E).ex:=λb z=>QW (show b∈([]:U QS) from z)<|by simp
 refine⟨⟨o.mod,S.kind,rfl,rfl,La _,λy z c Q l=>?_,λy t=>?_,λy c _ h=>?_,λ_=>hd,Around.frames_deeper o.frames,.inr ⟨rfl,rfl⟩,λb z=>QW z<|D b,o.bs,o.bsz,λb _ _=>D b,λb z=>QW z<|D b,o.funs,o.frf⟩,
  rfl,o.bare,Un.kept hk,⟨_,x.toInCall.ns,λi y v Q l h3=>?_⟩,λy c h=>⟨_,x.cell y c h⟩,o.hok.fresh<|La _,λy c h=>?_,λp hp=>QW (show p∈([]:U<|QS×Obj) from hp)<|by simp,o.hok.kept hk,?_⟩
 .exact name_of_addr x.apart (NC Q) (NC l)
 .have t:d.names.lookup y=Y .cell\/d.names.lookup y=Y .free:=t;rcases t with t|t
  .exact lS t
  .exact QW rfl (S.nofree _<|NC t)
 .exact NY (x.above y c<|NC h)
 .have Z:i<F.length:=by
   unfold start at l;by_cases Z:i<F.length
   .exact Z
   .rw [N4<|by simpa using Z] at l;rw[Pg] at l;split at l<;>cases l
  have ha:F[i]?=Y v:=by
   unfold start at l;rw[N3<|by simpa using Z,LQ] at l;cases e:F[i]? with
   |none=>rw[e] at l;cases l
   |some a=>rw[e] at l;cases l;rfl
  obtain⟨u,hu,rv⟩:=r.get ha;have hp:ps[i]?=Y y:=by rw[<- S.pre,List.getElem?_take_of_lt<|by lia];exact Q
  have G:ps.Nodup:=by rw[<- S.pre];exact S.nd.sublist<|List.take_sublist _ _
  refine⟨u,rv,?_⟩;rcases S.par y (ME hp) with k|k
  .exact .inl ⟨k,ji G hp hu k⟩
  .obtain ⟨c,e⟩:=lS (n:=s.heap.objs.size+1) k;refine .inr ⟨.inl k,c,e,?_⟩;have q:=x.cell y c e;rw[jv G hp hu<|by show d.names.lookup y≠_;rw[k];decide] at q;exact q
 .exact o.hok.fresh (NY<|x.above y c<|NC h)
 .unfold start;show _=N.length;rw[K8,K9,M6];lia
theorem Gh {CX:CXT}{P:QZ}{w:K6}{K:K3}{mg:Str->B L}{j:Q5}{k:O}{f:QS}{F h:Str}{l:Arguments}{m:U Rf}{d:Rj}{dV kV doc pm i ct oc:L}{an od:B QS}
  {osl:Rg<|B L} {N ps:U Str} {sp:Sp} (lk:K.lookup f=Y ⟨oc,od,.func<|MP F h l m d dV kV doc pm an i ct,osl⟩) (hcd:Ol K i h=K1) (S:aj N ps d)
  (len:∀p H Q E,sp p H Q E->p.length=ps.length)
  (G:∀ (A:Lj) (g:U Env) (s:K2) (H:Hp) (p:U V) (Q:VK) (E:XK),Room k (A.deeper (Mj h d s.heap.objs.size f i))->sp p H Q E ->
   ∃t,PSs (jT CX P w K mg j N h d f i A g s H E) m t/\t {nx:=λ_ D=>Q .non D,rt:=Q} (start N p) H):
  dJ P w K mg j CX (k+1) f (MP F h l m d dV kV doc pm an i ct) ps sp:=by
 refine⟨len,λA g s H args us p Q E hr e0 hb r hsp=>?_⟩;have hl:=len _ _ _ _ hsp;have KX:K.In s.heap:=e0.mod.kin.keeps λb o e=>(e0.bs b o e).1;have lim:s.heap.NoLimit:=e0.mod.nolimit.keeps λb o e=>(e0.bs b o e).1
 have M:∀y∈ps.zip us,d.names.lookup y.1=Y .local\/(d.names.lookup y.1=Y .cell/\((cellsFrom (s.heap.objs.size+1) d.names []).lookup y.1).isSome=K1):=λ⟨n,v⟩ hy=>by
  rcases S.par n (Oq hy).1 with q|q
  .exact .inl q
  .exact .inr ⟨q,QB _ _ _<|.inl q⟩
 refine codeAny_call_function hr.depth (KX _ _ lk) rfl S.co S.gen rfl (PySem.W.codeRec_of KX hcd) (hb _ _ _ _ ?_);refine wpAny_newFunctionEnv_cells S.kind M λenv he s1 x=>?_;subst he;refine⟨lim.keeps x.toInCall.keep,codeAny_func ?_⟩;obtain⟨t,ht,hq⟩:=G A g s H p Q E (hr.deeper _) hsp;have a:Inv (jT CX P w K mg j N h d f i A g s H E) [] (start N p) H s1:=qz S hr.hd e0 hl r x;refine Ly (ht [] s1 (start N p) H _ a hq) (λfl s' Z=>?_) λe s' Z=>Z
 have fin:∀{z:St} {D:Hp} {v:V} {u:L},Inv (jT CX P w K mg j N h d f i A g s H E) [] z D s'->RelV v u->Q v D->CE g P w H s Q u s':=
  λ{z D v u} c rv q=>⟨v,D,c.os,c.bare,c.base,c.hok,rv,q⟩
 cases fl with
 |ret u=>obtain⟨v,z,D,c,rv,q⟩:=Z;exact fin c rv q
 |next=>obtain⟨z,D,c,q⟩:=Z;exact fin (v:=V.non) (u:=Value.none) c rfl q
 |brk=>obtain⟨_,_,_,q⟩:=Z;exact Ml q
 |cont=>obtain⟨_,_,_,q⟩:=Z;exact Ml q
section
variable {X:Cx}{x:Str}{p pos:Pos}{e:Q1}{es:U Q1}{t:TA}{id T:Q4}{r:U V->Hp->VK->Prop}
def tCB (r:U V->Hp->VK->Prop)(t:TA):TE:=λc H Q=>t c H λb a=>r b a Q
theorem bK (k:dR X (.builtin id) r)(m:Gl X x)(n:X.mg x=J)(u:Mx x=Y (.builtin id))(j:PA X (e::es) t)(o:x≠"__name__":=by decide)(c:(x==("__debug__":Str))=false:=by decide)
  (l:K7 (e::es) X.env=(K0,Q9 e X.env)::K7 es X.env:=by rfl) (d:(Lu pos<|K7 es X.env).any (·.1)=false:=by rfl):PE X (.Call (.Name x p) (e::es) [] pos) (tCB r t):=by
 intro b s f H Q a h;refine OJ<|fT a m n u ?_ o c;exact QN (thn (j pos b s f H _ a h) λy w ⟨z,g,i,r1,v⟩=>k b w f g z y Q i r1 v) l d
theorem eC (k:dR X (.type T) r)(m:Gl X x)(n:X.mg x=J)(u:Mx x=Y (.type T))(j:PA X (e::es) t)(o:x≠"__name__":=by decide)(c:(x==("__debug__":Str))=false:=by decide)
  (l:K7 (e::es) X.env=(K0,Q9 e X.env)::K7 es X.env:=by rfl) (d:(Lu pos<|K7 es X.env).any (·.1)=false:=by rfl):PE X (.Call (.Name x p) (e::es) [] pos) (tCB r t):=by
 intro b s f H Q a h;refine OJ<|fT a m n u ?_ o c;exact Oz (thn (j pos b s f H _ a h) λy w ⟨z,g,i,r1,v⟩=>k b w f g z y Q i r1 v) l d
end
end L2
namespace HT
open PySem PyProof.Rows
section
variable {prog:QZ}{w:K6}{A:Lj}{E:L->K2->Prop}{s:K2}
theorem cat_tup {t b:QS}{d a:U L}{Q:L->K2->Prop}(z:RB s.heap t d.toArray)(y:RB s.heap b a.toArray)(p:d≠[])
  (v:a=[]->Q (.ref t) s) (x:a≠[]->Q (.ref s.heap.objs.size) {s with heap:=s.heap.push {cls:=.type "tuple",data:=.seq (d++a).toArray}})
  (k:d.length+a.length<=sizeLine):QX (K5 prog w) A (LU .Add (.ref t)<|.ref b) Q E s:=by
 obtain⟨⟨cls,m,data,u⟩,ho,o,n,hd⟩:=id z;obtain⟨⟨l,f,data2,i⟩,c,g,r,h⟩:=id y;simp only at o hd g h;subst o hd g h;have e:d.toArray++a.toArray=(d++a).toArray:=by simp
 by_cases j:a=[]
 .exact RM ⟨_,ho,rfl⟩ ⟨_,c,rfl⟩ OI RF Pq Pf (Pk _ _)
   (tuple_addW1 t b d.toArray a.toArray n r m f u i (by simpa using p)<|by simp[j]) ⟨ho,c,v j⟩
 .refine RM ⟨_,ho,rfl⟩ ⟨_,c,rfl⟩ OI RF Pq Pf (Pk _ _)
   (tuple_addW2 t b d.toArray a.toArray n r m f u i (by simpa using p) (by simpa using j)<|by rw[Lq,Lq];exact k) ⟨ho,c,?_⟩
  rw[e];exact x j
def sIx (n d:O):B I->O
|none=>d
|some v=>if v<0 then(v+(n:I)).toNat else min v.toNat n
theorem CN (n d:O)(hd:d<=n)(o:B I):sIx n d o<=n:=by
 cases o with
 |none=>exact hd
 |some v=>
  show(if v<0 then(v+(n:I)).toNat else min v.toNat n)<=n;by_cases a:v<0
  .rw[QY a];lia
  .rw[Q0 a];exact Nat.min_le_right _ _
theorem pZ (v:I)(n d:O):(if v<0 then max (v+(n:I)) 0 else min v (n:I))=((sIx n d (Y v):O):I):=by
 show(if v<0 then max (v+(n:I)) 0 else min v (n:I))=(((if v<0 then(v+(n:I)).toNat else min v.toNat n):O):I);by_cases a:v<0
 .simp only[QY a];lia
 .simp only[Q0 a];lia
theorem ni (lo a:B I)(n:O):Builtin.Slice.sliceAdjust lo a 1 (n:I)=(((sIx n 0 lo:O):I),((sIx n n a:O):I)):=by
 have b:¬((1:I)<0):=by lia
 unfold Builtin.Slice.sliceAdjust;simp only[b,if_false];refine Prod.ext ?_ ?_
 .cases lo with
  |none=>rfl
  |some v=>exact pZ v n 0
 .cases a with
  |none=>rfl
  |some v=>exact pZ v n n
theorem mJ (i j:O):Builtin.Slice.slicePlaces (i:I) (j:I) 1=j-i:=by
 unfold Builtin.Slice.slicePlaces;have a:(1:I)>0:=by lia
 simp only[a,Rz,Int.ediv_one];split<;>lia
theorem iM {v:L}{o:B I}{Q:B I->K2->Prop}(p:Mz v o)(h:Q o s):QX (K5 prog w) A (Builtin.Slice.slicePartIndex v) Q E s:=by
 cases p with
 |none=>exact slicePart_none h
 |int i t=>exact slicePart_int h
theorem sliceApplied_gen {f:QS}{d e:L}{lo b:B I}{n:O}{Q:I×I×O->K2->Prop}(i:s.heap.IsSliceOf f d e .none)(j:Mz d lo)(k:Mz e b)
  (h:Q (((sIx n 0 lo:O):I),1,sIx n n b-sIx n 0 lo) s):QX (K5 prog w) A (Builtin.Slice.sliceApplied (.ref f)<|pure (n:I)) Q E s:=by
 obtain⟨os,c,g,a⟩:=id i;unfold Builtin.Slice.sliceApplied Builtin.Slice.sliceFields;refine K4<|K4<|L5 c a (x:=d) rfl (K4<|L5 c a (x:=e) rfl (K4<|L5 c a (x:=.none) rfl (Lc ?_)));refine K4<|slicePart_none ?_;show QX _ _ (if((1:I)==0)=K1 then _ else _) _ _ s;rw[Q0<|by decide];refine K4<|iM j<|K4<|iM k<|K4<|Lc ?_;show QX _ _ (match Builtin.Slice.sliceAdjust lo b 1 (n:I) with|(lo,b)=>pure (lo,(1:I),Builtin.Slice.slicePlaces lo b 1)) _ _ s;rw[ni lo b n];show QX _ _ (pure (((sIx n 0 lo:O):I),(1:I),Builtin.Slice.slicePlaces ((sIx n 0 lo:O):I) ((sIx n n b:O):I) 1)) _ _ s;rw[mJ];exact Lc h
theorem tX (a:Rg L)(i k:O):((Lx k).filterMap λ(m:O)=>a[((i:I)+(m:I) * 1).toNat]?).toArray=((a.toList.drop i).take k).toArray:=by
 have e:(λ(m:O)=>a[((i:I)+(m:I) * 1).toNat]?)=λm=>a[i+m]?:=by
  funext m;have:((i:I)+(m:I) * 1).toNat=i+m:=by lia
  rw[this]
 rw[e];have:=pick_run a i k;rw[List.filterMap_map] at this;have e2:((λx=>a[x]?) ∘ λx=>i+x)=λm=>a[i+m]?:=rfl;rw[e2] at this;rw[this]
theorem getItem_tuple_cut {t j:QS}{a:Rg L}{l n:L}{lo c:B I}{Q:L->K2->Prop}(d:RB s.heap t a)(k:s.heap.IsSliceOf j l n .none)(u:Mz l lo)(v:Mz n c)
  (r:¬(sIx a.size 0 lo=0/\sIx a.size a.size c=a.size))
  (h:Q (.ref s.heap.objs.size) {s with heap:=s.heap.push {cls:=.type "tuple",data:=.seq ((a.toList.drop<|sIx a.size 0 lo).take<|sIx a.size a.size c-sIx a.size 0 lo).toArray}})
  (p:a.size<=sizeLine):QX (K5 prog w) A (Mt (.ref t)<|.ref j) Q E s:=by
 have b:sizeOk (.seq ((a.toList.drop (sIx a.size 0 lo)).take (sIx a.size a.size c-sIx a.size 0 lo)).toArray):=by show((a.toList.drop<|sIx a.size 0 lo).take<|sIx a.size a.size c-sIx a.size 0 lo).toArray.size<=sizeLine;rw[Lq,NJ,NI,Mp];lia
 have x:sIx a.size a.size c<=a.size:=CN _ _ (La _) c;obtain⟨os,i,f,o⟩:=id k;have e:s.TypeIs (.ref j) "slice":=⟨os,i,f⟩;unfold Mt
 try with_reducible refine M4 ?_
 first|refine K4 (Lc ?_)|skip
 refine K4<|wpAny_sequenceKey d.typeIs (by decide) ?_
 refine K4 (Nx (name:=Str.ofString "__getitem__") d.typeIs NM
  (Nc NM d.typeIs entry_tuple_getitem ?_<|args_tuple_getitem _ _))
 show QX _ _ (Builtin.Tuple.tupleItemsOf (.ref t) >>= _) _ _ s;refine K4<|tupleItemsOf_ d ?_;refine K4<|NV e ?_;rw[QY<|by decide];refine K4<|sliceApplied_gen k u v ?_;have g:¬((((sIx a.size 0 lo:O):I)==0&&(1:I)==1&&(sIx a.size a.size c-sIx a.size 0 lo)==a.size)=K1):=by intro q;rw[Li,Li] at q;have y:((sIx a.size 0 lo:O):I)=0:=eq_of_beq q.1.1;have z:sIx a.size a.size c-sIx a.size 0 lo=a.size:=eq_of_beq q.2;exact r ⟨by lia,by lia⟩
 show QX _ _ (if(((sIx a.size 0 lo:O):I)==0&&(1:I)==1&&(sIx a.size a.size c-sIx a.size 0 lo)==a.size)=K1 then _ else _) _ _ s;rw[Q0 g,tX]
 first
  |exact K4 (m:=Builtin.Tuple.tupleExact _)<|Nd (Lc ⟨_,rfl,Lc h⟩) b
  |exact K4 (m:=Builtin.Tuple.tupleExact _)<|Nd (K4<|Lc<|Lc ⟨_,rfl,Lc h⟩) b
  |exact K4<|K4 (m:=Builtin.Tuple.tupleExact _)<|Nd (Lc<|Lc ⟨_,rfl,Lc h⟩) b
  |exact K4<|K4 (m:=Builtin.Tuple.tupleExact _)<|Nd (Lc ⟨_,rfl,Lc h⟩) b
end
end HT
namespace L2
open PySem PySem.Spec PyProof.Rows
abbrev TO:=St->Hp->(B I->Hp->Prop)->Prop
def PO (X:Cx)(e:B Q1)(t:TO):Prop:=
 ∀(a:U<|QS×Obj) (s:K2) (b:St) (H:Hp) (Q:B I->Hp->Prop),Inv X a b H s->t b H Q ->
  QX (K5 X.prog X.w) X.A (evalPart e X.env) (λu d=>∃o c,Inv X a b c d/\Mz u o/\Q o c) X.xe s
def Aw:TO:=λ_ H Q=>Q J H
def IJ (t:TE):TO:=λb H Q=>t b H λx a=>∃i,x=.int i/\Q (Y i) a
section
variable {X:Cx}{e:Q1}{te:TE}{lo hi:B Q1}{tl th:TO}{pos p2:Pos}
theorem pL:PO X J Aw:=by intro b s c H Q a h;rw[evalPart_none];exact Lc ⟨J,H,a,.none,h⟩
theorem pA (h:PE X e te):PO X (Y e) (IJ te):=by intro b s j H Q a f;rw[evalPart_some];refine thn (h b s j H _ a f) λu k ⟨x,c,d,r1,g⟩=>?_;obtain⟨i,rfl,q⟩:=g;obtain⟨t,rfl⟩:=r1;exact⟨Y i,c,d,.int i t,q⟩
def SlR (X:Cx)(r:V->B I->B I->Hp->VK->Prop):Prop:=
 ∀(a:U<|QS×Obj) (s:K2) (f:St) (H:Hp) (x:V) (v c d:L) (lo hi:B I) (b:QS) (Q:VK),Inv X a f H s->RelV x v->s.heap.IsSliceOf b c d .none->Mz c lo->Mz d hi->r x lo hi H Q ->
  ∃T id,RI (.type T) "__getitem__"=pure (Y<|.builtin id)/\s.TypeIs v T/\QX (K5 X.prog X.w) X.A (Mt v<|.ref b) (EP X a f Q) X.xe s
theorem SlR.or {r g:V->B I->B I->Hp->VK->Prop}(h:SlR X r)(n:SlR X g):SlR X (λx lo hi H Q=>r x lo hi H Q\/g x lo hi H Q):=by
 intro b s m H x v k l lo hi j Q a i c d f q;rcases q with q|q
 .exact h b s m H x v k l lo hi j Q a i c d f q
 .exact n b s m H x v k l lo hi j Q a i c d f q
def tSl (r:V->B I->B I->Hp->VK->Prop)(te:TE)(tl th:TO):TE:=λa H Q=>te a H λx b=>tl a b λl c=>th a c λu d=>r x l u d Q
theorem lG {r:V->B I->B I->Hp->VK->Prop}(F:SlR X r)(y:PE X e te)(D:PO X lo tl)(M:PO X hi th):PE X (.Subscript e (.Slice lo hi J p2) pos) (tSl r te tl th):=by intro c s f H Q a h;refine Subscript_<|thn (y c s f H _ a h) λv s1 ⟨x,k,n,r1,Z⟩=>?_;refine wpAny_Slice<|thn (D c s1 f k _ n Z) λg s2 ⟨l,m,o,N,q2⟩=>thn (M c s2 f m _ o q2) λi d ⟨u,j,p,P,q3⟩=>?_;rw[evalPart_none];refine Lc ?_;have t:Inv X c f j {d with heap:=d.heap.push {cls:=.type "slice",data:=.fields #[g,i,.none]}}:=p.kept (t':=d.toks) λb ob q=>Heap.get?_push_of_some _ q;obtain⟨T,id,hT,G,z⟩:=F c {d with heap:=d.heap.push {cls:=.type "slice",data:=.fields #[g,i,.none]}} f j x v g i l u d.heap.objs.size Q t r1 (Heap.IsSliceOf.new ..) N P q3;show QX (K5 X.prog X.w) X.A (RG e (.Slice lo hi J p2) v<|.ref d.heap.objs.size) (EP X c f Q) X.xe {d with heap:=d.heap.push {cls:=.type "slice",data:=.fields #[g,i,.none]}};exact tail_any (ops:=[.ref d.heap.objs.size,v]) G hT z<|by with_unfolding_all rfl
def ff (a:U V)(lo hi:B I):U V:=(a.drop<|HT.sIx a.length 0 lo).take<|HT.sIx a.length a.length hi-HT.sIx a.length 0 lo
theorem cQ (a:U V)(lo hi:B I):(ff a lo hi).length<=a.length:=by unfold ff;rw[NJ,NI];lia
def Kb (K:K3):V->B I->B I->Hp->VK->Prop:=λx lo hi H Q=>∃a b,x=.ref a/\SqT K H a b /\
 ¬(HT.sIx b.length 0 lo=0/\HT.sIx b.length b.length hi=b.length)/\∀p,H p=J->Q (.ref p) (upd H p<|.tup<|ff b lo hi)
theorem FD:SlR X (Kb X.K):=by
 intro k s A H x v y z lo hi w Q c t l n p h;obtain⟨a,f,rfl,hx,m,q⟩:=h;cases t;obtain⟨g,r,i,j⟩:=c.tuple hx;have d:g.toArray.size=f.length:=by rw[Lq];exact r.length.symm
 refine⟨"tuple",_,NM.lookup,i.typeIs,?_⟩;refine HT.getItem_tuple_cut i l n p (by rw[d];exact m) ?_ (by rw[d];exact j);rw[d];refine⟨.ref s.heap.objs.size,_,c.laid (t':=s.toks) (o:=.tup<|ff f lo hi) (λb u q=>Heap.get?_push_of_some _ q) (La _) ?_,rfl,q _<|c.hok.fresh<|La _⟩;exact⟨Lf (cQ f lo hi) j,_,(r.drop<|HT.sIx f.length 0 lo).take<|HT.sIx f.length f.length hi-HT.sIx f.length 0 lo,IsTup.new _ _⟩
def GI (K:K3):R2:=λx y H Q=>∃a b d c,x=.ref a/\y=.ref b/\SqT K H a d/\SqT K H b c/\d≠[]/\d.length+c.length<=sizeLine /\
 (c=[]->Q (.ref a) H)/\(c≠[]->∀p,H p=J->Q (.ref p) (upd H p<|.tup<|d++c))
theorem Vals.nil_iff {b:U V}{a:U L}(r:Vals b a):a=[] ↔ b=[]:=by
 cases r with
 |nil=>simp
 |cons _ _=>simp
theorem AM:OpR X (LU .Add) (GI X.K):=by intro g s F H x y v u Q c p r h;obtain⟨a,b,t,A,rfl,rfl,i,j,hx,d,m,n⟩:=h;cases p;cases r;obtain⟨k,r1,l,_⟩:=c.tuple i;obtain⟨f,r2,p2,_⟩:=c.tuple j;refine HT.cat_tup l p2 (λz=>hx<|r1.nil_iff.mp z) (λz=>⟨.ref a,H,c,rfl,m<|r2.nil_iff.mp z⟩) (λz=>?_) (by rw[<- r1.length,<- r2.length];exact d);refine⟨.ref s.heap.objs.size,_,c.laid (t':=s.toks) (o:=.tup<|t++A) (λb D q=>Heap.get?_push_of_some _ q) (La _) ?_,rfl,n (λw=>z<|r2.nil_iff.mpr w) _<|c.hok.fresh<|La _⟩;exact⟨by rw[K8];exact d,_,r1.append r2,IsTup.new _ _⟩
end
def ixN (n:O)(i:I):B O:=if 0<=i then(if i<n then Y i.toNat else J) else if -(n:I)<=i then Y (i+n).toNat else J
def atI {b:Type}(a:U b)(i:I):B b:=(ixN a.length i).bind λj=>a[j]?
theorem oR {n:O}{i:I}{j:O}(h:ixN n i=Y j):seqIndex? i n=Y j/\j<n/\-(n:I)<=i/\i<n:=by
 unfold ixN at h;by_cases b:0<=i
 .rw [QY b] at h;by_cases a:i<n
  .rw [QY a] at h;have e:i.toNat=j:=LG h;exact⟨by rw[seqIndex_of b a,e],by lia,by lia,a⟩
  .rw[Q0 a] at h;cases h
 .rw [Q0 b] at h;by_cases a:-(n:I)<=i
  .rw [QY a] at h;have e:(i+n).toNat=j:=LG h;exact⟨by rw[RN (by lia) a,e],by lia,a,by lia⟩
  .rw[Q0 a] at h;cases h
theorem jY {b:Type}{a:U b}{i:I}{v:b}(h:atI a i=Y v):∃j,seqIndex? i a.length=Y j/\a[j]?=Y v/\j<a.length/\-(a.length:I)<=i/\i<a.length:=by
 unfold atI at h;cases e:ixN a.length i with
 |none=>rw[e] at h;cases h
 |some j=>rw[e] at h;obtain⟨c,d,f,g⟩:=oR e;exact⟨j,c,h,d,f,g⟩
def fI (b:Q1):Prop:=∀o i,Oa b K0 o i=operate [o,i] (Mt o i)
def IxR (X:Cx)(r:R2):Prop:=
 ∀(c a:Q1) (b:U<|QS×Obj) (s:K2) (d:St) (H:Hp) (x y:V) (v u:L) (Q:VK),Inv X b d H s->RelV x v->RelV y u->r x y H Q ->
  Oa a K0 v u=operate [v,u] (Mt v u)->QX (K5 X.prog X.w) X.A (RG c a v u) (EP X b d Q) X.xe s
def MtR (X:Cx)(id:Q4)(r:V->U V->Hp->VK->Prop):Prop:=
 ∀(a:U<|QS×Obj) (s:K2) (d:St) (H:Hp) (x:V) (c:U V) (v:L) (b:U L) (Q:VK),Inv X a d H s->RelV x v->Vals c b->r x c H Q ->
  QX (K5 X.prog X.w) X.A (call (.builtin id) (v::b)) (EP X a d Q) X.xe s
section
variable {X:Cx}{a b:Q1}{ta tb:TE}{pos:Pos}
theorem IxR.or {r i:R2}(h:IxR X r)(m:IxR X i):IxR X (λx y H Q=>r x y H Q\/i x y H Q):=by
 intro e d f s l H x y v u Q c j k q g;rcases q with q|q
 .exact h e d f s l H x y v u Q c j k q g
 .exact m e d f s l H x y v u Q c j k q g
theorem vH {r:R2}(j:IxR X r)(g:PE X a ta)(i:PE X b tb)(k:fI b):PE X (.Subscript a b pos) (tOp r ta tb):=by intro d s o H Q c h;exact Subscript_<|Di g i c h λv u n x y e f l m q=>j a b d n o e x y v u Q f l m q<|k _ _
def JQ (K:K3):R2:=λx y H Q=>∃p c i v,x=.ref p/\y=.int i/\SqL K H p c/\atI c i=Y v/\Q v H
def J8 (K:K3):R2:=λx y H Q=>∃p c i v,x=.ref p/\y=.int i/\SqT K H p c/\atI c i=Y v/\Q v H
def JM:R2:=λx y H Q=>∃z i c,x=.str z/\y=.int i/\z.length<=sizeLine/\atI z.cps.toList i=Y c/\Q (.str ⟨#[c]⟩) H
theorem zk:IxR X (JQ X.K):=by
 intro o n d s G H x y v u Q c rx ry h F;obtain⟨p,xs,i,z,rfl,rfl,hq,Z,q⟩:=h;cases rx;obtain⟨t,rfl⟩:=ry;obtain⟨k,r,l,hz⟩:=c.list hq;obtain⟨j,f,M,h3,N,P⟩:=jY Z;obtain⟨w,A,m⟩:=r.get M;have hl:=r.length;have hn:=fU;have e:EP X d G Q w s:=⟨z,H,c,m,q⟩;by_cases D:0<=i
 .have g:i.toNat=j:=by rw[seqIndex_of D P] at f;exact LG f
  exact item_listR l.isList D (by lia) (by rw[g];simpa using A) e F
 .have g:(i+(k.toArray.size:I)).toNat=j:=by rw[RN (by lia) N] at f;rw[Lq,<- hl];exact LG f
  exact Rq (x:=w) l.isList.typeIs slot_list_getitem.lookup
   (wpAny_getItem_list_neg (Q:=λr s'=>r=w/\EP X d G Q r s') l.isList (by lia) (by rw[Lq]<;>lia) (by lia) (by rw[g];simpa using A) ⟨rfl,e⟩) F
theorem B9:IxR X (J8 X.K):=by
 intro k g d s m H x y v u Q c P Z h M;obtain⟨p,xs,i,z,rfl,rfl,G,D,q⟩:=h;cases P;obtain⟨t,rfl⟩:=Z;obtain⟨N,r,l,hz⟩:=c.tuple G;obtain⟨j,o,A,h3,h4,h5⟩:=jY D;obtain⟨w,n,f⟩:=r.get A;have F:=r.length;have hn:=fU;have e:EP X d m Q w s:=⟨z,H,c,f,q⟩
 exact Rq (x:=w) l.typeIs slot_tuple_getitem.lookup
  (getItem_tuple (j:=j) (Q:=λr s'=>r=w/\EP X d m Q r s') l (by lia) (by lia) (by rw[Lq,<- F];exact o) (by simpa using n) ⟨rfl,e⟩) M
theorem Co:IxR X JM:=by
 intro f e k s N H x y v u Q d w A h r;obtain⟨z,i,c,rfl,rfl,G,o,q⟩:=h;obtain⟨t,rfl⟩:=w;obtain⟨M,rfl⟩:=A;obtain⟨j,g,l,D,m,n⟩:=jY o;have p:z.cps.toList.length=z.length:=by simp[Str.length]
 rw[p] at g m n;have F:=fU
 exact tail_any (NP s z t) slot_str_getitem.lookup (getItem_str (c:=c) (by
  have e1:decide (i < -(2 ^ 63:I))=false:=Q7 (by lia);have e2:decide (i >= 2 ^ 63)=false:=Q7 (by lia);rw[e1,e2,Mq]) (by rw[g];simpa using l) ⟨.str ⟨#[c]⟩,H,d.tok _,⟨_,rfl⟩,q⟩) r
theorem nA (c:U L)(n j:O)(u:L):Obj.mapSeq (·.setIfInBounds j u) {cls:=.type "list",data:=.seq c.toArray n}={cls:=.type "list",data:=.seq (c.set j u).toArray n}:=by simp[Obj.mapSeq]
theorem Inv.lst {f:U<|QS×Obj}{i:St}{H:Hp}{s:K2}{p:QS}{g:U V}(c:Inv X f i H s)(h:H p=Y (.lst g)):
  ∃(d:U L) (n:O),Vals g d/\s.heap.get? p=Y {cls:=.type "list",data:=.seq d.toArray n}/\g.length<=sizeLine:=by
 obtain⟨z,d,n,r,e⟩:=c.hok p _ h;exact⟨d,n,r,e,z⟩
theorem Inv.lstUpd {g:U<|QS×Obj}{m:St}{H:Hp}{s:K2}{p:QS}{w k:U V}{i d:U L}{n j:O}{f:Obj->Obj}(c:Inv X g m H s)(h:H p=Y (.lst w))
  (ho:s.heap.get? p=Y {cls:=.type "list",data:=.seq i.toArray n}) (l:f {cls:=.type "list",data:=.seq i.toArray n}={cls:=.type "list",data:=.seq d.toArray j}) (r:Vals k d) (v:k.length<=sizeLine) (t:O):
  Inv X g m (upd H p<|.lst k) {s with heap:=s.heap.update p f,toks:=t}:=by
 have e:(s.heap.update p f).get? p=Y {cls:=.type "list",data:=.seq d.toArray j}:=by rw[Heap.get?_update_self f ho<|by rw[l]<;>rfl,l]
 refine c.write (x:=p) (e:=p) (by rw[h];trivial) (.inl rfl) (λb u o q=>(Heap.get?_update_other _ _<|LF o).trans q) ⟨_,e⟩ ?_;exact⟨v,d,j,r,e⟩
def GW:V->V->V->Hp->(Hp->Prop)->Prop:=λo i v H Q=>∃p c k j,o=.ref p/\i=.int k/\H p=Y (.lst c)/\ixN c.length k=Y j/\Q (upd H p<|.lst<|c.set j v)
theorem vp:HP X GW:=by
 intro e s M H o i v Z iv u Q c D A F h;obtain⟨p,G,k,j,rfl,rfl,hp,y,q⟩:=h;cases D;obtain⟨t,rfl⟩:=A;obtain⟨d,n,r,ho,z⟩:=c.lst hp;obtain⟨f,N,w,x⟩:=oR y;have g:=r.length;have P:=fU
 have l:Inv X e M (upd H p (.lst (G.set j v))) {s with heap:=s.heap.update p<|Obj.mapSeq (·.setIfInBounds j u)}:=
  c.lstUpd hp ho (nA d n j u) (r.set F j) (by rw[Mn];exact z) s.toks
 by_cases m:0<=k
 .have hk:k.toNat=j:=by rw[seqIndex_of m x] at f;exact LG f
  exact PySem.W.ki_setAt ho m (by lia) (by rw[Lq,<- g];exact x)<|by rw[hk];exact⟨_,l,q⟩
 .have hk:(k+(d.toArray.size:I)).toNat=j:=by rw[RN (by lia) w] at f;rw[Lq,<- g];exact LG f
  exact PySem.W.ki_setBack ho (by lia) (by rw[Lq,<- g];exact w) (by lia)<|by rw[hk];exact⟨_,l,q⟩
theorem ke (lo c:B I)(n:O):(Na lo c J n).1=((HT.sIx n 0 lo:O):I)/\(Na lo c J n).2.1=((HT.sIx n n c:O):I)/\(Na lo c J n).2.2=1:=by
 refine⟨?_,?_,rfl⟩
 .cases lo with
  |none=>simp[Na,HT.sIx]
  |some i=>
   simp only[Na,HT.sIx,N7,show(1:I)>0 by decide,Rz];by_cases h:i<0
   .simp only[h,Rz]<;>lia
   .simp only[h,if_false]<;>lia
 .cases c with
  |none=>simp[Na,HT.sIx]
  |some i=>
   simp only[Na,HT.sIx,N7,show(1:I)>0 by decide,Rz];by_cases h:i<0
   .simp only[h,Rz]<;>lia
   .simp only[h,if_false]<;>lia
theorem i3 (c:U L)(lo d:B I):slicePick c.toArray lo d J=((c.drop<|HT.sIx c.length 0 lo).take<|HT.sIx c.length c.length d-HT.sIx c.length 0 lo).toArray:=by obtain⟨e,f,g⟩:=ke lo d c.toArray.size;unfold slicePick;rw[e,f,g];simp only[sliceRange_one,pick_run,Lq]<;>rfl
def yZ (K:K3):V->B I->B I->Hp->VK->Prop:=λx lo d H Q=>∃a c,x=.ref a/\SqL K H a c/\∀p,H p=J->Q (.ref p) (upd H p<|.lst<|ff c lo d)
theorem sl_list:SlR X (yZ X.K):=by intro i s z H x v w y lo f u Q c p j m n h;obtain⟨a,d,rfl,hx,q⟩:=h;cases p;obtain⟨l,r,g,k⟩:=c.list hx;have e:=r.length;refine⟨"list",_,slot_list_getitem.lookup,g.isList.typeIs,?_⟩;refine wpAny_getItem_list_slice g.isList j m n .none (by simp) ?_ (by rw[Lq]<;>lia);rw[i3,<- e];refine⟨.ref s.heap.objs.size,_,c.laid (t':=s.toks) (o:=.lst<|ff d lo f) (λb t q=>Heap.get?_push_of_some _ q) (La _) ?_,rfl,q _<|c.hok.fresh<|La _⟩;exact⟨Lf (cQ d lo f) k,_,0,(r.drop<|HT.sIx d.length 0 lo).take<|HT.sIx d.length d.length f-HT.sIx d.length 0 lo,Heap.get?_push_size _ rfl⟩
noncomputable def eL:V->QT
|.non=>K1
|.bl _=>K1
|.int _=>K1
|.str _=>K1
|_=>K0
noncomputable def eqV:V->V->QT
|.non,.non=>K1
|.bl a,.bl b=>a==b
|.bl a,.int b=>(if a then 1 else 0)==b
|.int a,.bl b=>a==(if b then 1 else 0)
|.int a,.int b=>a==b
|.str a,.str b=>a==b
|_,_=>K0
theorem E1 {A:Lj}{s:K2}{y x:V}{u v:L}(f:RelV y u)(c:RelV x v)(g:eL y=K1)(e:eL x=K1):SeqAt.EqAt A s u v (eqV y x):=by
 cases y with
 |non=>
  cases f;cases x with
  |non=>cases c;exact SeqAt.EqAt.same _
  |bl b=>cases c;exact SeqAt.EqAt.none_bool b
  |int b=>obtain⟨t,rfl⟩:=c;exact SeqAt.EqAt.none_int b t
  |str b=>obtain⟨t,rfl⟩:=c;exact SeqAt.EqAt.none_str b t
  |_=>exact QW (show K0=K1 from e) LA
 |bl a=>
  cases f;cases x with
  |non=>cases c;exact SeqAt.EqAt.bool_none a
  |bl b=>cases c;exact SeqAt.EqAt.bool_bool a b
  |int b=>obtain⟨t,rfl⟩:=c;exact SeqAt.EqAt.bool_int a b t
  |str b=>obtain⟨t,rfl⟩:=c;exact SeqAt.EqAt.bool_str a b t
  |_=>exact QW (show K0=K1 from e) LA
 |int a=>
  obtain⟨d,rfl⟩:=f;cases x with
  |non=>cases c;exact SeqAt.EqAt.int_none a d
  |bl b=>cases c;exact SeqAt.EqAt.int_bool a d b
  |int b=>obtain⟨t,rfl⟩:=c;exact SeqAt.EqAt.int_int a d b t
  |str b=>obtain⟨t,rfl⟩:=c;exact SeqAt.EqAt.int_str a d b t
  |_=>exact QW (show K0=K1 from e) LA
 |str a=>
  obtain⟨d,rfl⟩:=f;cases x with
  |non=>cases c;exact SeqAt.EqAt.str_none a d
  |bl b=>cases c;exact SeqAt.EqAt.str_bool a d b
  |int b=>obtain⟨t,rfl⟩:=c;exact SeqAt.EqAt.str_int a d b t
  |str b=>obtain⟨t,rfl⟩:=c;exact SeqAt.EqAt.str_str a d b t
  |_=>exact QW (show K0=K1 from e) LA
 |_=>exact QW (show K0=K1 from g) LA
def eqU (x:V)(u:L):QT:=match u with
|.none=>eqV .non x
|.bool b=>eqV (.bl b) x
|.int i _=>eqV (.int i) x
|.str z _=>eqV (.str z) x
|_=>K0
theorem vE {x y:V}{u:L}(r:RelV y u)(f:eL y=K1):eqU x u=eqV y x:=by
 cases y with
 |non=>cases r;rfl
 |bl b=>cases r;rfl
 |int i=>obtain⟨t,rfl⟩:=r;rfl
 |str z=>obtain⟨t,rfl⟩:=r;rfl
 |_=>exact QW (show K0=K1 from f) LA
theorem fu {x:V}:∀{c:U V} {d:U L},Vals c d->c.all eL=K1->d.any (eqU x)=c.any λy=>eqV y x
|_,_,.nil,_=>rfl
|y::c,u::d,.cons r t,f=>by rw[NF,Li] at f;rw[LS,LS,vE r f.1,fu t f.2]
theorem dZ {A:Lj}{s:K2}{x:V}{v:L}(h:RelV x v)(g:eL x=K1):∀{e:U V} {d:U L},Vals e d->e.all eL=K1->∀u∈d,SeqAt.EqAt A s u v<|eqU x u
|_,_,.nil,_=>λu c=>by cases c
|y::e,u::d,.cons r t,f=>λi c=>by
 rw[NF,Li] at f;rcases Lm.mp c with rfl|c
 .rw[vE r f.1];exact E1 r h f.1 g
 .exact dZ h g t f.2 i c
def inV (x:V)(c:U V):QT:=c.any λy=>eqV y x
def rIn (K:K3)(d:QT):R2:=λx y H Q=>∃p c,y=.ref p/\(SqL K H p c\/SqT K H p c)/\eL x=K1/\c.all eL=K1/\Q (.bl<|if d then !inV x c else inV x c) H
theorem qQ:OpR X (LV .In) (rIn X.K K0):=by
 intro j s o H x y v u Q c k m h;obtain⟨p,n,rfl,e,i,fs,q⟩:=h;cases m;rcases e with e|e
 .obtain ⟨d,r,g,l⟩:=c.list e;refine SeqAt.in_listAt (eqU x) g.isList (λw f=>dZ k i r fs w<|by simpa using f) ⟨.bl _,H,c,rfl,?_⟩;rw[show d.toArray.any (eqU x)=d.any (eqU x) by simp,fu r fs];exact q
 .obtain ⟨d,r,g,l⟩:=c.tuple e;refine SeqAt.in_tupleAt (eqU x) g (λw f=>dZ k i r fs w<|by simpa using f) ⟨.bl _,H,c,rfl,?_⟩;rw[show d.toArray.any (eqU x)=d.any (eqU x) by simp,fu r fs];exact q
theorem kF:OpR X (LV .NotIn) (rIn X.K K1):=by
 intro j s o H x y v u Q c k m h;obtain⟨p,n,rfl,e,i,fs,q⟩:=h;cases m;rcases e with e|e
 .obtain ⟨d,r,g,l⟩:=c.list e;refine SeqAt.notIn_listAt (eqU x) g.isList (λw f=>dZ k i r fs w<|by simpa using f) ⟨.bl _,H,c,rfl,?_⟩;rw[show d.toArray.any (eqU x)=d.any (eqU x) by simp,fu r fs];exact q
 .obtain ⟨d,r,g,l⟩:=c.tuple e;refine SeqAt.notIn_tupleAt (eqU x) g (λw f=>dZ k i r fs w<|by simpa using f) ⟨.bl _,H,c,rfl,?_⟩;rw[show d.toArray.any (eqU x)=d.any (eqU x) by simp,fu r fs];exact q
theorem kj:dR X (.type "list") (λF H Q=>∃p j,F=[.ref p]/\(SqL X.K H p j\/SqT X.K H p j)/\∀l,H l=J->Q (.ref l) (upd H l<|.lst j)):=by
 intro y s M H F N Q c r h;obtain⟨p,j,rfl,t,q⟩:=h;obtain⟨u,rfl,G⟩:=gJ r;cases G
 have k:∀(d:U L),Vals j d->j.length<=sizeLine->∀(f:Q5) (g:O),(∀b D,s.heap.get? b=Y D->f.get? b=Y D) ->
   f.get? s.heap.objs.size=Y {cls:=.type "list",dict:=J,data:=.seq d.toArray g,slots:=#[]}->EP X y M Q (.ref s.heap.objs.size) {s with heap:=f}:=λd i v f g x e=>
  ⟨.ref s.heap.objs.size,_,c.laid (t':=s.toks) x (La _)<|show ObjOk X.prog X.w _ f _ (.lst j) from⟨v,d,g,i,e⟩,rfl,q _<|c.hok.fresh<|La _⟩
 rcases t with t|t
 .obtain ⟨d,i,A,v⟩:=c.list t;have m:=i.length;obtain⟨o,ho,z,n,hd⟩:=A.isList;exact call_list_seq p (.inl rfl) ho z hd (λf g x e=>k d i v f g x e)<|by simp only[Lq]<;>lia
 .obtain ⟨d,i,A,v⟩:=c.tuple t;have m:=i.length;obtain⟨o,ho,z,n,hd⟩:=A;exact call_list_seq p (.inr rfl) ho z hd (λf g x e=>k d i v f g x e)<|by simp only[Lq]<;>lia
theorem iZ:dR X (.type "tuple") (λx H Q=>∃p g,x=[.ref p]/\((SqL X.K H p g/\∀l,H l=J->Q (.ref l) (upd H l<|.tup g))\/(SqT X.K H p g/\Q (.ref p) H))):=by
 intro d s y H x F Q c r h;obtain⟨p,g,rfl,h⟩:=h;obtain⟨u,rfl,D⟩:=gJ r;cases D;rcases h with⟨j,q⟩|⟨j,q⟩
 .obtain ⟨f,m,k,v⟩:=c.list j;have t:=m.length;refine call_tuple_list k.isList (λi A=>?_) (by simp only[Lq]<;>lia);have n:Inv X d y H {s with heap:=i}:=c.kept (t':=s.toks) A
  have z:Inv X d y (upd H i.objs.size (.tup g)) {s with heap:=i.push {cls:=.type "tuple",data:=.seq f.toArray}}:=
   n.laid (t':=s.toks) (λb o e=>Heap.get?_push_of_some _ e) (La _) (show ObjOk X.prog X.w _ _ _ (.tup g) from⟨v,f,m,IsTup.new _ _⟩)
  exact⟨.ref i.objs.size,_,z,rfl,q _<|n.hok.fresh<|La _⟩
 .obtain ⟨f,m,k,v⟩:=c.tuple j;exact call_tuple_same k ⟨.ref p,H,c,rfl,q⟩
def tyV (K:K3)(T:Q4)(x:V)(H:Hp):Prop:=match x with
|.str _=>T="str"
|.int _=>T="int"
| .ref p=>(T="list"/\∃ d,SqL K H p d)\/(T="tuple"/\∃ o,K.lookup p=Y o/\o.cls=.type "tuple"/\o.dict=J) \/
  (T="dict"/\((∃c,H p=Y (.dK c))\/∃c,H p=Y (.dT c)))\/(T="set"/\∃S n,H p=Y (.set S n))
|_=>Q6
theorem Ef {g:U<|QS×Obj}{w:St}{H:Hp}{s:K2}{T:Q4}{x:V}{v:L}(d:Inv X g w H s)(r:RelV x v)(ty:tyV X.K T x H):
  s.TypeIs v T/\∀a,v=.ref a->∃j,s.heap.get? a=Y j/\j.dict=none:=by
 cases x with
 |str z=>obtain⟨t,rfl⟩:=r;cases(show T="str" from ty);exact⟨NP s z t,λ_ e=>nomatch e⟩
 |int i=>obtain⟨t,rfl⟩:=r;cases(show T="int" from ty);exact⟨typeIs_int s i t,λ_ e=>nomatch e⟩
 | ref p =>
  cases r;rcases ty with⟨rfl,y,m⟩|⟨rfl,o,hk,l,hd⟩|⟨rfl,hk⟩|⟨rfl,S,n,hk⟩
  .obtain ⟨u,_,k,_⟩:=d.list m;refine⟨k.isList.typeIs,λa e=>?_⟩;cases e;obtain⟨o,n,e,c,hd,_⟩:=k;exact⟨o,e,hd⟩
  .refine ⟨⟨o,d.kIn p o hk,l⟩,fun a e=>?_⟩;cases e;exact⟨o,d.kIn _ o hk,hd⟩
  .have z:∃ o,s.heap.get? p=Y o/\o.ExactDict:=by
    rcases hk with⟨h,hk⟩|⟨h,hk⟩
    .obtain ⟨_,_,_,_,o,_,_,e,f,_⟩:=d.hok p _ hk;exact⟨o,e,f⟩
    .obtain ⟨_,_,_,_,o,_,_,e,f,_⟩:=d.hok p _ hk;exact⟨o,e,f⟩
   obtain⟨o,e,f⟩:=z;refine⟨⟨o,e,f.1⟩,λa e2=>?_⟩;cases e2;exact⟨o,e,f.2.1⟩
  .obtain ⟨o,_,_,_,e,f,_⟩:=d.hok p _ hk;refine⟨⟨o,e,f.1⟩,λa e2=>?_⟩;cases e2;exact⟨o,e,f.2.1⟩
 |_=>exact Ml ty
def tBM (K:K3)(T:Q4)(r:V->U V->Hp->VK->Prop)(to:TE)(t:TA):TE:=λd H Q=>to d H λx c=>tyV K T x c/\t d c λf e=>r x f e Q
variable {o e:Q1}{es:U Q1}{to:TE}{t:TA}{name:Str}{apos cpos:Pos}{T id:Q4}{r:V->U V->Hp->VK->Prop}
theorem gX (M:PlainAttrs T)(k:Slot T name id)(l:typeOf (.builtin id)=pure (.type "method_descriptor"))(F:MtR X id r)(ho:PE X o to)(D:PA X (e::es) t)
  (g:M3 o name X.env (Q9 o X.env)=Q9 o X.env:=by rfl)
  (j:((Lu cpos<|K7 (e::es) X.env).all (λx=>!x.1)&&(MJ cpos<|MK [] X.env).all (λx=>x.1.isSome)
  &&decide ((e::es).length+([]:U LN).length+(if([]:U LN).isEmpty then 0 else 1)<30))=true:=by rfl)
  (i:(apos.endLine==cpos.line)=true:=by rfl) (G:K7 (e::es) X.env=(K0,Q9 e X.env)::K7 es X.env:=by rfl) (f:(Lu cpos<|K7 es X.env).any (·.1)=false:=by rfl):
  PE X (.Call (.Attribute o name apos) (e::es) [] cpos) (tBM X.K T r to t):=by
 intro d s m H Q c h;refine wpAny_Call_method_late g j i rfl (thn (ho d s m H _ c h) λv Z ⟨x,u,n,r1,ty,N⟩=>?_);obtain⟨z,A⟩:=Ef n r1 ty;refine⟨T,id,M,k,l,z,A,?_⟩;have p:=D cpos d Z m u _ n N;rw[G] at p ⊢;refine Calls.callWith_builtin (by show(K0 || (Lu cpos<|K7 es X.env).any (·.1))=K0;rw[f]<;>rfl)<|Calls.evalArgs_plain ?_;exact thn p λus s2 ⟨vs,w,y,r2,P⟩=>F d s2 m w x vs v us Q y r1 r2 P
end
def MtM (X:Cx)(id:Q4)(r:V->U V->Hp->VK->Prop):Prop:=
 ∀(a:U<|QS×Obj) (s:K2) (d:St) (H:Hp) (x:V) (c:U V) (v:L) (b:U L) (Q:VK),Inv X a d H s->RelV x v->Vals c b->r x c H Q ->
  QX (K5 X.prog X.w) X.A (call (.builtin id) (v::b)) (EP X a d Q) X.xe s
theorem Vals.one:∀{x:V} {a:U L},Vals [x] a->∃u,a=[u]/\RelV x u
|_,_,.cons r .nil=>⟨_,rfl,r⟩
theorem Vals.eraseIdx:∀{b:U V} {a:U L} (i:O),Vals b a->Vals (b.eraseIdx i) (a.eraseIdx i)
|_,_,_,.nil=>.nil
|_,_,0,.cons _ t=>t
|_,_,i+1,.cons r t=>.cons r<|Vals.eraseIdx i t
theorem Vals.rep {b:U V}{a:U L}(h:Vals b a):∀k:O,Vals (Lo k b).flatten (Lo k a).flatten
|0=>.nil
|k+1=>by rw[M7,M7,Nm,Nm];exact Vals.append h<|Vals.rep h k
theorem jd {a:Type}:∀(l:U a) (i:O),(l.eraseIdx i).length<=l.length
|[],_=>La _
|_::_,0=>Nat.le_succ _
|_::r,i+1=>NH<|jd r i
theorem jl (b:U L):∀(k:O) (a:U L),
 OT (λc d=>c++d) a.toArray (Lo k b.toArray)=(a++(Lo k b).flatten).toArray
|0,a=>by simp
| k+1,a=>by
 have e:a.toArray++b.toArray=(a++b).toArray:=by simp
 have e2:(a++b)++(Lo k b).flatten=a++(Lo (k+1) b).flatten:=by rw[M7,Nm,Lz]
 rw[<- e2,<- jl b k (a++b),<- e,M7,Pt]
section
variable {X:Cx}{pins:U (QS×Obj)}{σ:St}{H:Hp}{s:K2}{l b:QS}{xs ys zs:U V}
theorem Inv.lset {c its':U L}{n:O}{f:Rg L->Rg L}{m:O}(a:Inv X pins σ H s)(d:H l=Y (.lst xs))
  (e:s.heap.get? l=Y {cls:=.type "list",data:=.seq c.toArray n}) (h:f c.toArray=its'.toArray) (j:Vals ys its') (k:ys.length<=sizeLine):
  Inv X pins σ (upd H l<|.lst ys) {s with heap:=s.heap.update l<|Obj.mapSeq f,toks:=m}:=by
 have q:=PySem.IsL.update e f;rw[h] at q;refine a.write (x:=l) (e:=l) (by rw[d];exact trivial) (.inl rfl) (λo u g i=>(Heap.get?_update_other s.heap (Obj.mapSeq f)<|LF g).trans i) ⟨_,q⟩ ?_;exact⟨k,its',_,j,q⟩
theorem Inv.lnew {its:U L}{t':O}(a:Inv X pins σ H s)(c:Vals ys its)(d:ys.length<=sizeLine):
  Inv X pins σ (upd H s.heap.objs.size<|.lst ys) {s with heap:=s.heap.push {cls:=.type "list",data:=.seq its.toArray},toks:=t'}:=
 a.laid (λ_ _ q=>Heap.get?_push_of_some _ q) (La _) ⟨d,its,0,c,Heap.get?_push_size _ rfl⟩
theorem Inv.fresh (a:Inv X pins σ H s):H s.heap.objs.size=none:=a.hok.fresh<|La _
theorem Inv.lstM (a:Inv X pins σ H s)(d:H l=Y (.lst xs)):xs.length<=sizeLine/\∃(c:U L) (n:O),Vals xs c/\xs.length=c.length/\s.heap.get? l=Y {cls:=.type "list",data:=.seq c.toArray n}:=by obtain⟨z,c,n,r,e⟩:=a.hok l _ d;exact⟨z,c,n,r,r.length,e⟩
theorem lF {n:O}(h:n<=sizeLine):Builtin.List.listTooLong n=false:=by unfold Builtin.List.listTooLong;exact Q7<|by lia
end
section
variable {X:Cx}
def j7:V->U V->Hp->VK->Prop:=λx b H Q=>∃l a y,x=.ref l/\b=[y]/\H l=Y (.lst a)/\a.length<sizeLine/\Q .non (upd H l<|.lst<|a++[y])
theorem fV:MtM X "list.append" j7:=by intro d s t H x o v m Q a i g h;obtain⟨l,p,y,rfl,rfl,c,k,q⟩:=h;cases i;obtain⟨u,rfl,f⟩:=g.one;obtain⟨z,b,n,r,j,e⟩:=a.lstM c;refine M0 F.slot_list_append ⟨_,e,rfl⟩ F.entry_list_append (F.args_list_append_2 _ _) (PySem.list_append l b.toArray n u<|by rw[Lq];lia) ⟨e,?_⟩;refine⟨.non,_,a.lset (its':=b++[u]) c e (by simp) (r.append<|.cons f .nil) ?_,rfl,q⟩;rw[K8,Mi];lia
def AN:V->U V->Hp->VK->Prop:=λx d H Q=>∃l b a c,x=.ref l/\d=[.ref b]/\H l=Y (.lst a)/\H b=Y (.lst c)/\a.length+c.length<=sizeLine/\Q .non (upd H l<|.lst<|a++c)
theorem qK:MtM X "list.extend" AN:=by
 intro j s P H x G v D Q a w t h;obtain⟨l,b,M,N,rfl,rfl,i,k,A,q⟩:=h;cases w;obtain⟨u,rfl,p⟩:=t.one;cases p;obtain⟨z,d,n,r,y,e⟩:=a.lstM i;obtain⟨z2,c,o,r2,m,e2⟩:=a.lstM k;have g:d.toArray.size+c.toArray.size<=sizeLine:=by rw[Lq,Lq];lia
 have f:¬(!d.toArray.isEmpty&&Builtin.List.listTooLong (d.toArray.size+c.toArray.size))=true:=by rw[lF g,Bool.and_false];exact LA
 refine M0 F.slot_list_extend ⟨_,e,rfl⟩ F.entry_list_extend (F.args_list_extend_2 _ _)
  (AutoSeq1.list_extend_list_list_0 l d.toArray n b c.toArray o f (by rw[Lq];lia)<|by lia) ⟨e,e2,?_⟩
 refine⟨.non,_,a.lset (its':=d++c) i e (by simp) (r.append r2) ?_,rfl,q⟩;rw[K8];lia
def Ci:V->U V->Hp->VK->Prop:=λx b H Q=>∃l a i k y,x=.ref l/\b=[.int i]/\H l=Y (.lst a)/\-(2 ^ 63)<=i/\i<2 ^ 63/\seqIndex? i a.length=Y k/\a[k]?=Y y/\Q y (upd H l<|.lst<|a.eraseIdx k)
theorem w5:MtM X "list.pop" Ci:=by
 intro f s Z H x P v N Q a G D h;obtain⟨l,M,i,k,y,rfl,rfl,d,g,j,hk,p,q⟩:=h;cases G;obtain⟨u,rfl,A⟩:=D.one;obtain⟨t,rfl⟩:=A;obtain⟨z,b,n,r,m,e⟩:=a.lstM d;obtain⟨w,o,c⟩:=r.get p
 refine M0 F.slot_list_pop ⟨_,e,rfl⟩ F.entry_list_pop (F.args_list_pop_2 _ _)
  (MeetsSeq.list_pop_at l b.toArray n i t k w (fitsIndex_both g j) (by rw[Lq,<- m];exact hk) (by rw[<- Array.getElem?_toList];exact o)<|by rw[Lq];lia) ⟨e,?_⟩
 refine⟨y,_,a.lset (its':=b.eraseIdx k) d e ?_ (r.eraseIdx k) ?_,c,q⟩
 .show b.toArray.eraseIdxIfInBounds k=(b.eraseIdx k).toArray;rw[List.eraseIdxIfInBounds_toArray]
 .have:=jd M k;lia
def DX:R2:=λx y H Q=>∃l b a c,x=.ref l/\y=.ref b/\H l=Y (.lst a)/\H b=Y (.lst c)/\a.length+c.length<=sizeLine/\∀p,H p=J->Q (.ref p) (upd H p<|.lst<|a++c)
theorem op_cat:OpR X (LU .Add) DX:=by
 intro f s F H x y v u Q a m o h;obtain⟨l,b,A,D,rfl,rfl,j,i,t,q⟩:=h;cases m;cases o;obtain⟨z,d,n,r,p,e⟩:=a.lstM j;obtain⟨z2,c,w,r2,k,e2⟩:=a.lstM i;refine PySem.P.add_list e e2 ?_ (by rw[Lq,Lq];lia);have g:d.toArray++c.toArray=(d++c).toArray:=by simp
 rw[g];exact⟨.ref _,_,a.lnew (t':=s.toks) (r.append r2)<|by rw[K8];lia,rfl,q _ a.fresh⟩
def Ih:R2:=λx y H Q=>∃l k a,x=.ref l/\y=.int k/\H l=Y (.lst a)/\-(2 ^ 63)<=k/\k<2 ^ 63/\a.length * k.toNat<=sizeLine /\
 ∀p,H p=J->Q (.ref p) (upd H p<|.lst (Lo k.toNat a).flatten)
theorem AE {c:Type}(a:U c)(k:O):(Lo k a).flatten.length=k * a.length:=by
 induction k with
 |zero=>simp
 |succ k b=>rw[M7,Nm,K8,b,Nat.succ_mul,Ow]
theorem Ej:OpR X (LU .Mult) Ih:=by
 intro A s σ H x y v u Q b Z ry h;obtain⟨l,k,xs,rfl,rfl,N,G,M,w,q⟩:=h;cases Z;obtain⟨t,rfl⟩:=ry;obtain⟨z,c,n,r,P,e⟩:=b.lstM N;have i:c.toArray.size * k.toNat<=sizeLine:=by rw[Lq,<- P];exact w
 have f:¬c.toArray.size * k.toNat>(2 ^ 63-1) / 8:=by
  have:(sizeLine:O)<=(2 ^ 63-1) / 8:=by decide
  lia
 have g:¬(!Builtin.List.listFitsIndex k)=true:=by rw[fitsIndex_both G M];exact LA
 have d:¬Builtin.List.listTooLong (c.toArray.size * k.toNat)=true:=by rw[lF i];exact LA
 have j:OT (λo p=>o++p) #[] (Lo (if c.toArray.isEmpty=K1 then 0 else k.toNat) c.toArray)=(Lo k.toNat c).flatten.toArray:=by
  have D:∀m:O,OT (λo p=>o++p) #[] (Lo m c.toArray)=(Lo m c).flatten.toArray:=λm=>by have:=jl c m [];rw[LX] at this;exact this
  rw[D];cases c with
  |nil=>simp
  |cons a r'=>rw[Q0<|by simp]
 refine wpAny_binaryOp_repeat_ref (T:="list") (U:="int") (by decide) ⟨_,e,rfl⟩ (λs'=>typeIs_int s' k t) noFill_list_mul F.fills_int_mul F.slot_int_rmul repeat_list F.slot_int_index.lookup
  (M0 F.slot_int_rmul (typeIs_int s k t) F.entry_int_rmul (F.args_int_rmul_2 _ _) (int___rmul___int_list k t l c.toArray n)
   ⟨e,rfl,⟨_,e,rfl⟩,M0 F.slot_list_mul ⟨_,e,rfl⟩ F.entry_list_mul (F.args_list_mul_2 _ _) (AutoListH.list___mul___list_int_3 l c.toArray n k t g f d) ⟨e,?_⟩⟩)
 rw[j];exact⟨.ref _,_,b.lnew (t':=s.toks) (r.rep k.toNat)<|by rw[AE,PY];exact w,rfl,q _ b.fresh⟩
end
end L2
namespace Att
open PySem PySem.W PySem.Calls PyProof.Rows
theorem gp {P:LC}{h:Q5}:∀(c:U I) (d:U L),WellAll P h d (c.map WData.int)->RU d c:=by
 intro c;induction c with
 |nil=>intro d w;rw[Ma] at w;cases w;exact .nil
 | cons n c e =>
  intro d w;rw[Ln] at w;cases w with
  |cons a b=>cases a;exact .cons _ _<|e _ b
theorem rJ {l:OpenLaw}{n:O}(v:l.most=Y n){P:LC}{h:Q5}{args:U WData}{e:U L}
  (c:l.row.toRowW.claim.pre args=K1) (m:WellAll P h e args):
  ∃a p b,e=[Value.ref a]/\args=[WData.list<|b.map WData.int]/\h.get? a=Y {cls:=.type "list",data:=.seq p.toArray}/\RU p b/\b.length<=n:=by
 have k:WShape.hasAll [] args [.list .int]=true:=(pre_splitW c).1;have o:l.pre.holds [] {args:=args}=true:=(pre_splitW c).2;obtain⟨d,r,rfl,s,t⟩:=hasAllW_cons k;obtain rfl:=hasAllW_nil t;obtain⟨z,rfl,u⟩:=hasW_list s;obtain⟨b,rfl⟩:=items_int u
 have g:b.length<=n:=by
  unfold OpenLaw.pre at o;have i:(WTm.not (.lt (.lit (.int (n:I))) (.len (.arg 0)))).holds [] {args:=[.list<|b.map .int]}=true:=by have i:=(holds_andW o).1;rw[v] at i;exact i
  have j:=condW_of i<|w_not<|w_lt w_lit<|w_len_list<|w_arg rfl;rw[K9] at j;refine PF λq=>?_;have w:(n:I)<((b.length:O):I):=by lia
  first
   |(rw[QV w] at j;exact QW j<|by decide)
   |(simp at j;lia)
 cases m with
 |cons x y=>
  cases y;cases x with
  |list ho f=>exact⟨_,_,b,rfl,rfl,ho,gp b _ f,g⟩
theorem rD (l:OpenLaw)(args:U WData):l.row.toRowW.claim.post args (.bool K1) args=true:=
 postW_of (r:=l.row.toRowW) (X:=(K1==K1))
  (show WShape.has [] (.bool K1) .bool=K1 by first|rfl|decide|simp[WShape.has,WShape.arms,WShape.armsAll])
  (show(WTm.eq .res<|.lit<|.bool K1).value [] {args:=args,res:=Y<|.bool K1,after:=args}=Y (.bool<|K1==K1) from w_eq_bool (w_res rfl) w_lit) rfl
theorem attach_call {l:OpenLaw}{n:O}{q:QZ}{e:U Str}{N:(Str->B L)->Q5->Prop}{P:K6->Q5->Prop}{d:DefRec}
  (hn:l.most=Y n) (A:d.params.defaults=[])
  (call:∀ (w:K6) (g c:K2) (v H:Str->B L) (k:QS) (o:Obj) (M u h:L) (a:QS) (j:U L) (x:U I),
   Ground q e [] N w g v H c.heap->P w c.heap ->
   c.heap.get? k=Y o->o.data=.func (docDef d.name d.params d.body d.scope M u h)->c.heap.CodeRec u d.name->v d.name=Y (.ref k) ->
   c.heap.get? a=Y {cls:=.type "list",data:=.seq j.toArray}->RU j x->x.length<=n->c.gens=#[] ->
   MM (K5 l.prog w) MW (.call (.ref k) ⟨[.ref a],[]⟩) (λr y=>r=.ok (.ret<|.bool K1)/\OldK c.heap y.heap/\y.os=c.os/\MO y.gens) c):
  WalkO q e N P l.row.toRowW d [] (λf j=>OS f j):=by
 intro w g c v H G b k o M u h dV kV ho hd z Z D hg Q vals as t hlay hrd F hlo;obtain rfl:dV=.none:=Dflts.none Z A;obtain rfl:kV=.none:=Dflts.noKw Z;obtain⟨a,j,x,rfl,rfl,p,i,m⟩:=rJ hn t F;refine enter_call<|RL (call w g c v H k o M u h a j x G b ho (fd_plain hd) z D p i m hg) λr y hq=>?_;obtain⟨rfl,h2,h3,h4⟩:=hq;exact⟨.inl ⟨.bool K1,.bool K1,[],rfl,λ_=>rfl,.bool K1,rD l _,λ_=>⟨QP,λ_ hm=>(nomatch hm)⟩⟩,h2,h3,h4⟩
end Att
namespace L2
open PySem PySem.Spec PyProof.Rows
theorem jC:∀{b:U L} {a:U I},RU b a->Vals (a.map V.int) b
|_,_,.nil=>.nil
|_,_,.cons n t h=>.cons ⟨t,rfl⟩<|jC h
def wM (H:Hp):Prop:=∀b,H b=J\/∃o a,H b=Y (.frz o<|.lst a)
theorem xh {P:QZ}{w:K6}{K:K3}{Z mb:Str->B L}{CX:CXT}{k:O}{fa a:QS}{fd:LZ}{x:Str}{sp:Sp}{c:K2}{t:U L}{ns:U I}
  (KX:K.In c.heap) (G:c.heap.Ns Ll Z) (g:c.heap.Ns builtinsNs mb) (hbb:∀x:Str,x≠"__name__"->mb x=Mx x) (D:c.heap.NoLimit) (hg:c.gens=#[])
  (ha:c.heap.get? a=Y {cls:=.type "list",data:=.seq t.toArray}) (hi:RU t ns) (hl:ns.length<=sizeLine) (hr:Room k MW)
  (F:∀i:Q5,K.In i->i.Ns Ll Z->dJ P w K Z i CX k fa fd [x] sp) (p:∀(s:K2) (u:L),MX s fd ⟨[u],[]⟩ [(x,u)])
  (hsp:∀H:Hp,wM H->SqL K H a (ns.map V.int)->sp [.ref a] H (λv _=>v=.bl K1) λ_ _ _=>Q6)
  (hCX:∀H e j,CX [] H c (λ_ _ _=>Q6) e j->Q6):
  MM (K5 P w) MW (.call (.ref fa) ⟨[.ref a],[]⟩) (λr j=>r=.ok (.ret<|.bool K1)/\OldK c.heap j.heap/\j.os=c.os/\MO j.gens) c:=by
 have rv:=jC hi;have Q:=hi.length
 -- from an abstract heap in which nothing but the script may be tracked
 have core:∀ H:Hp,wM H->SqL K H a (ns.map V.int)->HOk P w H c.heap->(∀ b,H b≠J->b=a)->(H a≠J->K.lookup a=J) ->
   MM (K5 P w) MW (.call (.ref fa) ⟨[.ref a],[]⟩) (λr j=>r=.ok (.ret<|.bool K1)/\OldK c.heap j.heap/\j.os=c.os/\MO j.gens) c:=by
  intro H hO hS M hA hK;have f:∀{b:QS} {o:Obj},c.heap.get? b=Y o->H b=J->(ki c.heap H).get? b=Y o:=λe n=>wC e n
  have noA:∀{b:QS} {o:Obj} {y:Rg Rh} {ep:O},c.heap.get? b=Y o->o.data=.dict y ep->H b=none:=λ{b o y ep} e d=>by
   cases q:H b with
   |none=>rfl
   |some u=>have e':b=a:=hA b (by rw[q];simp);subst e';rw[ha] at e;cases e;have d':Data.seq t.toArray _=Data.dict y ep:=d;cases d'
  have l:∀{b:QS} {m:Str->B L},c.heap.Ns b m->(ki c.heap H).Ns b m:=λ{b m} ⟨o,y,ep,e,d,r⟩=>⟨o,y,ep,f e<|noA e d,d,r⟩
  have A:K.In (ki c.heap H):=λb o e=>f (KX b o e) (by
   cases q:H b with
   |none=>rfl
   |some u=>
    have e':b=a:=hA b (by rw[q];simp);subst e';rw[hK<|by rw[q];simp] at e;cases e)
  have hM:Mod K Z (ki c.heap H):=⟨A,l G,⟨mb,l g,hbb⟩,let ⟨mc,h1,h2⟩:=D;⟨mc,l h1,h2⟩⟩;have e0:xV P w K Z (ki c.heap H) MW [] c H:=⟨rfl,hM,λb o e=>yJ e,Nat.le_of_eq<|qi _ _,trivial,λb g=>QW (show b∈([]:U QS) from g)<|by simp,M,.of_eq hg⟩;refine RL ((F _ A<|l G).run MW [] c H ⟨[.ref a],[]⟩ [.ref a] [.ref a] _ _ hr e0 (p c<|.ref a) (.cons rfl .nil)<|hsp H hO hS) λr j h=>?_;cases r with
  |error e=>exact(hCX H e j h).elim
  | ok fl =>
   cases fl with
   |next=>exact Ml h
   |brk=>exact Ml h
   |cont=>exact Ml h
   | ret u =>
    obtain⟨v,H',os,bare,un,N,r',q⟩:=h;have q':v=.bl true:=q;subst q';obtain rfl:u=Value.bool true:=r';refine⟨rfl,OldK.of_keep λb o e=>?_,os,bare⟩;cases q:H b with
    |none=>exact un.keep b o e q (by intro z;exact QW (show b∈([]:U QS) from z)<|by simp)<|by simp
    | some u =>
     rcases hO b with z|⟨ob,xs,z⟩
     .rw[q] at z;cases z
     .have z2:=un.frzs b ob _ z;obtain⟨e1,_⟩:=M b _ z;obtain⟨e2,_⟩:=N b _ z2;rw[e] at e1;cases e1;exact e2
 cases hk:K.lookup a with
 |some o=>
  -- the script is one of the module's own objects
  have e:=KX a o hk;rw[ha] at e;cases e;refine core (λ_=>J) (λ_=>.inl rfl) (.inr ⟨_,t.toArray,_,hk,rfl,rfl,rfl,by rw[Lq,Q];exact hl,by simpa using rv⟩) (λb u z=>by have z':(none:B HO)=Y u:=z;cases z') (λb z=>QW rfl z) λz=>QW rfl z
 | none =>
  refine core (λb=>if b=a then Y (.frz {cls:=.type "list",data:=.seq t.toArray} (.lst<|ns.map V.int)) else J) (λb=>?_) (.inl<|.inr ⟨{cls:=.type "list",data:=.seq t.toArray},QY rfl⟩) (λb u z=>?_) (λb z=>?_) λ_=>hk
  .by_cases g:b=a
   .exact .inr ⟨_,_,QY g⟩
   .exact .inl (Q0 g)
  .by_cases g:b=a
   .have z':=(QY g).symm.trans z;cases z';subst g;exact⟨ha,by rw[K9];exact hl,t,_,rv,ha⟩
   .have z':=(Q0 g).symm.trans z;cases z'
  .by_cases g:b=a
   .exact g
   .exact QW (Q0 g) z
theorem walk_of {l:Pd}{n k:O}{q:QZ}{p:U Str}{XP:(Str->B L)->Q5->Prop}{YP:K6->Q5->Prop}{d:DefRec}{K:LC->K3}{CX:K6->CXT}{sp:K6->Sp}{x:Str}
  (hn:l.most=Y n) (Q:n<=sizeLine) (N:d.params.defaults=[]) (hr:Room k MW)
  (hY:∀(w:K6) (h:Q5),YP w h->(K w.params).In h)
  (F:∀ (w:K6) (r:Str->B L) (z:QS) (h:Q5),(K w.params).In h->h.Ns Ll r->r d.name=Y (.ref z) ->
   ∃D:LZ,(∀(s:K2) (u:L),MX s D ⟨[u],[]⟩ [(x,u)]) /\
    ∀i:Q5,(K w.params).In i->i.Ns Ll r->dJ l.prog w (K w.params) r i (CX w) k z D [x] (sp w))
  (Z:∀(w:K6) (H:Hp) (a:QS) (A:U I),A.length<=n->wM H->SqL (K w.params) H a (A.map V.int)->sp w [.ref a] H (λv _=>v=.bl K1) λ_ _ _=>Q6)
  (M:∀(w:K6) (H:Hp) (s:K2) (e:L) (s':K2),CX w [] H s (λ_ _ _=>Q6) e s'->Q6):
  Qa q p XP YP l.row.toRowW d [] (λf vs=>OS f vs):=by
 refine Att.attach_call hn N λw s₀ y r mb z o pm cd doc a vs A G c ho hd hcd P t m j hg=>?_;have KX:=hY w _ c;obtain⟨D,hb,hF⟩:=F w r z _ KX G.T.g P;exact xh KX G.T.g G.T.b G.T.builtins G.T.nolimit hg t m (Lf j Q) hr hF hb (λH hO hS=>Z w H a A j hO hS) λH e s'=>M w H y e s'
noncomputable def defArgs (s:Rf):Arguments:=match s with
|.FunctionDef _ a _ _ _ _ _ _ _ _=>a
|_=>{posonlyargs:=[],args:=[],vararg:=J,kwonlyargs:=[],kw_defaults:=[],kwarg:=J,defaults:=[]}
noncomputable def defBody (s:Rf):U Rf:=match s with
|.FunctionDef _ _ b _ _ _ _ _ _ _=>b
|_=>[]
noncomputable def defScope (s:Rf):Rj:=match s with
|.FunctionDef _ _ _ _ _ _ a _ _ _=>a
|_=>{kind:=.function,names:=[],isGenerator:=K0,isCoroutine:=K0}
abbrev CX0:CXT:=λ_ _ _ _ _ _=>Q6
abbrev E0:XK:=λ_ _ _=>Q6
theorem ua {X:Cx}:n9 CX0 X E0:=λ_ _ _ _ _ _ _ h=>h.elim
structure Fun (K:K3)(x qual:Str)(st:Rf)(f:QS)(fd:LZ):Prop where
 ex:∃(oc:L) (od:B QS) (kV doc pm:L) (an:B QS) (cdv ct:L) (osl:Rg (B L)),
  fd=MP x qual (defArgs st) (defBody st) (defScope st) .none kV doc pm an cdv ct/\K.lookup f=Y ⟨oc,od,.func fd,osl⟩/\Ol K cdv qual=K1
 kp:Nr K (.ref f)=K1
section
variable {P:QZ}{w:K6}{K:K3}{mg:Str->B L}{base:Q5}
theorem Fun.ok {x b:Str}{g:Rf}{f:QS}{l:LZ}{N ps:U Str}{k:O}{sp:Sp}(F:Fun K x b g f l)(S:aj N ps<|defScope g)(len:∀e H Q E,sp e H Q E->e.length=ps.length)
  (d:∀ (c:L) (A:Lj) (a:U Env) (s:K2) (H:Hp) (e:U V) (Q:VK) (E:XK),Room k (A.deeper (Mj b (defScope g) s.heap.objs.size f c))->sp e H Q E ->
   ∃t,PSs (jT CX0 P w K mg base N b (defScope g) f c A a s H E).nox (defBody g) t/\t {nx:=λ_ m=>Q .non m,rt:=Q} (start N e) H):dJ P w K mg base CX0 (k+1) f l ps sp:=by
 obtain⟨u,v,kV,n,y,an,c,r,p,rfl,lk,i⟩:=F.ex;refine Gh lk i S len λA a s H e Q E o j=>?_;obtain⟨t,h,q⟩:=d c A a s H e Q E o j;exact⟨t,h.nox,q⟩
theorem Fun.binds {x a:Str}{d:Rf}{f:QS}{j:LZ}{ps:U Str}(F:Fun K x a d f j)
  (h:∀(kV c g:L) (an:B QS) (b e:L) (i:U L),i.length=ps.length->bindArgs (MP x a (defArgs d) (defBody d) (defScope d) .none kV c g an b e) ⟨i,[]⟩=pure (ps.zip i)):Binds K j ps []:=by
 obtain⟨m,n,kV,c,g,an,b,e,l,rfl,lk,k⟩:=F.ex;exact .all<|h kV c g an b e
theorem sR {x a:Str}{st:Rf}{f:QS}{i:L}{j an:B QS}{e:Rg<|B L}{kV d h b g:L}(l:K.lookup f=Y ⟨i,j,.func<|MP x a (defArgs st) (defBody st) (defScope st) .none kV d h an b g,e⟩)
  (c:Ol K b a=K1) (k:Nr K (.ref f)=K1):Fun K x a st f (MP x a (defArgs st) (defBody st) (defScope st) .none kV d h an b g):=⟨⟨i,j,kV,d,h,an,b,g,e,rfl,l,c⟩,k⟩
end
theorem jw {A:Lj}{k:O}(a:Room k A):A.units+1<Rk:=O3 (Nat.add_le_add_left (by decide:1<=64) _) a.units
section
variable {X:Cx}
theorem pv (i:O){x:Str}{b:Pos}(c:X.N[i]?=Y x:=by rfl)(d:Vis X.env.scope x:=by first|exact Lh rfl|exact Ld (Lh rfl)|exact Ld<|Ld rfl)(hd:(x==("__debug__":Str))=false:=by decide)
  (a:(x==("__classdict__":Str))=false:=by decide):PE X (.Name x b) (bJ i):=bM c d hd a
end
theorem km {A a:Prop}(h:a):if K0=K1 then A else a:=by rw[Q0 LA];exact h
theorem Fy {A a:Prop}(h:A):if K1=K1 then A else a:=by rw[QY rfl];exact h
def Same (H a:Hp):Prop:=∀b o,H b=Y o->a b=Y o
theorem Same.refl (H:Hp):Same H H:=λ_ _ h=>h
section
variable {κ:Type}[Rx κ]
noncomputable def cZ (a:U<|κ×V)(k:κ):B V:=(a.find? λb=>decide (b.1=k)).map (·.2)
noncomputable def cj (a:U<|κ×V)(k:κ)(v:V):U (κ×V):=
 if(a.any λb=>decide (b.1=k))=K1 then a.map (λb=>if b.1=k then(b.1,v) else b) else a++[(k,v)]
theorem il {p:κ×V}{r:U<|κ×V}{k:κ}(e:p.1=k):cZ (p::r) k=Y p.2:=by simp[cZ,Nk,e]
theorem iz {p:κ×V}{r:U<|κ×V}{k:κ}(e:¬p.1=k):cZ (p::r) k=cZ r k:=by simp[cZ,Nk,e]
theorem mq (k:κ):∀a:U<|κ×V,(a.any λb=>decide (b.1=k))=(cZ a k).isSome
|[]=>rfl
|p::r=>by
 rw[LS];by_cases e:p.1=k
 .simp only[il e,QV e,OQ,QG]
 .rw[iz e,Q7 e,P9];exact mq k r
theorem cR (a:U<|κ×V)(k:κ)(v:V):(cj a k v).length<=a.length+1:=by
 unfold cj;split
 .rw[K9];lia
 .rw[K8,Lk,MT];lia
theorem RelO.isSome_eq {o:B V}{u:B L}(r:RelO o u):o.isSome=u.isSome:=by
 cases o with
 |none=>cases u with
  |none=>rfl
  |some _=>exact(show Q6 from r).elim
 |some _=>cases u with
  |none=>exact(show Q6 from r).elim
  |some _=>rfl
theorem RelO.getD {o:B V}{u:B L}{d:V}{a:L}(r:RelO o u)(rd:RelV d a):RelV (o.getD d) (u.getD a):=by
 cases o with
 |none=>cases u with
  |none=>exact rd
  |some _=>exact(show Q6 from r).elim
 |some _=>cases u with
  |none=>exact(show Q6 from r).elim
  |some _=>exact r
theorem KV.val {a:U<|κ×V}{g:U<|κ×L}(r:KV a g)(k:κ):RelO (cZ a k) (RA g k):=by
 unfold KV at r;induction r with
 |nil=>exact LW
 | @cons p q ps d h t j =>
  obtain⟨f,i⟩:=h;by_cases e:p.1=k
  .have c:q.1=k:=f.symm.trans e;have b:RA (q::d) k=Y q.2:=by simp[RA,Nk,c]
   rw[il e,b];exact i
  .have c:¬ q.1=k:=fun z=>e (f.trans z);have b:RA (q::d) k=RA d k:=by simp[RA,Nk,c]
   rw[iz e,b];exact j
theorem KV.any {a:U<|κ×V}{c:U<|κ×L}(r:KV a c)(k:κ):(a.any λb=>decide (b.1=k))=c.any λb=>decide (b.1=k):=by
 unfold KV at r;induction r with
 |nil=>rfl
 |cons h t d=>rw[LS,LS,d,h.1]
theorem KV.repl {b:U<|κ×V}{d:U<|κ×L}(r:KV b d)(k:κ){y:V}{u:L}(i:RelV y u):
  KV (b.map λa=>if a.1=k then(a.1,y) else a) (d.map λa=>if a.1=k then(a.1,u) else a):=by
 unfold KV at r ⊢;induction r with
 |nil=>exact .nil
 | @cons p q ps j h t g=>
  rw[Ln,Ln];refine .cons ?_ g;obtain⟨c,f⟩:=h;by_cases e:p.1=k
  .rw[QY e,QY<|c.symm.trans e];exact⟨c,i⟩
  .rw[Q0 e,Q0 λz=>e<|c.trans z];exact⟨c,f⟩
theorem KV.put {a:U<|κ×V}{b:U<|κ×L}(r:KV a b)(k:κ){y:V}{u:L}(c:RelV y u):KV (cj a k y) (stored b k u):=by
 unfold cj stored;rw[r.any k];by_cases e:(b.any λd=>decide (d.1=k))=K1
 .rw[QY e,QY e];exact r.repl k c
 .rw[Q0 e,Q0 e];exact Paired.snoc r ⟨rfl,c⟩
theorem KV.length {a:U<|κ×V}{b:U<|κ×L}(r:KV a b):a.length=b.length:=Paired.length r
end
theorem hW {P:QZ}{w:K6}{k:Key}{u:L}(r:RelV (kV k) u):(aL P w).is k u=true:=by
 cases k with
 |inl i=>obtain⟨t,e⟩:=(show∃t,u=Value.int i t from r);subst e;exact lj P w i t
 |inr x=>obtain⟨t,e⟩:=(show∃t,u=Value.str x t from r);subst e;exact lT P w x t
theorem jq {P:QZ}{w:K6}:∀{a:U Key} {b:U L},Vals (a.map kV) b->ItemsAre (aL P w) a b
|[],_,r=>by rw[Ma] at r;cases r;exact .nil
|k::a,_,r=>by
 rw[Ln] at r;cases r with
 |cons h t=>exact .cons (hW h)<|jq t
abbrev KT (H:Hp):U (U Key×V)->U (U Key×QS×L)->Prop:=Paired λp q=>p.1=q.1/\H q.2.1=Y (.tup<|p.1.map kV)/\RelV p.2 q.2.2
theorem KT.val {H:Hp}{a:U<|U Key×V}{g:U<|U Key×QS×L}(r:KT H a g)(k:U Key):RelO (cZ a k) ((Rn g k).map (·.2)):=by
 induction r with
 |nil=>exact LW
 | @cons p q ps d h t j =>
  obtain⟨f,_,i⟩:=h;by_cases e:p.1=k
  .have c:q.1=k:=f.symm.trans e;have b:Rn (q::d) k=Y q.2:=by simp[Rn,Nk,c]
   rw[il e,b];exact i
  .have c:¬ q.1=k:=fun z=>e (f.trans z);have b:Rn (q::d) k=Rn d k:=by simp[Rn,Nk,c]
   rw[iz e,b];exact j
theorem KT.repl {H:Hp}{a:U<|U Key×V}{f:U<|U Key×QS×L}(r:KT H a f)(k:U Key){y:V}{u:L}(j:RelV y u):
  KT H (a.map λc=>if c.1=k then(c.1,y) else c) (f.map<|putAt k u):=by
 induction r with
 |nil=>exact .nil
 | @cons p q ps l h t i=>
  rw[Ln,Ln];refine .cons ?_ i;obtain⟨b,d,g⟩:=h;unfold putAt;by_cases e:p.1=k
  .rw[QY e,QY<|b.symm.trans e];exact⟨b,d,j⟩
  .rw[Q0 e,Q0 λz=>e<|b.trans z];exact⟨b,d,g⟩
theorem KT.put {H:Hp}{a:U<|U Key×V}{c:U<|U Key×QS×L}(r:KT H a c)(k:U Key){b:QS}{y:V}{u:L}(f:H b=Y (.tup<|k.map kV))(d:RelV y u):
  KT H (cj a k y) (storedH c k b u):=by
 have e:(a.any λg=>decide (g.1=k))=(Rn c k).isSome:=by rw[mq,(r.val k).isSome_eq,PQ]
 unfold cj storedH;rw[e];by_cases q:(Rn c k).isSome=K1
 .rw[QY q,QY q];exact r.repl k d
 .rw[Q0 q,Q0 q];exact Paired.snoc r ⟨rfl,f,d⟩
theorem KT.keeps {H c:Hp}{a:U<|U Key×V}{d:U<|U Key×QS×L}(r:KT H a d)(f:∀b e,H b=Y (.tup e)->c b=Y (.tup e)):KT c a d:=
 Paired.mapP r λ_ _ z=>⟨z.1,f _ _ z.2.1,z.2.2⟩
section
variable {P:QZ}{w:K6}{H:Hp}{h:Q5}{a:QS}
theorem A9 {u:HO}(ok:HOk P w H h)(e:Rd H a u):ObjOk P w H h a u:=e.ok ok
theorem gV {b:U<|Key×V}(ok:HOk P w H h)(e:Rd H a<|.dK b):b.length<=sizeLine/\(a==L0)=K0/\∃c,KV b c/\h.DictOf (aL P w) a c:=
 show ObjOk P w H h a (.dK b) from A9 ok e
theorem oq {b:U<|Key×V}(ok:HOk P w H h)(e:H a=Y (.dK b)):b.length<=sizeLine/\(a==L0)=K0/\∃c,KV b c/\h.DictOf (aL P w) a c:=gV ok<|.inl e
theorem ir {c:U Key}(ok:HOk P w H h)(e:H a=Y (.tup<|c.map kV)):(Ng<|aL P w).is h c a:=by obtain⟨_,b,r,o,d,f,n,g⟩:=(show ObjOk P w H h a (.tup<|c.map kV) from ok a _ e);exact⟨o,b.toArray,n,d,f,g,by simpa using jq r⟩
theorem jH {b:U<|U Key×V}(ok:HOk P w H h)(e:Rd H a<|.dT b):b.length<=sizeLine/\(a==L0)=K0 /\
  ∃c,KT H b c/\h.DictOfH (Ng<|aL P w) a c:=by
 obtain⟨z,y,c,r,o,f,ep,g,i,j,k,n⟩:=(show ObjOk P w H h a (.dT b) from A9 ok e);refine⟨z,y,c,r,o,f,ep,g,i,j,k,λx hx=>?_,n⟩
 have all:∀{l:U (U Key×V)} {m:U (U Key×QS×L)},KT H l m->∀x∈m,(Ng (aL P w)).is h x.1 x.2.1:=by
  intro l m q;induction q with
  |nil=>intro x hx;exact nomatch hx
  | @cons p q ps u d t s =>
   intro x hx;rcases Lm.mp hx with e|hx
   .subst e;exact ir ok<|by rw[<- d.1];exact d.2.1
   .exact s x hx
 exact all r x hx
theorem Ia {b:U<|U Key×V}(ok:HOk P w H h)(e:H a=Y (.dT b)):b.length<=sizeLine/\(a==L0)=K0 /\
  ∃c,KT H b c/\h.DictOfH (Ng<|aL P w) a c:=jH ok<|.inl e
end
def DGet (H:Hp)(a:QS)(y:V)(r:B V):Prop:=
 (∃c k,Rd H a (.dK c)/\y=kV k/\r=cZ c k)\/∃c k b,Rd H a (.dT c)/\y=.ref b/\H b=Y (.tup<|k.map kV)/\r=cZ c k
def HJ (H:Hp)(a:QS)(y v:V)(d:Hp):Prop:=
 (∃c k,H a=Y (.dK c)/\y=kV k/\c.length<sizeLine/\d=upd H a (.dK<|cj c k v)) \/
 ∃c k b,H a=Y (.dT c)/\y=.ref b/\H b=Y (.tup<|k.map kV)/\c.length<sizeLine/\d=upd H a (.dT<|cj c k v)
theorem DGet.k {H:Hp}{a:QS}{b:U<|Key×V}{k:Key}(e:H a=Y (.dK b)):DGet H a (kV k) (cZ b k):=.inl ⟨b,k,.inl e,rfl,rfl⟩
section
variable {X:Cx}{pins:U (QS×Obj)}{σ:St}{H:Hp}{s:K2}{a:QS}{y v:V}{u r:L}{o:B V}{A:Lj}{E:L->K2->Prop}
theorem Inv.big (b:Inv X pins σ H s):L0<s.heap.objs.size:=by have h:Ll<s.heap.objs.size:=(b.mod.glob.keeps b.bk).lt;exact NL (by decide) h
theorem qe {Q:L->K2->Prop}(M:A.units+1<Rk)(c:Inv X pins σ H s)(g:DGet H a y<|Y v)(D:RelV y u)(h:∀i F,Inv X pins σ H F->RelV v i->Q i F):
  QX (K5 X.prog X.w) A (Mt (.ref a) u) Q E s:=by
 rcases g with⟨x,k,e,m,l⟩|⟨x,k,b,e,m,G,l⟩
 .subst m;obtain⟨z,hd,N,d,j⟩:=gV c.hok e;obtain⟨i,t,f⟩:=RelO.some_of (v:=v) (o:=RA N k) (by rw[l];exact d.val k);exact wpAny_getItem_of (hW D) j.mapOf t<|h i _ (c.tok _) f
 .subst m;cases(show u=Value.ref b from D);obtain⟨z,hd,P,d,j⟩:=jH c.hok e;obtain⟨i,t,f⟩:=RelO.some_of (v:=v) (o:=(Rn P k).map (·.2)) (by rw[l];exact d.val k);obtain⟨p,hp,n⟩:=QA.mp t;refine wpAny_getItem_heap (NU M) (ir c.hok G) j hp ?_;rw[n];exact h i _ (c.tok _) f
theorem KP {Q:L->K2->Prop}(t:A.units+1<Rk)(c:Inv X pins σ H s)(g:DGet H a y o)(m:RelV y u)(h:∀n,Inv X pins σ H n->Q (.bool o.isSome) n):
  QX (K5 X.prog X.w) A (LV .In u<|.ref a) Q E s:=by
 rcases g with⟨j,k,e,i,l⟩|⟨j,k,b,e,i,p,l⟩
 .subst i;obtain⟨z,hd,x,d,f⟩:=gV c.hok e;refine wpAny_in_of (hW m) hd f.mapOf ?_;rw[<- (d.val k).isSome_eq,<- l];exact h _<|c.tok _
 .subst i;cases(show u=Value.ref b from m);obtain⟨z,hd,D,d,f⟩:=jH c.hok e;refine wpAny_in_heap (NU t) (ir c.hok p) hd f ?_;have q:=(d.val k).isSome_eq;rw[PQ] at q;rw[<- q,<- l];exact h _<|c.tok _
theorem gB {d:Q5}{l:O}{g:HO}(c:Inv X pins σ H s)(k:Mut<|H a)(j:Heap.SameBut a s.heap d)(i:∃q,d.get? a=Y q)(f:ObjOk X.prog X.w (upd H a g) d a g):
  Inv X pins σ (upd H a g) {s with heap:=d,toks:=l}:=
 c.write (x:=a) (e:=a) k (.inl rfl) (λb q h z=>(j.2 b h).trans z) i f
theorem kf {P:QZ}{w:K6}{f:Hp}{e:Q5}{b:U<|Key×V}{d:U<|Key×L}(z:b.length<=sizeLine)(hd:(a==L0)=K0)(c:KV b d)(g:e.DictOf (aL P w) a d):
  ObjOk P w f e a (.dK b):=⟨z,hd,d,c,g⟩
theorem qa {G:Hp}{Q:Unit->K2->Prop}(hu:A.units+1<Rk)(d:Inv X pins σ H s)(g:HJ H a y v G)(ry:RelV y u)(Z:RelV v r)(h:∀s',Inv X pins σ G s'->Q () s'):
  QX (K5 X.prog X.w) A (setItem (.ref a) u r) Q E s:=by
 rcases g with⟨f,k,e,t,l,p⟩|⟨f,k,b,e,t,M,l,p⟩
 .subst t p;obtain⟨z,hd,vs,i,n⟩:=oq d.hok e;have F:vs.length<=sizeLine:=by rw[<- i.length];exact z
  have x:(cj f k v).length<=sizeLine:=by have:=cR f k v;lia
  refine wpAny_setItem_pairs (hsz:=F) (hW ry) n λP j D=>h _ ?_;have he:∃q,P.get? a=Y q:=let ⟨q,_,_,m,_⟩:=j;⟨q,m⟩;exact gB d (by rw[e];exact LW) D he<|kf x hd (i.put k Z) j
 .subst t p;cases(show u=Value.ref b from ry);obtain⟨z,hd,xs,i,n⟩:=Ia d.hok e;have F:xs.length<=sizeLine:=by rw[<- Paired.length i];exact z
  have x:(cj f k v).length<=sizeLine:=by have:=cR f k v;lia
  refine wpAny_setItem_heap (hsz:=F) (NU hu) (ir d.hok M) n λP j D=>h _ ?_;obtain⟨q,es,ep,m,h2,h3,h4,_,h5⟩:=j;refine gB d (by rw[e];exact LW) D ⟨q,m⟩ ⟨x,hd,_,(i.put k M Z).keeps λc ys N=>?_,q,es,ep,m,h2,h3,h4,h5⟩;rw[ag<|HZ N e λz=>nomatch z];exact N
end
def sH (i:Q1):Prop:=∀a iv,Oa i K0 a iv=operate [a,iv] (Mt a iv)
theorem pV {prog:QZ}{w:K6}{A:Lj}{E:L->K2->Prop}{s:K2}{g:Env}{b a:Q1}{m:Pos}{T id:Q4}{Q:L->K2->Prop}
  (n:RI (.type T) "__getitem__"=pure (Y<|.builtin id)) (p:sH a)
  (h:QX (K5 prog w) A (Q9 b g) (λo e=>QX (K5 prog w) A (Q9 a g) (λi c=>c.TypeIs o T/\QX (K5 prog w) A (Mt o i) Q E c) E e) E s):
  QX (K5 prog w) A (Q9 (.Subscript b a m) g) Q E s:=by
 refine Subscript_<|Ly h (λo e k=>Ly k (λi c d=>?_) λ_ _ x=>x) λ_ _ x=>x;obtain⟨hT,d⟩:=d;unfold RG;refine K4 ?_;rw[getitemInPython_of_ne hT.not_modules];refine K4<|wpAny_specialOf hT n ?_;have j:QX (K5 prog w) A (Oa a K0 o i) (λr f=>QX (K5 prog w) A (letTemporaryGo b o r >>= λ_=>pure r) Q E f) E c:=by rw[p o i];exact wpAny_operating<|Ly d (λr f l=>K4<|wpAny_letTemporaryGo<|Lc l) λ_ _ x=>x
 first
  |exact Lc<|K4 j
  |exact K4<|Lc<|K4 j
  |exact K4 j
theorem lI {X:Cx}{d:U<|QS×Obj}{i:St}{H:Hp}{s:K2}{a:QS}{y:V}{o:B V}(c:Inv X d i H s)(g:DGet H a y o):s.TypeIs (.ref a) "dict":=by
 rcases g with⟨h,k,e,_,_⟩|⟨h,k,b,e,_,_,_⟩
 .obtain ⟨_,_,j,_,f⟩:=gV c.hok e;exact f.typeIs
 .obtain ⟨_,_,l,_,f⟩:=jH c.hok e;exact f.typeIs
def FY (e ty:TE):TE:=λc H Q=>e c H λx d=>ty c d λy b=>∃a v,x=.ref a/\DGet b a y (Y v)/\Q v b
def Jm (ty e:TE):TE:=λc H Q=>ty c H λy d=>e c d λx b=>∃a o,x=.ref a/\DGet b a y o/\Q (.bl o.isSome) b
def Ht (g ty h:TE):TS:=λD b H=>h b H λv d=>g b d λx e=>ty b e λy f=>∃a c,x=.ref a/\HJ f a y v c/\D.nx b c
section
variable {X:Cx}{o i e value:Q1}{pos pos' tpos:Pos}{td ty tv:TE}
theorem Ab (w:X.A.units+1<Rk)(ho:PE X o td)(r:PE X i ty)(t:sH i):PE X (.Subscript o i pos) (FY td ty):=by intro c s j H Q b h;refine pV Pl.lookup t<|thn (ho c s j H _ b h) λu M ⟨x,k,m,F,z⟩=>thn (r c M j k _ m z) λiv N ⟨y,l,f,G,a,v,p,g,D⟩=>?_;subst p;obtain rfl:u=Value.ref a:=F;exact⟨lI f g,qe w f g G λZ P n d=>⟨v,l,n,d,D⟩⟩
theorem DR (r:X.A.units+1<Rk)(p:PE X i ty)(ho:PE X o td):PC X .In i o (Jm ty td):=by intro c s d H Q b h;refine thn (p c s d H _ b h) λiv F ⟨y,f,k,D,v⟩=>thn (ho c F d f _ k v) λu G ⟨x,j,l,z,a,t,n,g,w⟩=>?_;subst n;obtain rfl:u=Value.ref a:=z;exact KP r l g D λM m=>⟨.bl t.isSome,j,m,rfl,w⟩
theorem pH (F:X.A.units+1<Rk)(ho:PE X o td)(w:PE X i ty)(G:PE X value tv)(z:L7 value (Y<|.Subscript o i pos') pos.line X.env=pure K0):
  PS X (.Assign [.Subscript o i pos'] value pos) (Ht td ty tv):=by
 intro c s d H D b h;refine wpAny_Assign_Subscript (thn (G c s d H _ b h) λr s1 ⟨v,f,l,Q,M⟩=>thn (ho c s1 d f _ l M) λu s2 ⟨x,j,m,Z,N⟩=>thn (w c s2 d j _ m N) λiv s3 ⟨y,H3,n,ry,a,k,t,g,P⟩=>?_) z;subst t;obtain rfl:u=Value.ref a:=Z;exact qa F n g ry Q λs4 p=>⟨d,k,p,P⟩
end
theorem ma {P:QZ}{w:K6}{H:Hp}(h:Q5)(a:L0<h.objs.size):ObjOk P w H (h.push {cls:=.type "dict",data:=.dict #[]}) h.objs.size (.dK []):=
 ⟨LH _,beq_eq_false_iff_ne.mpr<|LF<|Lp a,[],.nil,Heap.DictOf.new h⟩
def uq:TE:=λ_ H Q=>∀p,H p=J->Q (.ref p) (upd H p<|.dK [])
section
variable {X:Cx}{pos:Pos}
theorem xn:PE X (.Dict [] [] pos) uq:=λc s d H Q b h=>
 wpAny_Dict_empty ⟨.ref s.heap.objs.size,_,b.laid (a:=s.heap.objs.size) (o:=.dK []) (t':=s.toks) (λ_ _ q=>Heap.get?_push_of_some _ q) (La _)<|ma s.heap b.big,rfl,h _<|b.hok.fresh<|La _⟩
end
def nB:U (TE×TE)->St->Hp->(U (V×V)->Hp->Prop)->Prop
|[],_,H,Q=>Q [] H
|(e,f)::r,a,H,Q=>e a H λx b=>f a b λy c=>nB r a c λps d=>Q ((x,y)::ps) d
abbrev VV:U (V×V)->U (L×L)->Prop:=Paired λp q=>RelV p.1 q.1/\RelV p.2 q.2
def PPs (X:Cx)(d:Pos)(c:U<|B Q1)(a:U Q1)(e:U<|TE×TE):Prop:=
 ∀(b:U<|QS×Obj) (s:K2) (f:St) (H:Hp) (Q:U (V×V)->Hp->Prop),Inv X b f H s->nB e f H Q ->
  QX (K5 X.prog X.w) X.A (evalPairs<|pairTrees c a X.env d) (λi h=>∃ps g,Inv X b f g h/\VV ps i/\Q ps g) X.xe s
theorem AH {X:Cx}{b:Pos}:PPs X b [] [] []:=λc s d H Q a h=>pairTrees_nil_walk ⟨[],H,a,.nil,h⟩
theorem vC {X:Cx}{c:Pos}{k v:Q1}{g:U<|B Q1}{l:U Q1}{i j:TE}{d:U<|TE×TE}(hk:PE X k i)(z:PE X v j)(w:PPs X c g l d):
  PPs X c (Y k::g) (v::l) ((i,j)::d):=λb s f H Q a h=>
 pairTrees_cons_walk (thn (hk b s f H _ a h) λu N ⟨x,m,p,G,A⟩=>thn (z b N f m _ p A) λw2 P ⟨y,n,r,M,D⟩=>
  thn (w b P f n _ r D) λws Z ⟨ps,o,t,e,F⟩=>⟨(x,y)::ps,o,t,.cons ⟨G,M⟩ e,F⟩)
def iq (c a:U<|Key×V):U (Key×V):=a.foldl (λb d=>cj b d.1 d.2) c
theorem KV.merge:∀{b:U<|Key×V} {rs:U<|Key×L} {a:U<|Key×V} {c:U<|Key×L},KV b rs->KV a c->KV (iq a b) (merged c rs):=by
 intro b rs a c r;unfold KV at r;induction r generalizing a c with
 |nil=>intro q;exact q
 | @cons p q ps f h t d =>
  intro r0;have e:KV (cj a p.1 p.2) (stored c q.1 q.2):=by have:=r0.put p.1 h.2;rw[<- h.1];exact this
  exact d e
theorem eP:∀(b a:U<|Key×V),(iq a b).length<=a.length+b.length
|[],a=>by show a.length<=a.length+0;lia
|p::r,a=>by have c:=eP r<|cj a p.1 p.2;have d:=cR a p.1 p.2;show(iq (cj a p.1 p.2) r).length<=_;rw[Lk];lia
theorem hX {P:QZ}{w:K6}:∀{d:U<|Key×V} {f:U<|L×L},VV (d.map λe=>(kV e.1,e.2)) f->∃rs,Carries (aL P w) f rs/\KV d rs
|[],_,r=>by rw[Ma] at r;cases r;exact⟨[],LW,.nil⟩
| p::d,_,r=>by
 rw[Ln] at r;cases r with
 | @cons a b as bs h t=>obtain⟨rs,c,q⟩:=hX (P:=P) (w:=w) t;obtain⟨i,g⟩:=b;exact⟨(p.1,g)::rs,⟨hW h.1,rfl,c⟩,.cons ⟨rfl,h.2⟩ q⟩
def Bh (b:U<|TE×TE):TE:=λe H Q=>∀p,H p=J->nB b e (upd H p<|.dK []) λps c=>c p=Y (.dK [])/\∃a:U<|Key×V,ps=a.map (λd=>(kV d.1,d.2))/\a.length<=15/\Q (.ref p) (upd c p<|.dK<|iq [] a)
theorem yU {X:Cx}{l:Pos}{d:U<|B Q1}{f:U Q1}{m:U<|TE×TE}(h:PPs X l d f m)(i:d.all (·.isSome)=K1)(A:d.length=f.length)(v:d≠[])
  (n:d.length<=15):PE X (.Dict d f l) (Bh m):=by
 intro k s σ H Q b q;have D:=b.hok.fresh<|La s.heap.objs.size;have t:=b.laid (a:=s.heap.objs.size) (o:=.dK []) (h':=s.heap.push {cls:=.type "dict",data:=.dict #[]}) (t':=s.toks) (λ_ _ q=>Heap.get?_push_of_some _ q) (La _)<|ma s.heap b.big;refine wpAny_Dict_walk (knd:=aL X.prog X.w) i A v n<|thn (h k _ σ _ _ t<|q _ D) λws s2 ⟨ps,H2,r,p,e,j,ep,lk,N⟩=>?_;subst ep;obtain⟨rs,c,Z⟩:=hX (P:=X.prog) (w:=X.w) p;obtain⟨z,hd,vs0,r0,u⟩:=oq r.hok e;cases r0;refine⟨rs,c,u,λh' g G=>⟨.ref s.heap.objs.size,_,?_,rfl,N⟩⟩;have M:(iq [] j).length<=sizeLine:=by have x:=eP j [];rw[MT] at x;rw[Nb];lia
 have y:∃q,h'.get? s.heap.objs.size=Y q:=let ⟨q,_,_,F,_⟩:=g;⟨q,F⟩;exact gB r (by rw[e];exact LW) G y<|kf M hd (Z.merge .nil) g
structure M1 (X:Cx)(o:Q1)(m:Str)(apos:Pos)(e:Q1)(cpos:Pos):Prop where
 base:M3 o m X.env (Q9 o X.env)=Q9 o X.env
 few:((Lu cpos (K7 [e] X.env)).all (λx=>!x.1)&&(MJ cpos (MK [] X.env)).all (λx=>x.1.isSome)
 &&decide (([e]:U Q1).length+([]:U LN).length+(if([]:U LN).isEmpty then 0 else 1)<30))=K1
 line:(apos.endLine==cpos.line)=K1
 trees:Lu cpos (K7 [e] X.env)=[(K0,Q9 e X.env)]
structure M2 (X:Cx)(o:Q1)(m:Str)(apos:Pos)(e f:Q1)(cpos:Pos):Prop where
 base:M3 o m X.env (Q9 o X.env)=Q9 o X.env
 few:((Lu cpos (K7 [e,f] X.env)).all (λx=>!x.1)&&(MJ cpos (MK [] X.env)).all (λx=>x.1.isSome)
 &&decide (([e,f]:U Q1).length+([]:U LN).length+(if([]:U LN).isEmpty then 0 else 1)<30))=K1
 line:(apos.endLine==cpos.line)=K1
 trees:Lu cpos (K7 [e,f] X.env)=[(K0,Q9 e X.env),(K0,Q9 f X.env)]
def IsD (H:Hp)(a:QS):Prop:=(∃b,Rd H a<|.dK b)\/∃b,Rd H a<|.dT b
theorem wW {X:Cx}{h:U<|QS×Obj}{l:St}{H:Hp}{s:K2}{a:QS}(c:Inv X h l H s)(d:IsD H a):
  s.TypeIs (.ref a) "dict"/\(∀b,Value.ref a=.ref b->∃f,s.heap.get? b=Y f/\f.dict=J)/\(a==L0)=false:=by
 rcases d with⟨k,e⟩|⟨k,e⟩
 .obtain ⟨_,hd,m,_,g⟩:=gV c.hok e;refine⟨g.typeIs,λb q=>?_,hd⟩;cases q;obtain⟨f,_,_,i,j,_⟩:=g;exact⟨f,i,j.2.1⟩
 .obtain ⟨_,hd,n,_,g⟩:=jH c.hok e;refine⟨g.typeIs,λb q=>?_,hd⟩;cases q;obtain⟨f,_,_,i,j,_⟩:=g;exact⟨f,i,j.2.1⟩
section
variable {X:Cx}{pins:U (QS×Obj)}{σ:St}{H:Hp}{s:K2}{a:QS}{y d:V}{u r:L}{o:B V}{A:Lj}{E:L->K2->Prop}
theorem Ex {Q:L->K2->Prop}(x:A.units+1<Rk)(c:Inv X pins σ H s)(g:DGet H a y o)(n:RelV y u)(h:∀t p,Inv X pins σ H p->RelV (o.getD .non) t->Q t p):
  QX (K5 X.prog X.w) A (call (.builtin "dict.get") [.ref a,u]) Q E s:=by
 rcases g with⟨m,k,e,j,l⟩|⟨m,k,b,e,j,v,l⟩
 .subst j;obtain⟨z,hd,F,f,i⟩:=gV c.hok e;refine NQ Nu i.typeIs OE (Pr _ _) (meets_dict_get (aL X.prog X.w) a (hW n) hd) ⟨_,i.mapOf,h _ _ (c.tok _) ?_⟩;rw[l];exact(f.val k).getD rfl
 .subst j;cases(show u=Value.ref b from n);obtain⟨z,hd,D,f,i⟩:=jH c.hok e;refine NQ Nu i.typeIs OE (Pr _ _) (meetsH_dict_get (Ng<|aL X.prog X.w) a b hd) ⟨NU x,k,D,ir c.hok v,i,h _ _ (c.tok _) ?_⟩;rw[l];exact(f.val k).getD rfl
end
def wH (e ty:TE):TE:=λd H Q=>e d H λx b=>∃a,x=.ref a/\IsD b a/\ty d b λy c=>∃o,DGet c a y o/\Q (o.getD .non) c
section
variable {X:Cx}{o e f:Q1}{apos cpos:Pos}{td ty tx:TE}
theorem uo (w:X.A.units+1<Rk)(ho:PE X o td)(v:PE X e ty)(m:M1 X o "get" apos e cpos):PE X (.Call (.Attribute o "get" apos) [e] [] cpos) (wH td ty):=by intro c s k H Q b h;refine Og m.base m.few m.line OF Nu Pn<|thn (ho c s k H _ b h) λu M ⟨x,l,j,F,a,t,d,z⟩=>?_;subst t;obtain rfl:u=Value.ref a:=F;obtain⟨t1,t2,_⟩:=wW j d;refine⟨t1,t2,?_⟩;rw[m.trees];refine Calls.callWith_builtin rfl (Calls.evalArgs_plain<|Calls.spliced_cons<|thn (v c M k l _ j z) λiv P ⟨y,n,p,G,N,g,D⟩=>Calls.spliced_nil ?_);exact Ex w p g G λw' Z r i=>⟨_,n,r,i,D⟩
end
section
variable {X:Cx}{pins:U (QS×Obj)}{σ:St}{H:Hp}{s:K2}{a:QS}{kvs:U (Key×V)}{A:Lj}{E:L->K2->Prop}
theorem vf {Q:L->K2->Prop}(c:Inv X pins σ H s)(e:Rd H a<|.dK kvs)(h:∀p i,H p=J->Inv X pins σ (upd H p<|.dK kvs) i->Q (.ref p) i):QX (K5 X.prog X.w) A (call (.type "dict") [.ref a]) Q E s:=by obtain⟨z,hd,m,d,j⟩:=gV c.hok e;refine kt_call_dict hd j (by rw[<- d.length];exact z) λl f k=>?_;refine h _ _ (c.hok.fresh<|La _)<|c.laid (a:=s.heap.objs.size) (o:=.dK kvs) (t':=s.toks) (λb q g=>?_) (La _)<|kf z (beq_eq_false_iff_ne.mpr<|LF<|Lp c.big) d f;exact(k.2 b<|Lp<|Heap.lt_size g).trans<|Heap.get?_push_of_some _ g
end
end L2

set_option maxHeartbeats 4000000
namespace L3
open PySem PySem.Spec PyProof.Rows L2
abbrev noX:L->K2->Prop:=λ_ _=>Q6
theorem i7 {P:QZ}{w:K6}{H:Hp}{h:Q5}{a:QS}{o:HO}(x:HOk P w H h)(g:H a=J)(d:ObjOk P w (upd H a o) h a o):HOk P w (upd H a o) h:=by
 intro b u e;by_cases f:b=a
 .subst f;rw[af] at e;cases e;exact d
 .rw [ag f] at e;refine(x b u e).stay (λc v _ q=>q) (λc q=>?_) (λc i q=>?_)
  .rw[ag<|aQ q g];exact q
  .rw[ag<|aQ q g];exact q
section
variable {prog:QZ}{w:K6}{A:Lj}{R:Result->K2->Prop}{s:K2}
theorem nK {o H f:Q1}{c:Rj}{F:Pos}{G l:L}{b:Env}(a:O->K2->Prop)
  (turn:∀ n s,a n s->QX (K5 prog w) A (MH G) (fun r d=>match r with
   |none=>R (.ok .next) d
   | some v=>QX (K5 prog w) A (Ny H G v) (fun _ g=>QX (K5 prog w) A (Mk H b v) (fun _ i =>
     QX (K5 prog w) A (Q9 o b) (λy j=>QX (K5 prog w) A (call (.builtin "list.append") [l,y]) (λ_ k=>∃m,m<n/\a m k) noX j) noX i) noX g) noX d) noX s)
  (n:O) (h:a n s):MM (K5 prog w) A (.compLoop (.ListComp o [⟨H,f,[],0⟩] c F) 0 G l b) R s:=by
 refine codeAny_loop rfl a (λn s M=>?_) n h;show QX _ A ((compTurn (.ListComp o [⟨H,f,[],0⟩] c F) 0 G l b).onRaise (λx=>do noteFrame x b;theTreesLotGoes x)) _ _ s;refine wpAny_noted ?_;rw[compTurn_list];refine K4<|Od<|K4<|Ly (turn n s M) (λr d e=>?_) λ_ _ z=>z.elim;cases r with
 |none=>exact Lc e
 |some v=>refine K4<|Ly e (λ_ g p=>?_) λ_ _ z=>z.elim;refine K4<|Ly p (λ_ i t=>?_) λ_ _ z=>z.elim;refine K4<|wpAny_tests_nil ?_;exact K4<|K4<|Ly t (λy j u=>K4<|Ly u (λ_ k D=>Lc<|Lc ⟨rfl,D⟩) λ_ _ z=>z.elim) λ_ _ z=>z.elim
end
def ax (X:Cx)(N:U Str)(a:Rj)(b:U<|Str×QS)(C:QS)(s:K2)(H:Hp)(c:U QS):Cx where
 prog:=X.prog
 w:=X.w
 K:=X.K
 mg:=X.mg
 base:=X.base
 A:=X.A
 N:=N
 s₀:=s
 H₀:=H
 env:=compEnvC a b C X.env
 outer:=X.stack
 stack:=X.stack
 ex:=c
 fn:=λ_=>K0
 calm:=X.calm
 pn:=X.pn
 xe:=noX
inductive Clo (X:Cx):U (Str×QS)->Prop
 |nil:Clo X []
 |cons {y:Str} {c:QS} {cl:U (Str×QS)}:X.env.cells.lookup y=Y c->Clo X cl->Clo X ((y,c)::cl)
theorem Clo.get {X:Cx}{a:U<|Str×QS}(h:Clo X a):∀{y:Str} {c:QS},a.lookup y=Y c->X.env.cells.lookup y=Y c:=by
 induction h with
 |nil=>intro y c e;cases e
 | @cons z d b f _ g =>
  intro y c e;cases q:y==z with
  |true=>simp only[Mo,q] at e;cases e;rw[eq_of_beq q];exact f
  |false=>simp only[Mo,q] at e;exact g e
inductive Frees (X:Cx)(scope:Rj)(cl:U (Str×QS)):U Str->U O->Prop
 |nil:Frees X scope cl [] []
 | cons {y:Str} {ys:U Str} {i:O} {is:U O} {c:QS}:X.N[i]?=Y y->Vis X.env.scope y->(X.env.kindOf y=Y .cell\/X.env.kindOf y=Y .free)->X.env.cells.lookup y=Y c->cl.lookup y=Y c ->
   ((M8 scope X.env).names.lookup y=Y .cell\/(M8 scope X.env).names.lookup y=Y .free)->Frees X scope cl ys is->Frees X scope cl (y::ys) (i::is)
theorem Frees.len {X:Cx}{a:Rj}{d:U<|Str×QS}{c:U Str}{b:U O}(F:Frees X a d c b):b.length=c.length:=by
 induction F with
 |nil=>rfl
 |cons _ _ _ _ _ _ _ e=>rw[Lk,Lk,e]
def cY (b:L2.St)(a:U O):L2.St:=a.map λi=>(b[i]?).join
theorem Frees.get {X:Cx}{a:Rj}{d:U<|Str×QS}{f:U Str}{b:U O}{σ:L2.St}(F:Frees X a d f b):∀{j:O} {y:Str} {v:V},f[j]?=Y y->(cY σ b)[j]?=Y (Y v) ->
  ∃(i:O) (c:QS),X.N[i]?=Y y/\σ[i]?=Y (Y v)/\Vis X.env.scope y/\(X.env.kindOf y=Y .cell\/X.env.kindOf y=Y .free)/\X.env.cells.lookup y=Y c/\d.lookup y=Y c /\
   ((M8 a X.env).names.lookup y=Y .cell\/(M8 a X.env).names.lookup y=Y .free):=by
 induction F with
 |nil=>intro j y v e;simp at e
 | @cons z r i b c g h k l m n _ p =>
  intro j y v e1 e2;unfold cY at e2;rw[Ln] at e2;cases j with
  | zero =>
   rw[NN] at e1 e2;cases e1;cases q:σ[i]? with
   |none=>rw[q] at e2;cases e2
   |some o=>rw[q] at e2;have e3:o=Y v:=LG e2;subst e3;exact⟨i,c,g,q,h,k,l,m,n⟩
  |succ j=>rw[L6] at e1 e2;exact p e1 e2
abbrev jR (a:U L):Obj:={cls:=.type "list",data:=.seq a.toArray a.length}
theorem qX {X:Cx}(N:X.calm=K1):dR X (.builtin "all") (λD H Q=>∃(a:QS) (bs:U QT),D=[.ref a]/\SqL X.K H a (bs.map V.bl)/\Q (.bl<|bs.all id) H):=by
 intro y s σ H D us Q c r h;obtain⟨a,bs,rfl,G,q⟩:=h;obtain⟨u,rfl,ru⟩:=gJ r;cases ru;obtain⟨d,t,p,hz⟩:=c.list G;have l:d.toArray.size=bs.length:=by rw[Lq,<- t.length,K9]
 have n:a<s.heap.objs.size:=by obtain⟨o,e,_⟩:=p.isList;exact Heap.lt_size e
 refine call_all_walk<|Nf p.isList ?_;refine⟨s.heap.objs.size,_,_,_,_,_,λi=>bs.getD i K1,rfl,Walks.list (A:=X.A.in1) (show X.A.in1.handled=J from c.ok.hd N) s.heap.objs.size a (Lp n) d.toArray,⟨⟨_,Heap.get?_push_size _ rfl,rfl,rfl⟩,p.isList.push _⟩,λi v s' Q' E' Z F=>?_,λh' tk k=>?_⟩
 .have m:d[i]?=Y v:=by simpa using Z
  have f:i<d.length:=(L8.mp m).1;have j:i<bs.length:=by have:=t.length;rw[K9] at this;lia
  obtain⟨w',e1,e2⟩:=t.get (i:=i) (x:=.bl bs[i]) (by rw[LQ,MG j];rfl);rw[m] at e1;cases e1;cases e2;refine NT ?_;have e3:bs.getD i K1=bs[i]:=by rw[Oy,MG j];rfl
  rw[<- e3];exact F
 .have e:(Lx d.toArray.size).all (fun i=>bs.getD i K1)=bs.all id:=by
   rw[l,Bool.eq_iff_iff,MV,MV];constructor
   .intro z b M;obtain⟨i,f,e⟩:=List.getElem_of_mem M;have:=z i<|Om.mpr f;rw[Oy,MG f] at this;simpa[e] using this
   .intro z i f;have g:=Om.mp f;rw[Oy,MG g];exact z _<|List.getElem_mem g
  rw[e]
  exact⟨.bl<|bs.all id,H,c.kept (λb o w=>k b o (λP=>by
   have:b=s.heap.objs.size:=by simpa using P
   exact QW (this ▸ Heap.lt_size w)<|Nq _)<|Heap.get?_push_of_some _ w),rfl,q⟩
inductive Th where
 |non|bl (b:QT)|int (i:I)|str (x:Str)|tup (ts:U Th)|lst (ts:U Th)
mutual
def Has (K:K3)(H:Hp):Th->V->Prop
|.non,v=>v=.non
|.bl b,v=>v=.bl b
|.int i,v=>v=.int i
|.str x,v=>v=.str x
|.tup ts,v=>∃a vs,v=.ref a/\SqT K H a vs/\HasL K H ts vs
|.lst ts,v=>∃a vs,v=.ref a/\H a=Y (.lst vs)/\HasL K H ts vs
def HasL (K:K3)(H:Hp):U Th->U V->Prop
|[],vs=>vs=[]
|t::ts,vs=>∃v r,vs=v::r/\Has K H t v/\HasL K H ts r
end
noncomputable def Th.ty:Th->Q4
|.non=>"NoneType" |.bl _=>"bool" |.int _=>"int" |.str _=>"str" |.tup _=>"tuple" |.lst _=>"list"
def isI (c:Q4)(t:Th):QT:=t.ty==c || (t.ty=="bool"&&c=="int")
theorem kit_type {K:K3}{A a:Q4}:MS K (.type A) (.type a)=MS [] (.type A) (.type a):=by unfold MS PySem.W.kitCls P8;rfl
theorem EB:∀c∈["tuple","str","bool","int","list"],∀n∈["NoneType","bool","int","str","tuple","list"],MS [] (.type n) (.type c)=Y (n==c || (n=="bool"&&c=="int")):=by decide +kernel
theorem DP (t:Th):t.ty∈["NoneType","bool","int","str","tuple","list"]:=by cases t<;>simp[Th.ty]
theorem nh {c:Q4}(a:c∈["tuple","str","bool","int","list"])(t:Th):MS [] (.type t.ty) (.type c)=Y (isI c t):=EB c a t.ty<|DP t
structure DTab (K:K3)(w:K6)(a:QS)(T:U (Str×V)):Prop where
 ex:∃es n,K.lookup a=Y ⟨.type "dict",J,.dict es n,#[]⟩/\Qj w.params es.toList/\Paired (λ(p:Str×V) (e:Rh)=>(∃t,e.key=.str p.1 t)/\RelV p.2 e.val) T es.toList
 lo:(a==L0)=K0
theorem lr {x:Str}:∀{T:U<|Str×V} {l:U Rh},Paired (λ(p:Str×V) (e:Rh)=>(∃t,e.key=.str p.1 t)/\RelV p.2 e.val) T l->RelO (T.lookup x) ((l.find? λd=>Value.isStrOf x d.key).map (·.val))
|_,_,.nil=>trivial
| (k,v)::T,e::l,.cons ⟨⟨t,b⟩,c⟩ r=>by
 have f:=lr (x:=x) r
 have q:Value.isStrOf x e.key=(x==k):=by
  have a:e.key=.str k t:=b;rw[a];show(k==x)=(x==k);by_cases z:x=k
  .subst z;rfl
  .rw[Rt z,Rt<|LF z]
 rw[Nk,q,Mo];cases x==k with
 |true=>exact c
 |false=>exact f
theorem DTab.map {K:K3}{w:K6}{a:QS}{T:U<|Str×V}{P:QZ}{h:Q5}(D:DTab K w a T)(X:K.In h):∃f:Str->B L,h.MapOf (strKind P w) a f/\∀x,RelO (T.lookup x) (f x):=by
 obtain⟨b,n,c,g,i⟩:=D.ex;refine⟨_,PySem.W.mapOf_K (prog:=P) X c g,λx=>?_⟩;have q:=lr (x:=x) i;have e:findBy Value.isStrOf b x=(b.toList.find? λd=>Value.isStrOf x d.key).map (·.val):=by unfold findBy;rw[<- QH]
 rw[e];exact q
theorem RelO.some_is {v:V}{o:B L}(r:RelO (Y v) o):∃u,o=Y u/\RelV v u:=by
 cases o with
 |none=>exact r.elim
 |some u=>exact⟨u,rfl,r⟩
theorem RelO.same_some {o:B V}{u:B L}(r:RelO o u):u.isSome=o.isSome:=by
 cases o with
 |none=>
  cases u with
  |none=>rfl
  |some u=>exact r.elim
 |some v=>obtain⟨u,rfl,_⟩:=RelO.some_is r;rfl
section
variable {X:Cx}
theorem vm:OpR X (LV .In) (λx y H Q=>∃z a T,x=.str z/\y=.ref a/\DTab X.K X.w a T/\Q (.bl (T.lookup z).isSome) H):=by intro c s j H x y v u Q b g i h;obtain⟨z,a,T,rfl,rfl,D,q⟩:=h;obtain⟨t,rfl⟩:=g;cases i;obtain⟨f,e,d⟩:=D.map (P:=X.prog) b.kIn;refine wpAny_in_of (NO X.prog X.w z t) D.lo e ?_;rw[RelO.same_some<|d z];exact⟨.bl (T.lookup z).isSome,H,b.tok _,rfl,q⟩
theorem mm:OpR X (LV .NotIn) (λx y H Q=>∃z a T,x=.str z/\y=.ref a/\DTab X.K X.w a T/\Q (.bl<|!(T.lookup z).isSome) H):=by intro c s j H x y v u Q b g i h;obtain⟨z,a,T,rfl,rfl,D,q⟩:=h;obtain⟨t,rfl⟩:=g;cases i;obtain⟨f,e,d⟩:=D.map (P:=X.prog) b.kIn;refine wpAny_notIn_of (NO X.prog X.w z t) D.lo e ?_;rw[RelO.same_some<|d z];exact⟨.bl<|!(T.lookup z).isSome,H,b.tok _,rfl,q⟩
theorem Cg:IxR X (λx y H Q=>∃a z T v,x=.ref a/\y=.str z/\DTab X.K X.w a T/\T.lookup z=Y v/\Q v H):=by intro d c i s p H x y v u Q b m n h k;obtain⟨a,z,T,r,rfl,rfl,D,l,q⟩:=h;cases m;obtain⟨t,rfl⟩:=n;obtain⟨f,g,j⟩:=D.map (P:=X.prog) b.kIn;have e:=j z;rw[l] at e;obtain⟨o,e1,e2⟩:=RelO.some_is e;exact tail_any g.typeIs Pl.lookup (wpAny_getItem_of (NO X.prog X.w z t) g e1 ⟨r,H,b.tok _,e2,q⟩) k
end
theorem ml {H:Hp}{p:QS}(h:H p=J)(o:HO):Same H (upd H p o):=λb u q=>by rw[ag<|aQ q h];exact q
def Bq (K:K3):R2:=λx y H Q=>∃a b d f,x=.ref a/\y=.ref b/\SqT K H a d/\SqT K H b f/\d≠[]/\d.length+f.length<=sizeLine/\∀v e,Same H e->(∃c,v=.ref c/\SqT K e c (d++f))->Q v e
theorem pB {X:Cx}:OpR X (LU .Add) (Bq X.K):=λd s m H x y v u Q c i j h=>by obtain⟨a,b,k,l,e1,e2,e,f,hx,g,q⟩:=h;exact AM d s m H x y v u Q c i j ⟨a,b,k,l,e1,e2,e,f,hx,g,λz=>q _ _ (Same.refl _) ⟨a,rfl,by rw[z,LK];exact e⟩,λ_ p hp=>q _ _ (ml hp _) ⟨p,rfl,SqT.of af⟩⟩
theorem jh {X:Cx}{x:Str}{T:Q4}{a:Pos}(b:Gl X x)(c:X.mg x=J)(e:Mx x=Y (.type T))(d:x≠"__name__":=by decide)(hd:(x==("__debug__":Str))=false:=by decide):PE X (.Name x a) (tC<|.ty T):=yg (v:=.ty T) b c e rfl d hd
theorem iA {X:Cx}{x:Str}{a:QS}{b:Pos}(c:Gl X x)(d:X.mg x=Y (.ref a))(hd:(x==("__debug__":Str))=false:=by decide):PE X (.Name x b) (tC<|.ref a):=pC (v:=.ref a) c d rfl hd
mutual
def toD:Th->PyData
|.non=>.none
|.bl b=>.bool b
|.int i=>.int i
|.str x=>.str x
|.tup ts=>.tuple<|gm ts
|.lst ts=>.list<|gm ts
def gm:U Th->U PyData
|[]=>[]
|t::ts=>toD t::gm ts
end
section
variable {X:Cx}{pins:U (QS×Obj)}{σ:L2.St}{H:Hp}{s:K2}
mutual
theorem Has.reads (I:Inv X pins σ H s):∀{t:Th} {v:V} {u:L},Has X.K H t v->RelV v u->∃as,Reads s.heap u (toD t) as
|.non,_,u,h,r=>by obtain rfl:_=V.non:=h;obtain rfl:u=Value.none:=r;exact⟨_,.none⟩
|.bl b,_,u,h,r=>by obtain rfl:_=V.bl b:=h;obtain rfl:u=Value.bool b:=r;exact⟨_,.bool b⟩
|.int i,_,u,h,r=>by obtain rfl:_=V.int i:=h;obtain⟨t,rfl⟩:∃t,u=Value.int i t:=r;exact⟨_,.int i t⟩
|.str x,_,u,h,r=>by obtain rfl:_=V.str x:=h;obtain⟨t,rfl⟩:∃t,u=Value.str x t:=r;exact⟨_,.str x t⟩
|.tup ts,_,u,⟨a,vs,e,hS,hL⟩,r=>by subst e;obtain rfl:u=Value.ref a:=r;obtain⟨its,rv,⟨o,h1,h2,n,h3⟩,_⟩:=I.tuple hS;obtain⟨as,ra⟩:=HasL.reads I hL rv;exact⟨_,.tuple h1 h2 h3<|by simpa using ra⟩
|.lst ts,_,u,⟨a,vs,e,hS,hL⟩,r=>by subst e;obtain rfl:u=Value.ref a:=r;obtain⟨its,rv,⟨o,n,h1,h2,_,h3⟩,_⟩:=I.list<|SqL.of hS;obtain⟨as,ra⟩:=HasL.reads I hL rv;exact⟨_,.list h1 h2 h3<|by simpa using ra⟩
theorem HasL.reads (I:Inv X pins σ H s):∀{ts:U Th} {vs:U V} {us:U L},HasL X.K H ts vs->Vals vs us->∃as,ReadsAll s.heap us (gm ts) as
|[],vs,us,h,r=>by obtain rfl:vs=[]:=h;cases r;exact⟨_,.nil⟩
| t::ts,vs,us,⟨v,w',e,h1,h2⟩,r=>by
 subst e;cases r with
 |cons r1 r2=>obtain⟨as,ra⟩:=Has.reads I h1 r1;obtain⟨bs,rb⟩:=HasL.reads I h2 r2;exact⟨_,.cons ra rb⟩
end
end
abbrev fX (t:Th):Prop:=SeqAt.shaped (toD t)=K1
theorem oI {X:Cx}(f:X.A.units+64<Rk):OpR X (LV .Eq) (λx y H Q=>∃t b,Has X.K H t x/\Has X.K H b y/\fX t/\fX b/\Q (.bl<|PyData.eqv (toD t)<|toD b) H):=by intro c s m H x y v u Q a k l h;obtain⟨t,b,d,e,g,o2,q⟩:=h;obtain⟨as,i⟩:=Has.reads a d k;obtain⟨bs,j⟩:=Has.reads a e l;exact QR i j g o2 f ⟨.bl _,H,a,rfl,q⟩
theorem oj {X:Cx}(f:X.A.units+64<Rk):OpR X (LV .NotEq) (λx y H Q=>∃t b,Has X.K H t x/\Has X.K H b y/\fX t/\fX b/\Q (.bl<|!PyData.eqv (toD t) (toD b)) H):=by intro c s m H x y v u Q a k l h;obtain⟨t,b,d,e,g,o2,q⟩:=h;obtain⟨as,i⟩:=Has.reads a d k;obtain⟨bs,j⟩:=Has.reads a e l;exact QQ i j g o2 f ⟨.bl _,H,a,rfl,q⟩
theorem wu {t:Th}(o:fX t):PyData.eqv (toD t) (toD t)=true:=SeqAt.eqv_refl _<|SeqAt.canLay_of_shaped o
section
variable {prog:QZ}{w:K6}{A:Lj}{E:L->K2->Prop}{s:K2}
theorem fz {t i:QS}{a:Rg L}{l m:L}{lo d:B I}{Q:L->K2->Prop}(b:RB s.heap t a)(j:s.heap.IsSliceOf i l m .none)(o:Mz l lo)(p:Mz m d)
  (k:HT.sIx a.size 0 lo=0/\HT.sIx a.size a.size d=a.size) (h:Q (.ref t) s):QX (K5 prog w) A (Mt (.ref t)<|.ref i) Q E s:=by
 obtain⟨os,g,f,n⟩:=id j;have e:s.TypeIs (.ref i) "slice":=⟨os,g,f⟩;unfold Mt
 try with_reducible refine M4 ?_
 first|refine K4 (Lc ?_)|skip
 refine K4<|wpAny_sequenceKey b.typeIs (by decide) ?_
 refine K4 (Nx (name:=Str.ofString "__getitem__") b.typeIs NM
  (Nc NM b.typeIs entry_tuple_getitem ?_<|args_tuple_getitem _ _))
 show QX _ _ (Builtin.Tuple.tupleItemsOf (.ref t) >>= _) _ _ s;refine K4<|tupleItemsOf_ b ?_;refine K4<|NV e ?_;rw[QY<|by decide];refine K4<|HT.sliceApplied_gen j o p ?_;have c:(((HT.sIx a.size 0 lo:O):I)==0&&(1:I)==1&&(HT.sIx a.size a.size d-HT.sIx a.size 0 lo)==a.size)=true:=by rw[k.1,k.2];simp
 show QX _ _ (if(((HT.sIx a.size 0 lo:O):I)==0&&(1:I)==1&&(HT.sIx a.size a.size d-HT.sIx a.size 0 lo)==a.size)=K1 then _ else _) _ _ s;rw[QY c];unfold Builtin.Tuple.tupleIsExact;refine K4<|K4<|NV b.typeIs<|Lc ?_;rw[QY<|by decide]
 first
  |exact K4<|Nw<|Lc ⟨_,rfl,Lc h⟩
  |exact K4<|Nw<|K4<|Lc<|Lc ⟨_,rfl,Lc h⟩
end
section
variable {X:Cx}
def zK (K:K3):V->B I->B I->Hp->VK->Prop:=λx lo e H Q=>∃a d,x=.ref a/\SqT K H a d/\∀v b,Same H b->(∃c,v=.ref c/\SqT K b c (ff d lo e))->Q v b
theorem ox:SlR X (zK X.K):=by
 intro f s y H x v u w lo i t Q b o k m n h;obtain⟨a,c,rfl,hx,q⟩:=h;by_cases g:HT.sIx c.length 0 lo=0/\HT.sIx c.length c.length i=c.length
 .cases o;obtain⟨j,r,l,z⟩:=b.tuple hx;have d:j.toArray.size=c.length:=by rw[Lq];exact r.length.symm
  refine⟨"tuple",_,NM.lookup,l.typeIs,?_⟩;refine fz l k m n (by rw[d];exact g) ⟨.ref a,H,b,rfl,q _ _ (Same.refl H) ⟨a,rfl,?_⟩⟩;have e:ff c lo i=c:=by unfold ff;rw[g.1,g.2];simp
  rw[e];exact hx
 .exact FD f s y H _ v u w lo i t Q b o k m n ⟨a,c,rfl,hx,g,λp hp=>q _ _ (ml hp _) ⟨p,rfl,SqT.of af⟩⟩
end
def KJ (K:K3):R2:=λx y H Q=>∃p a i v,x=.ref p/\y=.int i/\(SqL K H p a\/SqT K H p a)/\atI a i=Y v/\Q v H
theorem ix_any {X:Cx}:IxR X (KJ X.K):=λc b d s m H x y v u Q a j k h g=>by
 obtain⟨p,l,i,z,e1,e2,e,f,q⟩:=h;rcases e with e|e
 .exact zk c b d s m H x y v u Q a j k ⟨p,l,i,z,e1,e2,e,f,q⟩ g
 .exact B9 c b d s m H x y v u Q a j k ⟨p,l,i,z,e1,e2,e,f,q⟩ g
end L3

namespace L3
open PySem PySem.Spec PySem.Builtin PySem.Builtin.Str PyProof.Rows L2
theorem jG:∀{b:U Mf} {a:U L},Vals (b.map V.str) a->∃l:U<|Mf×Tok,a=RS l/\l.map (·.1)=b
|[],_,h=>by cases h;exact⟨[],rfl,rfl⟩
| t::b,_,h=>by
 cases h with
 |cons c d=>obtain⟨k,rfl⟩:=c;obtain⟨l,rfl,e⟩:=jG d;exact⟨(t,k)::l,rfl,by rw[Ln,e]⟩
theorem fw:∀(l:U<|Mf×Tok),Vals ((l.map (·.1)).map V.str)<|RS l
|[]=>.nil
|p::l=>.cons ⟨p.2,rfl⟩<|fw l
section
variable {X:Cx}
def BD (K:K3):V->U V->Hp->VK->Prop:=λx b H Q=>∃z p a,x=.str z/\b=[.ref p]/\SqL K H p (a.map V.str)/\JoinOk z a=K1/\Q (.str<|LJ z a) H
theorem zX:MtR X "str.join" (BD X.K):=by intro d s A H x y v w Q a n m h;obtain⟨z,p,b,rfl,rfl,f,c,q⟩:=h;obtain⟨t,rfl⟩:=n;obtain⟨u,rfl,j⟩:=m.one;cases j;obtain⟨g,r,i,_⟩:=a.list f;obtain⟨l,rfl,e⟩:=jG r;exact SC.join i.isList e c λo k=>⟨.str<|LJ z b,H,a.tok _,⟨o,by rw[show Txt.join z b=LJ z b from StrLaws.glued_eq_join z b]⟩,q⟩
def wY:V->U V->Hp->VK->Prop:=λx a H Q=>∃z y,x=.str z/\a=[.str y]/\(y.length==0)=K0/\z.length+2<=sizeLine/\∀p,H p=J->Q (.ref p) (upd H p<|.lst<|(Txt.split z y).map V.str)
theorem rY:MtR X "str.split" wY:=by
 intro c s m H x r v p Q a j i h;obtain⟨x,y,rfl,rfl,d,f,q⟩:=h;obtain⟨t,rfl⟩:=j;obtain⟨n,rfl,g⟩:=i.one;obtain⟨u,rfl⟩:=g;have b:(Txt.split x y).length<=sizeLine:=by have:=StrLaws.occ_length_le x y 0 x.length<|x.length+1;simp only[Txt.split,apply_ite NW,length_partsBetween,Mi];split<;>(try split)<;>lia
 have out:∀(l:U (Mf×Tok)) (k:O),Txt.split x y=l.map (·.1)->EP X c m Q (.ref s.heap.objs.size) {s with heap:=s.heap.push {cls:=.type "list",data:=.seq (RS l).toArray},toks:=k}:=λl k e=>
  ⟨.ref _,_,a.lnew (t':=k) (its:=RS l) (ys:=(Txt.split x y).map V.str) (by rw[e];exact fw l)<|by rw[K9];exact b,rfl,q _ a.fresh⟩
 unfold Txt.split at b out;split at out
 next no=>exact M0 F.slot_str_split (NP _ _ _) F.entry_str_split (F.args_str_split_2 _ _) (meets_str_split_cannot_occur x y t u no)<|out [(x,t)] s.toks rfl
 next may=>
  rw[Q0 may] at b;rw[PD] at may;split at out
  next no=>exact M0 F.slot_str_split (NP _ _ _) F.entry_str_split (F.args_str_split_2 _ _) (meets_str_split_not_found x y t u may d no)<|out [(x,t)] s.toks rfl
  next yes=>rw[Q0 yes] at b;rw[PD] at yes;have o:=λk=>out (numbered s.toks _) k (numbered_texts s.toks _).symm;rw[<- strsFrom_eq] at o;exact M0 F.slot_str_split (NP _ _ _) F.entry_str_split (F.args_str_split_2 _ _) (meets_str_split_sep x y t u may d yes (by lia) b)<|o _
end
theorem lb {f:Type}{c:f}:∀{x y r z:U f},c ∉ x->c ∉ y->x++c::r=y++c::z->x=y/\r=z
|[],[],_,_,_,_,e=>⟨rfl,(NZ e).2⟩
|[],b::y,_,_,_,d,e=>QW (by rw[(NZ e).1];exact Lg) d
|a::x,[],_,_,hx,_,e=>QW (by rw[<- (NZ e).1];exact Lg) hx
|a::x,b::y,r,z,hx,d,e=>by obtain⟨g,h⟩:=lb (λm=>hx<|Lr _ m) (λm=>d<|Lr _ m) (NZ e).2;exact⟨by rw[g,(NZ e).1],h⟩
theorem a8 (x y:Mf):(x++y).cps.toList=x.cps.toList++y.cps.toList:=QM
theorem mh (c:O):∀(g i:U Mf),g≠[]->i≠[]->(∀p∈g,c ∉ p.cps.toList)->(∀p∈i,c ∉ p.cps.toList)->LJ ⟨#[c]⟩ g=LJ ⟨#[c]⟩ i->g=i
|[],_,h,_,_,_,_=>QW rfl h
|_::_,[],_,h,_,_,_=>QW rfl h
|[x],[y],_,_,_,_,e=>by rw[show x=y from e]
|[x],y::b::r,_,_,hx,_,e=>by have d:x=y++⟨#[c]⟩++LJ ⟨#[c]⟩ (b::r):=e;refine QW ?_<|hx x Lg;rw[d,a8,a8];exact Mv _<|Lw _ Lg
|x::a::r,[y],_,_,_,f,e=>by have d:x++⟨#[c]⟩++LJ ⟨#[c]⟩ (a::r)=y:=e;refine QW ?_<|f y Lg;rw[<- d,a8,a8];exact Mv _<|Lw _ Lg
| x::a::r,y::b::z,_,_,hx,f,e=>by
 have d:x++⟨#[c]⟩++LJ ⟨#[c]⟩ (a::r)=y++⟨#[c]⟩++LJ ⟨#[c]⟩ (b::z):=e;have e2:=Q8 (λs=>s.cps.toList) d;simp only[a8] at e2;have e3:x.cps.toList++c::(LJ ⟨#[c]⟩ (a::r)).cps.toList=y.cps.toList++c::(LJ ⟨#[c]⟩ (b::z)).cps.toList:=by simpa using e2
 obtain⟨l,j⟩:=lb (hx x Lg) (f y Lg) e3;have k:x=y:=by cases x;cases y;exact Q8 OP<|N6.mp l
 have m:LJ ⟨#[c]⟩ (a::r)=LJ ⟨#[c]⟩ (b::z):=by revert j;generalize LJ ⟨#[c]⟩ (a::r)=u;generalize LJ ⟨#[c]⟩ (b::z)=v;intro j;cases u;cases v;exact Q8 OP<|N6.mp j
 rw[k,mh c (a::r) (b::z) (MU _ _) (MU _ _) (λp hp=>hx p<|Lr _ hp) (λp hp=>f p<|Lr _ hp) m]
theorem uk (x y:Mf):Txt.split x y≠[]:=by
 unfold Txt.split;split
 .exact MU _ _
 .split
  .exact MU _ _
  .intro h;have e:=Q8 NW h;rw[length_partsBetween] at e;exact QW e<|Nat.succ_ne_zero _
end L3

namespace L3
open PySem PySem.Spec PyProof.Rows L2
def SqO (h:Q5):QT->QS->Rg L->Prop
|true,a,b=>h.IsTuple a b
|false,a,b=>h.IsList a b
def ItO (h:Q5):QT->QS->QS->O->Prop
|true,b,a,n=>h.IsTupleIter b a n
|false,b,a,n=>h.IsListIter b a n
theorem SqO.at {h b:Q5}{k:QT}{a:QS}{c:Rg L}(x:SqO h k a c)(e:∀o,h.get? a=Y o->b.get? a=Y o):SqO b k a c:=by cases k<;>(obtain⟨o,ho,r⟩:=x;exact⟨o,e o ho,r⟩)
theorem ItO.at {h c:Q5}{k:QT}{b a:QS}{n:O}(x:ItO h k b a n)(e:∀o,h.get? b=Y o->c.get? b=Y o):ItO c k b a n:=by cases k<;>(obtain⟨o,ho,r⟩:=x;exact⟨o,e o ho,r⟩)
theorem ItO.obj {h:Q5}{k:QT}{b a:QS}{n:O}(x:ItO h k b a n):∃o,h.get? b=Y o/\∀v,o.data≠.cell v:=by cases k<;>(obtain⟨o,ho,_,d⟩:=x;exact⟨o,ho,λv z=>by rw[d] at z;cases z⟩)
theorem SqO.lt {h:Q5}{k:QT}{a:QS}{b:Rg L}(x:SqO h k a b):a<h.objs.size:=by cases k<;>(obtain⟨o,ho,_⟩:=x;exact Heap.lt_size ho)
section
variable {prog:QZ}{w:K6}{A:Lj}{E:L->K2->Prop}{s:K2}
theorem gW {b t:QS}{i:O}{f:Rg L}{x:L}{Q:L->K2->Prop}(a:s.heap.IsTupleIter b t i)(j:s.heap.IsTuple t f)(hx:f[i]?=Y x)
  (q:∀e,e.IsTupleIter b t (i+1)->Heap.SameBut b s.heap e->Q x {s with heap:=e}):QX (K5 prog w) A (Builtin.SmallTypes.nextOf<|.ref b) Q E s:=by
 obtain⟨u,d,g,c⟩:=id a;obtain⟨v,k,_,l,h⟩:=j;unfold Builtin.SmallTypes.nextOf;refine K4<|Nx (name:=Str.ofString "__next__") a.typeIs F.slot_tuple_iterator_next<|Nc F.slot_tuple_iterator_next a.typeIs F.entry_tuple_iterator_next ?_<|F.args_tuple_iterator_next_1 _;show QX _ _ (RY (.ref b) 0 >>= _) _ _ _;refine K4<|L5 d c (x:=.ref t) rfl ?_;show QX _ _ (if(Value.ref t==Value.none)=K1 then _ else _) _ _ _;rw[Q0<|by intro z;cases z];show QX _ _ (RY (.ref b) 1 >>= _) _ _ _;refine K4<|L5 d c (x:=.int i 0) rfl ?_;show QX _ _ (seqItems? (.ref t) >>= _) _ _ _;refine K4<|MI k h ?_;simp only[hx,PN];exact K4<|wpAny_setField d c (by simp)<|Lc ⟨x,rfl,Lc<|q _ ⟨_,Heap.get?_update_self _ d<|Obj.isFreed_of_fields<|Obj.data_mapFields c _,(Obj.cls_mapFields ..).trans g,by rw[Obj.data_mapFields c];simp[MA]⟩<|Heap.SameBut.update ..⟩
theorem fR {c t:QS}{i:O}{j:Rg L}{Q:L->K2->Prop}(h:A.handled=J)(b:s.heap.IsTupleIter c t i)(l:s.heap.IsTuple t j)(hx:j[i]?=J)
  (q:∀f e,Heap.ExtBut c s.heap f->(∃o,f.get? e=Y o/\o.cls=.type "StopIteration")->E (.ref e) {s with heap:=f}):QX (K5 prog w) A (Builtin.SmallTypes.nextOf<|.ref c) Q E s:=by
 obtain⟨u,g,p,d⟩:=id b;obtain⟨v,n,_,r,k⟩:=l;unfold Builtin.SmallTypes.nextOf;refine K4<|Nx (name:=Str.ofString "__next__") b.typeIs F.slot_tuple_iterator_next<|Nc F.slot_tuple_iterator_next b.typeIs F.entry_tuple_iterator_next ?_<|F.args_tuple_iterator_next_1 _;show QX _ _ (RY (.ref c) 0 >>= _) _ _ _;refine K4<|L5 g d (x:=.ref t) rfl ?_;show QX _ _ (if(Value.ref t==Value.none)=K1 then _ else _) _ _ _;rw[Q0<|by intro z;cases z];show QX _ _ (RY (.ref c) 1 >>= _) _ _ _;refine K4<|L5 g d (x:=.int i 0) rfl ?_;show QX _ _ (seqItems? (.ref t) >>= _) _ _ _;refine K4<|MI n k ?_;simp only[hx,PN];refine K4<|Nw<|K4<|wpAny_setField g d (by simp) ?_;show QX _ _ (newExc (.type "StopIteration") [] >>= _) _ _ _;refine K4 ?_;simp only[newTuple,newExc];refine K4 (Nd ?_<|by size_fits);refine K4 (m:=firstArgMember _ _) (wpAny_of_eq (a:=Value.none) (by first|rfl|(simp only[firstArgMember];rfl))<|Nd ?_<|by size_fits);simp only[raiseNew];refine K4<|wpAny_handled ?_;first|rw[h]|rw[show A.in1.handled=J from h]
 exact K4<|Lc<|wpAny_throw<|q _ _ (((Heap.SameBut.update ..).extBut.push _).push _) ⟨_,Heap.get?_push_size _ rfl,rfl⟩
theorem eQ {k:QT}{b t:QS}{i:O}{d:Rg L}{x:L}{Q:L->K2->Prop}(a:ItO s.heap k b t i)(e:SqO s.heap k t d)(hx:d[i]?=Y x)
  (q:∀c,ItO c k b t (i+1)->Heap.SameBut b s.heap c->Q x {s with heap:=c}):QX (K5 prog w) A (Builtin.SmallTypes.nextOf<|.ref b) Q E s:=by
 cases k with
 |false=>exact wpAny_nextOf_list_item (show s.heap.IsListIter b t i from a) (show s.heap.IsList t d from e) hx q
 |true=>exact gW a e hx q
theorem jo {k:QT}{b t:QS}{i:O}{d:Rg L}{Q:L->K2->Prop}(f:A.handled=J)(a:ItO s.heap k b t i)(g:SqO s.heap k t d)(hx:d[i]?=J)
  (q:∀c e,Heap.ExtBut b s.heap c->(∃o,c.get? e=Y o/\o.cls=.type "StopIteration")->E (.ref e) {s with heap:=c}):QX (K5 prog w) A (Builtin.SmallTypes.nextOf<|.ref b) Q E s:=by
 cases k with
 |false=>exact wpAny_nextOf_list_end f (show s.heap.IsListIter b t i from a) (show s.heap.IsList t d from g) hx q
 |true=>exact fR f a g hx q
theorem qA {z TI TO g h p r:QS}{M N:QT}{n m:O}{xs ys:Rg L}{x y a b:L}{Q:L->K2->Prop}(D:RO z TI TO g h p r)
  (u:LM s.heap z TI TO .none) (hI:Ri s.heap TI (.ref g)<|.ref h) (hO:Ri s.heap TO a b) (h1:ItO s.heap M g p n) (h2:ItO s.heap N h r m) (q1:SqO s.heap M p xs) (q2:SqO s.heap N r ys) (hx:xs[n]?=Y x) (hy:ys[m]?=Y y)
  (q:∀ f,LM f z TI TO (MA s.heap.objs.size)->Ri f TO x y->ItO f M g p (n+1)->ItO f N h r (m+1)->Ri f s.heap.objs.size x y->f.objs.size=s.heap.objs.size+1 ->
   (∀c o,c≠z->c≠TO->c≠g->c≠h->s.heap.get? c=Y o->f.get? c=Y o)->Q (.ref s.heap.objs.size) {s with heap:=f}):
  QX (K5 prog w) A (ML.«zip.__next__» ⟨[.ref z],[]⟩) (λfin s'=>∃v,fin=.done (.ret v)/\Q v s') E s:=by
 show QX _ _ (RY (.ref z) 2 >>= _) _ _ _;refine K4<|L5 u rfl (x:=.bool K0) rfl ?_;show QX _ _ (RY (.ref z) 3 >>= _) _ _ _;refine K4<|L5 u rfl (x:=.ref TI) rfl (K4<|MI hI rfl ?_);show QX _ _ (Builtin.SmallTypes.ownedTupleIsFree (.ref z) >>= _) _ _ _;refine K4 ?_;unfold Builtin.SmallTypes.ownedTupleIsFree;refine K4<|L5 u rfl (x:=.none) rfl (Lc ?_);simp only[Rz];refine K4<|Nw<|K4<|L5 u rfl (x:=.ref TO) rfl (K4<|Nz u (by simp) λg1 z1 j=>?_)
 replace z1:LM g1 z TI TO .ellipsis:=z1
 refine K4 ?_;simp only[Qi,Qd,PB,Qh];refine K4<|K4<|Oc ?_;show QX _ _ (Builtin.SmallTypes.nextOf (.ref g) >>= _) _ _ _;refine K4<|eQ (h1.at λo e=>j.extBut _ _ D.i1z e) (q1.at λo e=>j.extBut _ _ D.l1z e) hx λg2 r2 k=>Lc ?_;have p2:Ri g2 TO a b:=k.extBut _ _ D.TOi1<|j.extBut _ _ D.TOz hO;refine K4<|MI p2 rfl (K4<|OL p2 λg3 p3 l=>K4<|wpAny_letGo<|Lc ?_)
 replace p3:Ri g3 TO x b:=p3
 refine K4<|K4<|Oc ?_;show QX _ _ (Builtin.SmallTypes.nextOf (.ref h) >>= _) _ _ _;refine K4<|eQ (h2.at λo e=>l.extBut _ _ D.TOi2.symm<|k.extBut _ _ D.i12.symm<|j.extBut _ _ D.i2z e) (q2.at λo e=>l.extBut _ _ D.l2TO<|k.extBut _ _ D.l2i1<|j.extBut _ _ D.l2z e) hy λg4 r4 F=>Lc ?_;have p4:Ri g4 TO x b:=F.extBut _ _ D.TOi2 p3;refine K4<|MI p4 rfl (K4<|OL p4 λd Z G=>K4<|wpAny_letGo<|Lc<|Lc ?_)
 replace Z:Ri d TO x y:=Z
 refine K4<|MI Z rfl (K4<|wpAny_newTuple ?_);have sz:d.objs.size=s.heap.objs.size:=by rw[G.1,F.1,l.1,k.1,j.1]
 have z5:LM d z TI TO .ellipsis:=G.extBut _ _ D.TOz.symm<|F.extBut _ _ D.i2z.symm<|l.extBut _ _ D.TOz.symm<|k.extBut _ _ D.i1z.symm z1;have k5:∀c o,c≠z->c≠TO->c≠g->c≠h->s.heap.get? c=Y o->d.get? c=Y o:=λc o i P n3 n4 e=>G.extBut _ _ P<|F.extBut _ _ n4<|l.extBut _ _ P<|k.extBut _ _ n3<|j.extBut _ _ i e;have r5:ItO d M g p (n+1):=r2.at λo e=>G.extBut _ _ D.TOi1.symm<|F.extBut _ _ D.i12<|l.extBut _ _ D.TOi1.symm e;have t5:ItO d N h r (m+1):=r4.at λo e=>G.extBut _ _ D.TOi2.symm e;have H:z<d.objs.size:=Heap.lt_size z5;show QX _ _ (Builtin.SmallTypes.ownedTupleHandOut (.ref z) (.ref d.objs.size) >>= _) _ _ _;refine K4 ?_;unfold Builtin.SmallTypes.ownedTupleHandOut;have z6:LM (d.push {cls:=.type "tuple",data:=.seq #[x,y]}) z TI TO .ellipsis:=Heap.get?_push_of_some _ z5;refine K4<|Nz z6 (by simp) λg7 z7 s7=>?_
 replace z7:LM g7 z TI TO (MA d.objs.size):=z7
 refine Nz z7 (by simp) λt z8 s8=>?_
 replace z8:LM t z TI TO (MA d.objs.size):=z8
 have up:∀c o,c≠z->d.get? c=Y o->t.get? c=Y o:=λc o i e=>s8.extBut _ _ i<|s7.extBut _ _ i<|Heap.get?_push_of_some _ e;have p8:Ri t d.objs.size x y:=s8.extBut _ _ (MQ H)<|s7.extBut _ _ (MQ H)<|Heap.get?_push_size _ rfl;have e8:t.objs.size=d.objs.size+1:=by rw[s8.1,s7.1,Heap.size_push]
 rw[sz] at z8 p8 e8;refine Lc ⟨_,rfl,?_⟩;show Q (.ref d.objs.size) _;rw[sz];exact q t z8 (up _ _ D.TOz Z) (r5.at λo e=>up _ o D.i1z e) (t5.at λo e=>up _ o D.i2z e) p8 e8 λc o i P n3 n4 e=>up c o i<|k5 c o i P n3 n4 e
theorem vd {z TI TO k l r t:QS}{k1 k2:QT}{n m:O}{N P:Rg L}{a b:L}{Q:Fin->K2->Prop}(hh:A.handled=J)(D:RO z TI TO k l r t)
  (j:LM s.heap z TI TO .none) (hI:Ri s.heap TI (.ref k)<|.ref l) (hO:Ri s.heap TO a b) (h1:ItO s.heap k1 k r n) (h2:ItO s.heap k2 l t m) (q1:SqO s.heap k1 r N) (q2:SqO s.heap k2 t P) (i:N[n]?=J\/P[m]?=J)
  (q:∀F e,(∀c o,c≠z->c≠TO->c≠k->c≠l->s.heap.get? c=Y o->F.get? c=Y o)->(∃o,F.get? e=Y o/\o.cls=.type "StopIteration")->E (.ref e) {s with heap:=F}):
  QX (K5 prog w) A (ML.«zip.__next__» ⟨[.ref z],[]⟩) Q E s:=by
 show QX _ _ (RY (.ref z) 2 >>= _) _ _ _;refine K4<|L5 j rfl (x:=.bool K0) rfl ?_;show QX _ _ (RY (.ref z) 3 >>= _) _ _ _;refine K4<|L5 j rfl (x:=.ref TI) rfl (K4<|MI hI rfl ?_);show QX _ _ (Builtin.SmallTypes.ownedTupleIsFree (.ref z) >>= _) _ _ _;refine K4 ?_;unfold Builtin.SmallTypes.ownedTupleIsFree;refine K4<|L5 j rfl (x:=.none) rfl (Lc ?_);simp only[Rz];refine K4<|Nw<|K4<|L5 j rfl (x:=.ref TO) rfl (K4<|Nz j (by simp) λg1 z1 d=>?_)
 replace z1:LM g1 z TI TO .ellipsis:=z1
 refine K4 ?_;simp only[Qi,Qd,PB,Qh];refine K4<|K4<|Oc ?_;show QX _ _ (Builtin.SmallTypes.nextOf (.ref k) >>= _) _ _ _;cases hx:N[n]? with
 |none=>
  refine K4<|jo hh (h1.at λo e=>d.extBut _ _ D.i1z e) (q1.at λo e=>d.extBut _ _ D.l1z e) hx λv e f G=>?_;obtain⟨M,ho,h⟩:=G;have z2:LM v z TI TO .ellipsis:=f _ _ D.i1z.symm z1;have u:e≠z:=λy=>by subst y;rw[z2] at ho;cases ho;simp at h
  exact Nz z2 (by simp) λZ _ g=>q Z e (λc o p _ H _ y=>g.extBut _ _ p<|f _ _ H<|d.extBut _ _ p y) ⟨M,g.extBut _ _ u ho,h⟩
 |some x=>
  have hy:P[m]?=none:=i.elim (λy=>by rw[hx] at y;cases y) id;refine K4<|eQ (h1.at λo e=>d.extBut _ _ D.i1z e) (q1.at λo e=>d.extBut _ _ D.l1z e) hx λv r2 f=>Lc ?_;have p2:Ri v TO a b:=f.extBut _ _ D.TOi1<|d.extBut _ _ D.TOz hO;refine K4<|MI p2 rfl (K4<|OL p2 λZ p3 g=>K4<|wpAny_letGo<|Lc ?_);refine K4<|K4<|Oc ?_;show QX _ _ (Builtin.SmallTypes.nextOf (.ref l) >>= _) _ _ _;refine K4<|jo hh (h2.at λo e=>g.extBut _ _ D.TOi2.symm<|f.extBut _ _ D.i12.symm<|d.extBut _ _ D.i2z e) (q2.at λo e=>g.extBut _ _ D.l2TO<|f.extBut _ _ D.l2i1<|d.extBut _ _ D.l2z e) hy λg4 e s4 G=>?_;obtain⟨M,ho,h⟩:=G;have z4:LM g4 z TI TO .ellipsis:=s4 _ _ D.i2z.symm<|g.extBut _ _ D.TOz.symm<|f.extBut _ _ D.i1z.symm z1;have u:e≠z:=λy=>by subst y;rw[z4] at ho;cases ho;simp at h
  exact Nz z4 (by simp) λg5 _ s5=>q g5 e (λc o p n2 H n4 y=>s5.extBut _ _ p<|s4 _ _ n4<|g.extBut _ _ n2<|f.extBut _ _ H<|d.extBut _ _ p y) ⟨M,s5.extBut _ _ u ho,h⟩
theorem mX {z TI TO e f g h:QS}{i j:QT}{n m:O}{l p:Rg L}{x y a b:L}{Q:B L->K2->Prop}(D:RO z TI TO e f g h)
  (k:LM s.heap z TI TO .none) (u:Ri s.heap TI (.ref e)<|.ref f) (v:Ri s.heap TO a b) (r:ItO s.heap i e g n) (t:ItO s.heap j f h m) (H:SqO s.heap i g l) (M:SqO s.heap j h p) (hx:l[n]?=Y x) (G:p[m]?=Y y)
  (q:∀ d,LM d z TI TO (MA s.heap.objs.size)->Ri d TO x y->ItO d i e g (n+1)->ItO d j f h (m+1)->Ri d s.heap.objs.size x y->d.objs.size=s.heap.objs.size+1 ->
   (∀c o,c≠z->c≠TO->c≠e->c≠f->s.heap.get? c=Y o->d.get? c=Y o)->Q (Y<|.ref s.heap.objs.size) {s with heap:=d}):QX (K5 prog w) A (MH<|.ref z) Q E s:=by
 have hT:s.TypeIs (.ref z) "zip":=⟨_,k,rfl⟩;unfold MH;exact K4<|wpAny_attempt<|Nx (name:=Str.ofString "__next__") hT F.slot_zip_next<|Nc F.slot_zip_next hT F.entry_zip_next (qA D k u v r t H M hx G λd N P Z y4 y5 y6 y7=>Lc<|q d N P Z y4 y5 y6 y7)<|F.args_zip_next_1 _
theorem qx {z TI TO f g h i:QS}{l p:QT}{n m:O}{r t:Rg L}{a b:L}{Q:B L->K2->Prop}(M:A.handled=J)(D:RO z TI TO f g h i)
  (k:LM s.heap z TI TO .none) (x:Ri s.heap TI (.ref f)<|.ref g) (y:Ri s.heap TO a b) (u:ItO s.heap l f h n) (v:ItO s.heap p g i m) (N:SqO s.heap l h r) (P:SqO s.heap p i t) (d:r[n]?=J\/t[m]?=J)
  (q:∀j,(∀c o,c≠z->c≠TO->c≠f->c≠g->s.heap.get? c=Y o->j.get? c=Y o)->Q J {s with heap:=j}):QX (K5 prog w) A (MH<|.ref z) Q E s:=by
 have hT:s.TypeIs (.ref z) "zip":=⟨_,k,rfl⟩;unfold MH;refine K4<|wpAny_attempt<|Nx (name:=Str.ofString "__next__") hT F.slot_zip_next<|Nc F.slot_zip_next hT F.entry_zip_next (vd M D k x y u v N P d λj e hk H=>?_)<|F.args_zip_next_1 _;obtain⟨o,ho,G⟩:=H;exact K4<|wpAny_isInstance (T:="StopIteration") (b:=K1) ⟨o,ho,G⟩ isSubtype_stop<|Lc<|q _ hk
end
noncomputable def qv (k:QT)(a:QS):Obj:=match k with
|true=>{cls:=.type "tuple_iterator",data:=.fields #[.ref a,.int 0 0]}
|false=>{cls:=.type "list_iterator",data:=.fields #[.ref a,.int 0 0]}
abbrev zO1 (h:Q5)(b:QT)(a:QS):Q5:=h.push<|qv b a
abbrev zO2 (h:Q5)(c d:QT)(a b:QS):Q5:=(zO1 h c a).push<|qv d b
abbrev zO3 (h:Q5)(b d:QT)(a c:QS):Q5:=(zO2 h b d a c).push {cls:=.type "tuple",data:=.seq #[.ref h.objs.size,.ref (zO1 h b a).objs.size]}
abbrev zO4 (h:Q5)(c d:QT)(a b:QS):Q5:=(zO3 h c d a b).push {cls:=.type "tuple",data:=.seq #[.none,.none]}
abbrev zO5 (h:Q5)(c d:QT)(a b:QS):Q5:=(zO4 h c d a b).push {cls:=.type "zip",data:=.fields #[.none,.bool K0,.bool K0,.ref (zO2 h c d a b).objs.size,.ref (zO3 h c d a b).objs.size]}
theorem nV (i j:QT)(a b:QS)(e f:Rg L):
  Meets (ML.«zip.__new__» ⟨[.type "zip",.ref a,.ref b],[]⟩) (λ_ R s=>SqO s.heap i a e/\SqO s.heap j b f/\R (.ok<|.ret<|.ref (zO4 s.heap i j a b).objs.size) {s with heap:=zO5 s.heap i j a b}):=
 .of_wp λprog w A R s h=>by
  obtain⟨hp,g,d,c,os⟩:=s;obtain⟨k,l,h⟩:=h;have m:=sub_zip;cases i<;>cases j
  .have e1:Heap.IsList (Shared.heap ⟨hp,g,d,c,os⟩) a e:=k;have e2:Heap.IsList (Shared.heap ⟨hp.push {cls:=.type "list_iterator",data:=.fields #[.ref a,.int 0 0]},g,d,c,os⟩) b f:=Heap.IsList.push l _
   wp_walk using Nf e1,Nf e2
   exact⟨_,rfl,h⟩
  .have e1:Heap.IsList (Shared.heap ⟨hp,g,d,c,os⟩) a e:=k;have e2:Heap.IsTuple (Shared.heap ⟨hp.push {cls:=.type "list_iterator",data:=.fields #[.ref a,.int 0 0]},g,d,c,os⟩) b f:=Heap.IsTuple.push l _
   wp_walk using Nf e1,MY e2
   exact⟨_,rfl,h⟩
  .have e1:Heap.IsTuple (Shared.heap ⟨hp,g,d,c,os⟩) a e:=k;have e2:Heap.IsList (Shared.heap ⟨hp.push {cls:=.type "tuple_iterator",data:=.fields #[.ref a,.int 0 0]},g,d,c,os⟩) b f:=Heap.IsList.push l _
   wp_walk using MY e1,Nf e2
   exact⟨_,rfl,h⟩
  .have e1:Heap.IsTuple (Shared.heap ⟨hp,g,d,c,os⟩) a e:=k;have e2:Heap.IsTuple (Shared.heap ⟨hp.push {cls:=.type "tuple_iterator",data:=.fields #[.ref a,.int 0 0]},g,d,c,os⟩) b f:=Heap.IsTuple.push l _
   wp_walk using MY e1,MY e2
   exact⟨_,rfl,h⟩
theorem oC {h:Q5}{k:QT}{b a:QS}(e:h.get? b=Y (qv k a)):ItO h k b a 0:=by cases k<;>exact⟨_,e,rfl,rfl⟩
theorem jI (k:QT)(a:QS):(qv k a).isFreed=false:=by cases k<;>rfl
section
variable {prog:QZ}{w:K6}{A:Lj}{E:L->K2->Prop}{s:K2}
theorem yq {b e:QT}{a d:QS}{m n:Rg L}{Q:L->K2->Prop}(r:SqO s.heap b a m)(t:SqO s.heap e d n)
  (h:∀ f,LM f (s.heap.objs.size+4) (s.heap.objs.size+2) (s.heap.objs.size+3) .none->Ri f (s.heap.objs.size+2) (.ref s.heap.objs.size) (.ref (s.heap.objs.size+1)) ->
   Ri f (s.heap.objs.size+3) .none .none->ItO f b s.heap.objs.size a 0->ItO f e (s.heap.objs.size+1) d 0->(∀c o,s.heap.get? c=Y o->f.get? c=Y o)->Q (.ref<|s.heap.objs.size+4) {s with heap:=f}):
  QX (K5 prog w) A (call (.type "zip") [.ref a,.ref d]) Q E s:=by
 refine callType_new F.called_zip (by decide) (F.typeCall_zip_2 _ _) (F.newCall_zip_2 _ _) (λobj=>F.args_object_init_3 obj _ _) F.entry_zip_new (nV b e a d m n) ⟨r,t,?_⟩;have e1:(zO1 s.heap b a).objs.size=s.heap.objs.size+1:=Heap.size_push ..;have e2:(zO2 s.heap b e a d).objs.size=s.heap.objs.size+2:=by rw[Heap.size_push,e1]
 have e3:(zO3 s.heap b e a d).objs.size=s.heap.objs.size+3:=by rw[Heap.size_push,e2]
 have i:(zO4 s.heap b e a d).objs.size=s.heap.objs.size+4:=by rw[Heap.size_push,e3]
 have g:(zO5 s.heap b e a d).get? (zO4 s.heap b e a d).objs.size=Y _:=Heap.get?_push_size _ rfl;have l:(zO5 s.heap b e a d).get? (zO3 s.heap b e a d).objs.size=Y _:=Heap.get?_push_of_some _<|Heap.get?_push_size _ rfl;have k:(zO5 s.heap b e a d).get? (zO2 s.heap b e a d).objs.size=Y _:=Heap.get?_push_of_some _<|Heap.get?_push_of_some _<|Heap.get?_push_size _ rfl;have j:(zO5 s.heap b e a d).get? (zO1 s.heap b a).objs.size=Y (qv e d):=Heap.get?_push_of_some _<|Heap.get?_push_of_some _<|Heap.get?_push_of_some _<|Heap.get?_push_size _<|jI e d;have p:(zO5 s.heap b e a d).get? s.heap.objs.size=Y (qv b a):=Heap.get?_push_of_some _<|Heap.get?_push_of_some _<|Heap.get?_push_of_some _<|Heap.get?_push_of_some _<|Heap.get?_push_size _<|jI b a;show _/\_;rw[e2,e3,i] at g;rw[e1,e2] at k;rw[e3] at l;rw[e1] at j;rw[i];exact⟨⟨_,g,rfl⟩,h _ g k l (oC p) (oC j) λc o x=>Heap.get?_push_of_some _<|Heap.get?_push_of_some _<|Heap.get?_push_of_some _<|Heap.get?_push_of_some _<|Heap.get?_push_of_some _ x⟩
end
def Sq (K:K3)(H:Hp):QT->QS->U V->Prop
|true,a,b=>SqT K H a b
|false,a,b=>SqL K H a b
section
variable {X:Cx}{pins:U (QS×Obj)}{σ:L2.St}{H:Hp}{s:K2}
theorem qd (b:Inv X pins σ H s){k:QT}{a:QS}{d:U V}(h:Sq X.K H k a d):∃c:U L,Vals d c/\SqO s.heap k a c.toArray/\d.length<=sizeLine:=by
 cases k with
 |true=>obtain⟨c,r,p,z⟩:=b.tuple h;exact⟨c,r,p,z⟩
 |false=>obtain⟨c,r,p,z⟩:=b.list h;exact⟨c,r,p.isList,z⟩
theorem oP (b:Inv X pins σ H s){k:QT}{a:QS}{d e:U V}(h:Sq X.K H k a d)(c:Sq X.K H k a e):d=e:=by
 cases k with
 |true=>exact b.tuple_inj h c
 |false=>exact b.list_inj h c
theorem iS {f:Q5}{ch:U QS}(a:Inv X pins σ H s)(h:∀b∈ch,H b=J)(k:∀b o,b ∉ ch->s.heap.get? b=Y o->f.get? b=Y o):HOk X.prog X.w H f:=λb u e=>by
 have d:∀b u,H b=Y u->b ∉ ch:=λb u e z=>by rw[h b z] at e;cases e
 refine(a.hok b u e).stay (λc v g q=>k c v ?_ q) (λ_ q=>q) λ_ _ q=>q;rcases g with z|z
 .rw[z];exact d b u e
 .exact d c _ z
theorem gG {g:Q5}{t':O}{ch:U QS}(a:Inv X pins σ H s)(d:∀b∈ch,iW X pins H b)(k:∀b o,b ∉ ch->s.heap.get? b=Y o->g.get? b=Y o):Inv X pins σ H {s with heap:=g,toks:=t'}:=by
 refine a.step (g':=s.gens) (d':=s.drawn) (ch:=ch) (λb c=>⟨(d b c).2.2.2.1,(d b c).2.1,(d b c).2.2.2.2.1,(d b c).2.2.2.2.2⟩) (λb o _ _ f e _=>k b o f e) (λb o _ _ f e _=>⟨o.slots,k b o f e⟩) (λ_ _ _ _ n=>n)
  (λb o f e=>⟨o,k b o f e⟩) (λ_ _ e=>e) (λ_ _ _ e=>e) (λb ps e=>⟨#[],by rw[e];simp⟩) (λm i=>?_) (iS a (λb c=>(d b c).1) k) a.bare
 obtain⟨o,h,ep,ho,r⟩:=i;exact⟨o,h,ep,k _ o (λz=>(d _ z).2.1 rfl) ho,r⟩
theorem eh {i:Q5}{t':O}{ch:U QS}{a:QS}{j:U V}{d:U L}(c:Inv X pins σ H s)(g:∀b∈ch,iW X pins H b)(k:∀b o,b ∉ ch->s.heap.get? b=Y o->i.get? b=Y o)
  (l:s.heap.objs.size<=a) (x:j.length<=sizeLine) (w:Vals j d) (v:RB i a d.toArray):Inv X pins σ (upd H a<|.tup j) {s with heap:=i,toks:=t'}:=by
 have fr:H a=none:=c.hok.fresh l;have y:∀b o,s.heap.get? b=Y o->b≠a:=λb o e=>Lp<|LD (Heap.lt_size e) l
 refine c.step (g':=s.gens) (d':=s.drawn) (ch:=ch) (λb f=>⟨(g b f).2.2.2.1,(g b f).2.1,(g b f).2.2.2.2.1,(g b f).2.2.2.2.2⟩) (λb o _ _ h e _=>k b o h e) (λb o _ _ h e _=>⟨o.slots,k b o h e⟩) (λb o _ e n=>by rw[ag<|y b o e];exact n)
  (λb o h e=>⟨o,k b o h e⟩) (λb u e=>by rw[ag<|aQ e fr];exact e) (λb o u e=>by rw[ag<|aQ e fr];exact e) (λb ps e=>⟨#[],by rw[ag<|aQ e fr,e];simp⟩) (λm t=>?_)
  (i7 (iS c (λb f=>(g b f).1) k) fr ⟨x,d,w,v⟩) c.bare
 obtain⟨o,p,ep,ho,r⟩:=t;exact⟨o,p,ep,k _ o (λz=>(g _ z).2.1 rfl) ho,r⟩
end
def Itz (K:K3)(e f:QT)(c d:QS):It:=
 ⟨fun i H=>∃ a b x y,Sq K H e c a/\Sq K H f d b/\a[i]?=Y x/\b[i]?=Y y,
  λi H v g=>∃p x y,v=.ref p/\H p=J/\g=upd H p (.tup [x,y])/\(∀a,Sq K H e c a->a[i]?=Y x)/\∀b,Sq K H f d b->b[i]?=Y y,
  λi H=>∃a b,Sq K H e c a/\Sq K H f d b/\(a.length<=i\/b.length<=i)⟩
def ZSt (z TI TO c d:QS)(g j:QT)(e f:QS)(i:O)(h:Q5):Prop:=
 LM h z TI TO .none/\Ri h TI (.ref c) (.ref d)/\(∃a b,Ri h TO a b)/\ItO h g c e i/\ItO h j d f i
theorem t9 {P:QZ}{w:K6}{K:K3}{es:U Q1}{kt:O}{pt:Pos}{z TI TO t u a1 a2:QS}{k1 k2:QT}(D:RO z TI TO t u a1 a2):
  qr P w K (.Tuple es kt pt) (Itz K k1 k2 a1 a2) [z,TI,TO,t,u] z (ZSt z TI TO t u k1 k2 a1 a2) where
 mem:=by simp
 obj:=λi h l b f=>by
  obtain⟨m,j,⟨a,c,n⟩,p,r⟩:=l;simp only[Lm,LY,Rm] at f;rcases f with rfl|rfl|rfl|rfl|rfl
  .exact⟨_,m,λv y=>by cases y⟩
  .exact⟨_,j,λv y=>by cases y⟩
  .exact⟨_,n,λv y=>by cases y⟩
  .exact p.obj
  .exact r.obj
 keep:=λi h M l k=>by obtain⟨m,j,⟨a,c,n⟩,p,r⟩:=l;exact⟨k z (by simp) _ m,k TI (by simp) _ j,⟨a,c,k TO (by simp) _ n⟩,p.at λo e=>k t (by simp) o e,r.at λo e=>k u (by simp) o e⟩
 item:=by
  intro X hP hw hK hc i G s σ H E d N l hg;subst hP hw hK;obtain⟨xs,ys,x,y,Q,Z,hx,hy⟩:=hg;obtain⟨m,j,⟨a,c,n⟩,p,r⟩:=l;obtain⟨A,v1,o1,z1⟩:=qd d Q;obtain⟨F,v2,o2,z2⟩:=qd d Z;obtain⟨u1,e1,r1⟩:=v1.get hx;obtain⟨u2,e2,r2⟩:=v2.get hy
  have lt:∀b∈[z,TI,TO,t,u],b<s.heap.objs.size:=λb f=>by
   simp only[Lm,LY,Rm] at f;rcases f with rfl|rfl|rfl|rfl|rfl
   .exact Heap.lt_size m
   .exact Heap.lt_size j
   .exact Heap.lt_size n
   .obtain⟨o,e,_⟩:=p.obj;exact Heap.lt_size e
   .obtain⟨o,e,_⟩:=r.obj;exact Heap.lt_size e
  refine mX D m j n p r o1 o2 (x:=u1) (y:=u2) (by simpa using e1) (by simpa using e2) λM y1 y2 y3 y4 y5 y6 y7=>⟨_,rfl,?_⟩;refine wpAny_letOwnedTupleGo_zip (s:={s with heap:=M}) y1 λh2 w1 sb=>?_;have g:Heap.SameBut z M h2:=sb;have nz:s.heap.objs.size≠z:=MQ (lt z<|by simp);have kk:∀b o,b ∉ [z,TI,TO,t,u]->s.heap.get? b=Y o->h2.get? b=Y o:=λb o f e=>by simp only[Lm,LY,Rm,not_or] at f;exact(g.2 b f.1).trans<|y7 b o f.1 f.2.2.1 f.2.2.2.1 f.2.2.2.2 e
  have tp:RB h2 s.heap.objs.size [u1,u2].toArray:=⟨_,(g.2 _ nz).trans y5,rfl,_,rfl⟩
  refine⟨.ref s.heap.objs.size,upd H s.heap.objs.size<|.tup [x,y],eh (s:=s) (t':=s.toks) d N kk (La _) (by show 2<=sizeLine;decide) (.cons r1<|.cons r2 .nil) tp,rfl,
   ⟨_,x,y,rfl,d.fresh,rfl,λzs hz=>by rw[oP d hz Q];exact hx,λzs hz=>by rw[oP d hz Z];exact hy⟩,?_,λb f=>?_⟩
  .exact⟨w1,(g.2 _ D.TIz).trans<|y7 _ _ D.TIz D.TITO D.TIi1 D.TIi2 j,⟨_,_,(g.2 _ D.TOz).trans y2⟩,y3.at λo e=>(g.2 _ D.i1z).trans e,y4.at λo e=>(g.2 _ D.i2z).trans e⟩
  .rw[ag<|Lp<|lt b f];exact(N b f).1
 done:=by intro X hP hw hK hc i G s σ H E d N l hg;subst hP hw hK;obtain⟨xs,ys,Q,Z,hl⟩:=hg;obtain⟨m,j,⟨a,c,n⟩,p,r⟩:=l;obtain⟨A,v1,o1,z1⟩:=qd d Q;obtain⟨F,v2,o2,z2⟩:=qd d Z;have l1:=v1.length;have l2:=v2.length;refine qx (d.ok.hd hc) D m j n p r o1 o2 (hl.imp (λq=>by simp;lia) λq=>by simp;lia) λM hk=>⟨rfl,gG (t':=s.toks) d N λb o f e=>?_⟩;simp only[Lm,LY,Rm,not_or] at f;exact hk b o f.1 f.2.2.1 f.2.2.2.1 f.2.2.2.2 e
 self:=λ_ _ _ _ _ l h=>wpAny_pyIter_zip l.1 h
section
variable {X:Cx}
def Ir (K:K3)(f:TA):TI:=λj H R=>f j H λg a=>∃d e b c,g=[.ref b,.ref c]/\(∃h,Sq K a d b h)/\(∃i,Sq K a e c i)/\R (Itz K d e b c) a
theorem CU {a b:Q1}{x:TA}{p j pt:Pos}{z:U Q1}{P:O}(F:Gl X "zip")(G:X.mg "zip"=J)(D:PA X [a,b] x)(M:K7 [a,b] X.env=[(K0,Q9 a X.env),(K0,Q9 b X.env)]:=by rfl)(g:K7 [b] X.env=[(K0,Q9 b X.env)]:=by rfl):
  PI X (.Tuple z P pt) (.Call (.Name "zip" p) [a,b] [] j) (Ir X.K x):=by
 intro i s σ H R c h;refine Call_ (fT c F G boot_zip<|Oz (thn (D j i s σ H _ c h) λus m ⟨vs,y,d,r1,k⟩=>?_) (by rw[M,g])<|by rw[g];rfl);obtain⟨k1,k2,a1,a2,rfl,⟨xs,n⟩,⟨ys,o⟩,q⟩:=k;cases r1 with
 | cons r l =>
  cases l with
  | cons r' l =>
   cases l;cases r;cases r';obtain⟨u,v1,w,z1⟩:=qd d n;obtain⟨v,v2,o2,z2⟩:=qd d o;refine yq w o2 λA k Q Z q4 q5 N=>?_;refine wpAny_pyIter_zip (s:={m with heap:=A}) k ?_;refine⟨_,_,_,_,y,rfl,d.kept (t':=m.toks) N,t9<|zipApart_new w.lt o2.lt,⟨k,Q,⟨_,_,Z⟩,q4,q5⟩,λb t=>?_,q⟩;have f:m.heap.objs.size<=b:=by simp only[Lm,LY,Rm] at t;rcases t with e|e|e|e|e<;>(rw[e];first|exact Pz _ _|exact La _)
   exact d.fpOk f<|d.hok.fresh f
end
structure aF (pre ys:U Str)(scope:Rj):Prop where
 kind:scope.kind=.function
 cell:∀y∈scope.names,y.2≠.cell
 nm:∀y∈scope.names,y.2=.local->scope.names.lookup y.1=Y .local
 loc:∀x∈pre,scope.names.lookup x=Y .local
 nd:(pre++ys).Nodup
theorem uz {pre:U Str}{b:L2.St}{j:O}{v:V}(e:(Lo pre.length J++b)[j]?=Y (Y v)):∃i,j=pre.length+i/\b[i]?=Y (Y v):=by
 by_cases a:j<pre.length
 .rw [N3<|by rw [M6]; exact a,Pg,QY a] at e;cases LG e
 .refine ⟨j-pre.length,by lia,?_⟩;rw[N4<|by rw[M6];lia,M6] at e;exact e
theorem q8 {X:Cx}{t:U<|QS×Obj}{σ:L2.St}{H:Hp}{s:K2}{pre D:U Str}{is:U O}{g:Rj}{A:U<|Str×QS}{Z:U QS}{C:QS}{h1:Q5}{t1:O}{m1:Str->B L}
  (f:Inv X t σ H s) (N:∀b∈Z,iW X t H b) (hfo:∀b∈Z,b<s.heap.objs.size) (S:aF pre D g) (h:Clo X A)
  (hfr:(g.names.all λp=>p.2 != .free || (A.lookup p.1).isSome)=K1) (fr:Frees X g A D is)
  (M:s.heap.objs.size<=C) (m:∀b o,s.heap.get? b=Y o->h1.get? b=Y o) (hn:h1.Ns C m1):
  Inv (ax X (pre++D) g A C s H Z) t (Lo pre.length J++cY σ is) H {s with heap:=h1,toks:=t1}:=by
 have G:∀b,b≠X.env.locals->b ∉ X.fs->b ∉ frs X.stack:=λb q1 q2 w=>(Lm.mp<|f.stkSub b w).elim q1 q2
 have F:∀a k,(M8 g X.env).names.lookup a=Y k->(k=.cell\/k=.free)->∃c,A.lookup a=Y c:=λa k e hk=>by
  have hm:=NC e;obtain⟨⟨n,k0⟩,hp,ep⟩:=LR.mp hm
  have hk0:k0=.free/\n=a:=by
   dsimp only at ep;split at ep
   .rename_i hc;simp only[Li] at hc;exact⟨eq_of_beq hc.1.1,(Ql ep).1⟩
   .obtain ⟨e1,e2⟩:=Ql ep;subst e2;rcases hk with z|z
    .exact QW z (S.cell _ hp)
    .exact⟨z,e1⟩
  obtain⟨z1,z2⟩:=hk0;subst z1 z2;have q:=MV.mp hfr _ hp;have q2:(A.lookup n).isSome=true:=by simpa using q
  exact Qn.mp q2
 refine⟨⟨f.ok.mod,S.kind,f.ok.glob,f.ok.blt,M,λa b c e1 e2=>f.ok.inj a b c (h.get e1)<|h.get e2,λa ha=>?_,λa c e=>QW e LA,f.ok.hd,f.ok.frames,.inl rfl,
   λb w=>⟨Lp<|LD (hfo b w) M,λa c e=>(N b w).2.2.2.2.1 a c<|h.get e⟩,f.bs,Lf f.ok.bsz f.sz,λb o e w=>?_,λb w=>G b (N b w).2.1 (N b w).2.2.1,f.stack,f.stkFree⟩,
  rfl,f.bare,Un.kept m,⟨m1,hn,λj y v e1 e2 e3=>?_⟩,λa c e=>?_,f.hok.fresh M,λa c e=>f.freeC a c<|h.get e,λp hp=>?_,f.hok.kept m,?_⟩
 .rcases ha with e | e
  .exact F a _ e (.inl rfl)
  .exact F a _ e (.inr rfl)
 .rcases (N b w).2.2.2.1 with z | z
  .exact f.ok.noex b o e z
  .exact QW (LD (Heap.lt_size (f.ok.bs b o e).1) z) (Nq _)
 .obtain ⟨k,rfl,Q⟩:=uz e2;have P:D[k]?=Y y:=by have x:(pre++D)[pre.length+k]?=Y y:=e1;rw[N4 (by lia),Nat.add_sub_cancel_left] at x;exact x
  obtain⟨i,c,g1,g2,g3,g4,g5,g6,g7⟩:=fr.get (σ:=σ) P Q;obtain⟨m0,hn0,hl0⟩:=f.loc;obtain⟨u,r,l⟩:=hl0 i y v g1 g2 g3;rcases l with⟨k,_⟩|⟨_,c',e',z⟩
  .rcases g4 with q | q
   .rw[k] at q;cases q
   .rw[k] at q;cases q
  .rw [g5] at e';cases e';obtain⟨o,ho,hd⟩:=z;exact⟨u,r,.inr ⟨g7,c,g6,⟨o,m _ _ ho,hd⟩⟩⟩
 .obtain ⟨v,o,ho,hd⟩:=f.cell a c<|h.get e;exact⟨v,o,m _ _ ho,hd⟩
 .obtain ⟨e,n,ne,nf,d⟩:=f.pin p hp;exact⟨m _ _ e,n,Lp<|LD (Heap.lt_size e) M,G _ ne nf,d⟩
 .show (Lo pre.length J++cY σ is).length=(pre++D).length;unfold cY;rw[K8,K8,M6,K9,fr.len]
section
variable {prog:QZ}{w:K6}{A:Lj}{R:Result->K2->Prop}{s:K2}
theorem kP {u P j f:Q1}{c:Rj}{M:Pos}{N t:L}{b:Env}(a:O->K2->Prop)
  (turn:∀ n s,a n s->QX (K5 prog w) A (MH N) (fun r d=>match r with
   |none=>R (.ok .next) d
   | some v=>QX (K5 prog w) A (Ny P N v) (fun _ k=>QX (K5 prog w) A (Mk P b v) (fun _ l=>QX (K5 prog w) A (RR f b (Q9 f b)) (fun ok e=>if ok=K1 then
     QX (K5 prog w) A (Q9 u b) (λy o=>QX (K5 prog w) A (call (.builtin "list.append") [t,y]) (λ_ p=>∃m,m<n/\a m p) noX o) noX e else∃m,m<n/\a m e) noX l) noX k) noX d) noX s)
  (n:O) (h:a n s):MM (K5 prog w) A (.compLoop (.ListComp u [⟨P,j,[f],0⟩] c M) 0 N t b) R s:=by
 refine codeAny_loop rfl a (λn s Q=>?_) n h;show QX _ A ((compTurn (.ListComp u [⟨P,j,[f],0⟩] c M) 0 N t b).onRaise (λx=>do noteFrame x b;theTreesLotGoes x)) _ _ s;refine wpAny_noted ?_;rw[compTurn_list];refine K4<|Od<|K4<|Ly (turn n s Q) (λr d g=>?_) λ_ _ z=>z.elim;cases r with
 |none=>exact Lc g
 |some v=>
  refine K4<|Ly g (λ_ k D=>?_) λ_ _ z=>z.elim;refine K4<|Ly D (λ_ l F=>?_) λ_ _ z=>z.elim;refine K4<|wpAny_tests_one<|Ly F (λok e i=>?_) λ_ _ z=>z.elim;cases ok with
  |true=>exact K4<|K4<|Ly i (λy o G=>K4<|Ly G (λ_ p H=>Lc<|Lc ⟨rfl,H⟩) λ_ _ z=>z.elim) λ_ _ z=>z.elim
  |false=>exact K4<|Lc<|Lc ⟨rfl,i⟩
end
end L3

namespace L3
open PySem PySem.Spec PyProof.Rows L2
def xS (n:O)(a:It)(g:TG)(o:TT)(r:TE)(c:L2.St)(j:Hp)(Q:VK):Prop:=∃W:O->O->U V->Hp->Prop,(∃m,W 0 m [] j)/\∀i m d H,W i m d H ->
 (a.stop i H/\d.length<=sizeLine/\∀p,H p=J->Q (.ref p) (upd H p<|.lst d)) \/
 (a.go i H/\d.length<sizeLine/\∀x f,a.yld i H x f->g x (Lo n J++c) f λb k=>(b.length=n+c.length/\b.drop n=c)/\o b k λok h=>if ok=K1 then r b h λy l=>∃e,e<m/\W (i+1) e (d++[y]) l else∃e,e<m/\W (i+1) e d h)
def oS (n:O)(a:It)(g:TG)(l:TE)(b:L2.St)(h:Hp)(Q:VK):Prop:=∃W:O->O->U V->Hp->Prop,(∃m,W 0 m [] h)/\∀i m d H,W i m d H ->
 (a.stop i H/\d.length<=sizeLine/\∀p,H p=J->Q (.ref p) (upd H p<|.lst d)) \/
 (a.go i H/\d.length<sizeLine/\∀x e,a.yld i H x e->g x (Lo n J++b) e λc j=>(c.length=n+b.length/\c.drop n=b)/\l c j λy k=>∃f,f<m/\W (i+1) f (d++[y]) k)
def fZ (n:O)(h:TI)(d:U O)(g:TG)(e:TT)(f:TE):TE:=λb H Q=>h b H λa c=>xS n a g e f (cY b d) c Q
def b8 (n:O)(f:TI)(d:U O)(g:TG)(e:TE):TE:=λb H Q=>f b H λa c=>oS n a g e (cY b d) c Q
theorem sY {n:O}{b a:L2.St}(h:b.drop n=a){j:O}{w:V}(e:(Lo n J++a)[j]?=Y (Y w)):b[j]?=Y (Y w):=by
 by_cases c:j<n
 .rw [N3<|by simpa using c,Pg,QY c] at e;cases LG e
 .rw [N4<|by simpa using c,M6,<- h,List.getElem?_drop,Nat.add_sub_cancel'<|by lia] at e;exact e
def CW (X:Cx)(cs:U Q1)(k:QT->K2->Prop)(s:K2):Prop:=match cs with
|[]=>k K1 s
|[c]=>QX (K5 X.prog X.w) X.A (RR c X.env<|Q9 c X.env) k noX s
|_=>Q6
def PC (X:Cx)(cs:U Q1)(e:TT):Prop:=∀(a:U<|QS×Obj) (s:K2) (b:L2.St) (H:Hp) (Q:QT->Hp->Prop),Inv X a b H s->e b H Q->CW X cs (λok d=>∃c,Inv X a b c d/\Q ok c) s
theorem CW.mono {X:Cx}{cs:U Q1}{k a:QT->K2->Prop}{s:K2}(h:CW X cs k s)(w:∀b s,k b s->a b s):CW X cs a s:=by
 match cs,h with
 |[],h=>exact w _ _ h
 |[c],h=>exact Ly h w λ_ _ z=>z
theorem lH {X:Cx}{g x i:Q1}{cs:U Q1}{e:Rj}{u:Pos}{t f:L}{R:Result->K2->Prop}{s:K2}(a:O->K2->Prop)
  (turn:∀ n s,a n s->QX (K5 X.prog X.w) X.A (MH t) (fun r b=>match r with
   |none=>R (.ok .next) b
   | some v=>QX (K5 X.prog X.w) X.A (Ny x t v) (fun _ j=>QX (K5 X.prog X.w) X.A (Mk x X.env v) (fun _ k=>CW X cs (fun ok d=>if ok=K1 then
     QX (K5 X.prog X.w) X.A (Q9 g X.env) (λy l=>QX (K5 X.prog X.w) X.A (call (.builtin "list.append") [f,y]) (λ_ o=>∃m,m<n/\a m o) noX l) noX d else∃m,m<n/\a m d) k) noX j) noX b) noX s)
  (n:O) (h:a n s) (p:cs.length<=1):MM (K5 X.prog X.w) X.A (.compLoop (.ListComp g [⟨x,i,cs,0⟩] e u) 0 t f X.env) R s:=by
 match cs,p with
 |[],_=>exact nK a turn n h
 |[c],_=>exact kP a turn n h
theorem l6 {X:Cx}{elt Z tg:Q1}{cs:U Q1}{pre:U Str}{pos:Pos}{l:Rj}{P:U<|Str×QS}{ys:U Str}{is:U O}{wi:TI}{g:TG}{te:TE}{tc:TT}{use:B<|L->Sem Unit}{Q:VK}{Qp:L->K2->Prop}{t:U<|QS×Obj}{s:K2}{σ:L2.St}{H:Hp}{ip:Pos}
  (hc:X.calm=K1) (hi:PI X tg Z wi) (hg:∀C s H G,PG (ax X (pre++ys) l P C s H G) tg g) (he:∀C s H G,PE (ax X (pre++ys) l P C s H G) elt te) (hcd:∀C s H G,PC (ax X (pre++ys) l P C s H G) cs tc) (hcs:cs.length<=1)
  (hclos:My l X.env=pure P) (S:aF pre ys l) (hcl:Clo X P) (hfr:(l.names.all λp=>p.2 != .free || (P.lookup p.1).isSome)=K1) (fr:Frees X l P ys is) (hs:∀v,Mb Z X.env v=pure v)
  (fin:∀(s4:K2) (Hn:Hp) (D k:QS) (m4:Str->B L),Inv X t σ Hn s4->s4.heap.Ns k m4->k≠X.env.locals->(∀a c,X.env.cells.lookup a=Y c->c≠k)->Hn k=J->X.s₀.heap.objs.size<=k->(∀p∈X.pn++t,p.1≠k)->Q (.ref D) Hn->compPost (K5 X.prog X.w) X.A X.xe use Qp (.ref D) k (.ok .next) s4)
  (d:Inv X t σ H s) (h:fZ pre.length wi is g tc te σ H Q):
  QX (K5 X.prog X.w) X.A (RH (.ListComp elt [⟨tg,Z,cs,0⟩] l pos) l X.env ip (newList []) K0 (Q9 Z X.env) use) Qp X.xe s:=by
 refine wpAny_comprehension_free (use:=use) rfl hs hclos S.kind S.nm (thn (hi t s σ H _ d h) λxv s1 h1=>thn h1 λitv m h2=>?_);obtain⟨it,G,tn,f,N,rfl,I2,T,st2,f2,W,⟨m0,w0⟩,turn⟩:=h2;have fpo:∀b∈G,b<m.heap.objs.size:=λb x=>by obtain⟨o,e,_⟩:=T.obj _ _ st2 b x;exact Heap.lt_size e
 refine Nd<|wpAny_newFunctionEnv S.cell (λy hy=>by cases hy) (λg' hns hsb=>?_) S.kind;dsimp only at hns hsb ⊢;generalize hP2:m.heap.push {cls:=.type "list",dict:=J,data:=.seq ([]:U L).toArray}=P2 at hns hsb ⊢;have hCs:P2.objs.size=m.heap.objs.size+1:=by rw[<- hP2,Heap.size_push]
 have hDC:m.heap.objs.size≠P2.objs.size:=by lia
 have hle:m.heap.objs.size<=P2.objs.size:=by lia
 have nc:∀b o,m.heap.get? b=Y o->b≠P2.objs.size:=λb o e=>Lp<|LD (Heap.lt_size e) hle;have nd:∀b o,m.heap.get? b=Y o->b≠m.heap.objs.size:=λb o e=>Lp<|Heap.lt_size e;have ndH:∀b u,N b=Y u->b≠m.heap.objs.size:=λb u e=>Lp<|I2.hok.lt e;have old:∀b o,m.heap.get? b=Y o->g'.get? b=Y o:=λb o e=>hsb.extBut b o (nc b o e)<|Heap.get?_push_of_some _<|hP2 ▸ Heap.get?_push_of_some _ e;have accD:g'.get? m.heap.objs.size=Y (jR []):=hsb.extBut _ _ hDC<|Heap.get?_push_of_some _<|hP2 ▸ Heap.get?_push_size _ rfl;have stkD:m.heap.objs.size ∉ frs X.stack:=λx=>(Lm.mp<|I2.stkSub _ x).elim (λz=>QW z<|MQ I2.lt)<|I2.nofs<|La _;generalize hσ':cY σ is=σ' at turn;have I3:Inv (ax X (pre++ys) l P P2.objs.size m N G) t (Lo pre.length J++σ') N {m with heap:=g',toks:=m.toks+([]:U<|Str×L).length}:=by rw[<- hσ'];exact q8 (pre:=pre) I2 f2 fpo S hcl hfr fr hle old hns
 have stat:∀{H':Hp} {o:Obj},(∀b∈G,H' b=J)->∀b∈G,iW (ax X (pre++ys) l P P2.objs.size m N G) (t++[(m.heap.objs.size,o)]) H' b:=λ{H' o} hn b x=>by
  refine⟨hn b x,Lp<|LD (fpo b x) hle,λz=>(Lm.mp<|I2.stkSub _ z).elim (f2 b x).2.1 (f2 b x).2.2.1,.inl x,λa c e=>(f2 b x).2.2.2.2.1 a c<|hcl.get e,λp hp=>?_⟩;rcases LL.mp hp with z|z
  .exact(f2 b x).2.2.2.2.2 p<|Mv _ z
  .rcases LL.mp z with z | z
   .exact(f2 b x).2.2.2.2.2 p<|Lw _ z
   .rw [Lv.mp z];exact MQ<|fpo b x
 have loop:MM (K5 X.prog X.w) X.A (.compLoop (.ListComp elt [⟨tg,Z,cs,0⟩] l pos) 0 (.ref it) (.ref m.heap.objs.size) (compEnvC l P P2.objs.size X.env))
   (compPost (K5 X.prog X.w) X.A X.xe use Qp (.ref m.heap.objs.size) P2.objs.size) {m with heap:=g',toks:=m.toks+([]:U<|Str×L).length}:=by
  refine lH (X:=ax X (pre++ys) l P P2.objs.size m N G) (λn s'=>∃i zs F H',Inv (ax X (pre++ys) l P P2.objs.size m N G) t (Lo pre.length J++σ') H' s'/\tn i s'.heap/\(∀b∈G,H' b=J)/\s'.heap.get? m.heap.objs.size=Y (jR F)/\Vals zs F/\H' m.heap.objs.size=J/\W i n zs H')
   ?_ m0 ⟨0,[],[],N,I3,T.keep _ _ _ st2 λb _ o e=>old b o e,λb x=>(f2 b x).1,accD,.nil,I2.hok.fresh<|La _,w0⟩ hcs
  rintro n s3 ⟨i,zs,F,H3,J3,st3,fr3,d3,rv3,nd3,w3⟩;have hzl:=rv3.length
  have J3':Inv (ax X (pre++ys) l P P2.objs.size m N G) (t++[(m.heap.objs.size,jR F)]) (Lo pre.length J++σ') H3 s3:=J3.pins_of λp hp=>by
   rcases LL.mp hp with z|z
   .exact J3.pin p (Lw _ z)
   .rw [Lv.mp z];exact⟨d3,nd3,hDC,stkD,λv q=>by cases q⟩
  rcases turn i n zs H3 w3 with⟨stop,hz,q⟩|⟨go,hz,step⟩
  .refine Ly (T.done (ax X (pre++ys) l P P2.objs.size m N G) rfl rfl rfl hc i _ s3 _ H3 noX J3' (stat fr3) st3 stop) (fun r s4 h4=>?_) fun _ _ z=>z.elim;obtain⟨hr,I4⟩:=h4;subst hr;obtain⟨m4,hn4,_⟩:=id I4.loc;have f4:H3 P2.objs.size=none:=I4.free;have d4:s4.heap.get? m.heap.objs.size=Y (jR F):=(I4.pin (m.heap.objs.size,jR F) (Lw _ (Lw _ (Lv.mpr rfl)))).1;have u4:Un (frs X.stack) G N H3 m.heap s4.heap:=I4.base
   have un:Un (frs X.stack) G N (upd H3 m.heap.objs.size (.lst zs)) m.heap s4.heap:=
    ⟨u4.keep,u4.slot,fun b o e n hx=>by rw [ag (nd b o e)]; exact u4.free b o e n hx,u4.there,
     λb xs q=>by rw[ag<|ndH b _ q];exact u4.tups b xs q,λb o u q=>by rw[ag<|ndH b _ q];exact u4.frzs b o u q,λb ps q=>by rw[ag<|ndH b _ q];exact u4.tbls b ps q⟩
   have IX:Inv X t σ (upd H3 m.heap.objs.size (.lst zs)) s4:=I2.call' (s':=s4) (ch:=G) I4.os un (i7 I4.hok nd3 ⟨hz,F,F.length,rv3,d4⟩) I4.bare
    (λb x=>⟨(f2 b x).2.2.2.1,(f2 b x).2.1,(f2 b x).2.2.2.2.1,(f2 b x).2.2.2.2.2⟩)
   have cL:P2.objs.size≠X.env.locals:=MQ<|LD I2.lt hle;have cC:∀a c,X.env.cells.lookup a=Y c->c≠P2.objs.size:=λa c e=>by obtain⟨v',o',ho',_⟩:=I2.cell a c e;exact nc c o' ho'
   exact fin s4 _ m.heap.objs.size P2.objs.size m4 IX hn4 cL cC (by rw[ag<|LF hDC];exact f4) (Lf I2.sz hle) (λp hp=>nc p.1 _ (I2.pin p hp).1)<|q _ nd3
  .refine Ly (T.item (ax X (pre++ys) l P P2.objs.size m N G) rfl rfl rfl hc i _ s3 _ H3 noX J3' (stat fr3) st3 go) (fun r s4 h4=>?_) fun _ _ z=>z.elim;obtain⟨u,hr,h4⟩:=h4;subst hr;refine Ly h4 (λ_ s5 h5=>?_) λ_ _ z=>z.elim;obtain⟨v,H5,I5,r5,y5,st5,fr5⟩:=h5;have I5':=I5.pinned (stat fr5) (T.obj _ _ st5);refine Ly (hg P2.objs.size m N G _ s5 _ H5 v u _ I5' r5 (step v H5 y5)) (λ_ s6 h6=>?_) λ_ _ z=>z.elim;obtain⟨σ6,H6,I6,⟨hl6,hd6⟩,step'⟩:=h6;have back:∀{H7:Hp} {s7:K2},Inv (ax X (pre++ys) l P P2.objs.size m N G) ((t++[(m.heap.objs.size,jR F)])++iK G s5.heap) σ6 H7 s7->Inv (ax X (pre++ys) l P P2.objs.size m N G) t (Lo pre.length J++σ') H7 s7:=λI7=>I7.unpinned.unpinned.weak (by rw[hl6,K8,M6]) λj w' e=>sY hd6 e;refine CW.mono (hcd P2.objs.size m N G _ s6 _ H6 _ I6 step') λok s6' h6'=>?_;obtain⟨H6',I6',q6⟩:=h6';cases ok with
   | false =>
    rw[Q0 LA] at q6;obtain⟨m',hm',w7⟩:=q6;have M:=I6'.pin (m.heap.objs.size,jR F)<|Lw _<|Mv _<|Lw _<|Lv.mpr rfl;rw[Q0 LA];refine⟨m',hm',i+1,zs,F,H6',back I6',T.keep _ _ _ st5 λb x o e=>?_,λb x=>?_,M.1,rv3,M.2.1,w7⟩
    .exact(I6'.pin (b,o)<|Lw _<|Lw _<|bR x e).1
    .obtain ⟨o,e,_⟩:=T.obj _ _ st5 b x;exact(I6'.pin (b,o)<|Lw _<|Lw _<|bR x e).2.1
   | true =>
    rw[QY rfl] at q6 ⊢;refine Ly (he P2.objs.size m N G _ s6' _ H6' _ I6' q6) (λyv s7 h7=>?_) λ_ _ z=>z.elim;obtain⟨y',H7,I7,r7,m',hm',w7⟩:=h7;have M:=I7.pin (m.heap.objs.size,jR F)<|Lw _<|Mv _<|Lw _<|Lv.mpr rfl;refine append_at (hsz:=by show F.toArray.size<=sizeLine;rw[Lq];lia) M.1 λh8 sb8 hD8=>?_
    have I8:Inv (ax X (pre++ys) l P P2.objs.size m N G) t (Lo pre.length J++σ') H7 {s7 with heap:=h8}:=(back I7).turned (t':=s7.toks) (it:=m.heap.objs.size) (λb o x e=>(sb8.2 b x).trans e) M.2.1 hDC (.inr<|La _)
     (fun a c e z=>by
      obtain⟨v',o',ho',_⟩:=I2.cell a c<|hcl.get e;exact nd c o' ho' z)
     (λp hp=>nd p.1 _ (I2.pin p hp).1)
    refine⟨m',hm',i+1,zs++[y'],F++[yv],H7,I8,T.keep _ _ _ st5 λb x o e=>?_,λb x=>?_,?_,rv3.append<|.cons r7 .nil,M.2.1,w7⟩
    .exact(sb8.2 b<|Lp<|fpo b x).trans (I7.pin (b,o)<|Lw _<|Lw _<|bR x e).1
    .obtain ⟨o,e,_⟩:=T.obj _ _ st5 b x;exact(I7.pin (b,o)<|Lw _<|Lw _<|bR x e).2.1
    .show h8.get? m.heap.objs.size=_;rw[hD8];simp[jR]
 exact codeAny_compStart_list loop<|T.self X.A 0 _ _ _ (T.keep _ _ _ st2 λb _ o e=>old b o e) loop
section
variable {X:Cx}{elt iter tg cnd:Q1}{pre:U Str}{pos spos pz:Pos}{z:Str}{jz:O}{scope:Rj}{cl:U (Str×QS)}{ys:U Str}{is:U O}{wi:TI}{g:TG}{te:TE}{tc:TT}
theorem pcF (h:PT X cnd tc)(hx:∀v s,X.xe v s->Q6):PC X [cnd] tc:=λb s c H Q a q=>Ly (h b s c H Q a q) (λ_ _ z=>z) λv s z=>hx v s z
def tT:TT:=λ_ H Q=>Q K1 H
theorem pcN:PC X [] tT:=λb s c H Q a q=>⟨H,a,q⟩
theorem goN {n:O}{a:L2.St}{H:Hp}{Q:VK}(h:b8 n wi is g te a H Q):fZ n wi is g tT te a H Q:=h
theorem lz {cs:U Q1}(x:X.calm=K1)(F:PI X tg iter wi)(A:∀C s H f,PG (ax X (pre++ys) scope cl C s H f) tg g)(y:∀C s H f,PE (ax X (pre++ys) scope cl C s H f) elt te)(i:∀C s H f,PC (ax X (pre++ys) scope cl C s H f) cs tc)(k:cs.length<=1)
  (d:My scope X.env=pure cl) (S:aF pre ys scope) (j:Clo X cl) (l:(scope.names.all λp=>p.2 != .free || (cl.lookup p.1).isSome)=K1) (fr:Frees X scope cl ys is) (M:∀v,Mb iter X.env v=pure v):
  PE X (.ListComp elt [⟨tg,iter,cs,0⟩] scope pos) (fZ pre.length wi is g tc te):=by
 intro m s σ H Q a h;rw[eval_ListComp];show QX _ _ (RH _ scope X.env _ (newList []) K0 (Q9 iter X.env) J) _ _ s;refine l6 x F A y i k d S j l fr M (λZ Hn D c P n G t r u N hp q=>?_) a h;exact⟨P,G,λh' sb=>⟨.ref D,_,n.turned (t':=Z.toks) (it:=c) (λb o w e=>(sb.2 b w).trans e) u t (.inr N) r hp,rfl,q⟩⟩
theorem vk {cs:U Q1}(hN:X.N.Nodup)(hj:X.N[jz]?=Y z)(i:Loc X.env.scope z)(w:L7 (.ListComp elt [⟨tg,iter,cs,0⟩] scope pos) (Y<|.Name z pz) spos.line X.env=pure K1)(hc:X.calm=K1)(hi:PI X tg iter wi)(hg:∀C s H j,PG (ax X (pre++ys) scope cl C s H j) tg g)(he:∀C s H j,PE (ax X (pre++ys) scope cl C s H j) elt te)(m:∀C s H j,PC (ax X (pre++ys) scope cl C s H j) cs tc)(r:cs.length<=1)
  (f:My scope X.env=pure cl) (S:aF pre ys scope) (n:Clo X cl) (u:(scope.names.all λp=>p.2 != .free || (cl.lookup p.1).isSome)=K1) (fr:Frees X scope cl ys is) (hs:∀v,Mb iter X.env v=pure v) (t:X.fn z=K1\/X.env.scope.names.lookup z=Y .local):
  PS X (.Assign [.Name z pz] (.ListComp elt [⟨tg,iter,cs,0⟩] scope pos) spos) (kz (fZ pre.length wi is g tc te)<|bO jz):=by
 intro k s σ H D a h;rw[exec_Assign_Name_used _ _ _ _ w];refine K4<|Od<|K4 ?_;show QX _ _ (do let _ <- RH (.ListComp elt [⟨tg,iter,cs,0⟩] scope pos) scope X.env _ (newList []) K0 (Q9 iter X.env) (Y (Mk (.Name z pz) X.env))) _ _ s;refine K4<|thn (l6 (use:=Y<|Mk (.Name z pz) X.env) (Qp:=λ_ F=>SP X k D .next F) hc hi hg he m r f S n u fr hs (λs4 Hn d c m4 M hn A y Z hz hp q=>?_) a h) λ_ F hq=>Lc<|Lc hq;show QX _ _ (Mk (.Name z pz) X.env<|.ref d) _ _ s4;refine wpAny_assign_Name<|ju M hN hj i (v:=.ref d) rfl (λs5 G Q=>?_) t;obtain⟨P,x,l⟩:=Q;have na:c≠P:=l.elim (λe=>by rw[e];exact A) λe=>LF<|y _ _ e;exact⟨m4,hn.sameBut x na,λh' sb=>⟨_,_,G.turned (t':=s5.toks) (it:=c) (λb o hb e=>(sb.2 b hb).trans e) Z A (.inr hz) y hp,q⟩⟩
theorem eI (i:X.calm=K1)(l:PI X tg iter wi)(k:∀C s H d,PG (ax X (pre++ys) scope cl C s H d) tg g)(j:∀C s H d,PE (ax X (pre++ys) scope cl C s H d) elt te)
  (b:My scope X.env=pure cl) (S:aF pre ys scope) (e:Clo X cl) (f:(scope.names.all λp=>p.2 != .free || (cl.lookup p.1).isSome)=K1) (fr:Frees X scope cl ys is) (m:∀v,Mb iter X.env v=pure v:=by intro _;rfl):
  PE X (.ListComp elt [⟨tg,iter,[],0⟩] scope pos) (b8 pre.length wi is g te):=λc s n H Q a h=>lz i l k j (λ_ _ _ _=>pcN) (LH _) b S e f fr m c s n H Q a<|goN h
theorem qb (f:X.calm=K1)(j:PI X tg iter wi)(i:∀C s H b,PG (ax X (pre++ys) scope cl C s H b) tg g)(h:∀C s H b,PE (ax X (pre++ys) scope cl C s H b) elt te)(c:∀C s H b,PT (ax X (pre++ys) scope cl C s H b) cnd tc)
  (a:My scope X.env=pure cl) (S:aF pre ys scope) (d:Clo X cl) (e:(scope.names.all λp=>p.2 != .free || (cl.lookup p.1).isSome)=K1) (fr:Frees X scope cl ys is) (k:∀v,Mb iter X.env v=pure v:=by intro _;rfl):
  PE X (.ListComp elt [⟨tg,iter,[cnd],0⟩] scope pos) (fZ pre.length wi is g tc te):=lz f j i h (λ_ _ _ _=>pcF (c _ _ _ _) λ_ _ z=>z) (La _) a S d e fr k
theorem jb (l:X.N.Nodup)(t:X.N[jz]?=Y z)(c:Loc X.env.scope z)(k:L7 (.ListComp elt [⟨tg,iter,[],0⟩] scope pos) (Y<|.Name z pz) spos.line X.env=pure K1)(m:X.calm=K1)(r:PI X tg iter wi)(o:∀C s H e,PG (ax X (pre++ys) scope cl C s H e) tg g)(n:∀C s H e,PE (ax X (pre++ys) scope cl C s H e) elt te)
  (b:My scope X.env=pure cl) (S:aF pre ys scope) (f:Clo X cl) (j:(scope.names.all λp=>p.2 != .free || (cl.lookup p.1).isSome)=K1) (fr:Frees X scope cl ys is) (u:∀v,Mb iter X.env v=pure v:=by intro _;rfl) (i:X.fn z=K1\/X.env.scope.names.lookup z=Y .local:=by first|exact .inl rfl|exact .inr rfl|assumption):
  PS X (.Assign [.Name z pz] (.ListComp elt [⟨tg,iter,[],0⟩] scope pos) spos) (kz (b8 pre.length wi is g te)<|bO jz):=λd s w H D a h=>vk l t c k m r o n (λ_ _ _ _=>pcN) (LH _) b S f j fr u i d s w H D a<|goN h
end
end L3


namespace L3
open PySem PySem.Spec PyProof.Rows L2
abbrev Bg (h:Q5)(T:QS)(a b c:L):Prop:=h.get? T=Y {cls:=.type "tuple",data:=.seq #[a,b,c]}
def Z3 (n d e f:O)(i:O)(h:Q5):Prop:=
 LM h (n+5) (n+3) (n+4) .none/\Bg h (n+3) (.ref n) (.ref<|n+1) (.ref<|n+2)/\(∃a b c,Bg h (n+4) a b c)/\ItO h K0 n d i/\ItO h K0 (n+1) e i/\ItO h K0 (n+2) f i
end L3

namespace L3
open PySem PySem.Spec PyProof.Rows L2
noncomputable abbrev VE:U L:=[.type "ValueError",.type "Exception",.type "BaseException",.type "object"]
structure JL (h:Q5)(C N:QS)(up:U L)(names:Str->B L):Prop where
 obj:∃nm q bs hd sn sub ab col dd k0 k1 k2 k3 k5,h.get? C=Y (excClassObj nm q C N bs up hd sn sub ab col dd k0 k1 k2 k3 k5 "ValueError.__new__")
 ns:h.Ns N names
section
variable {prog:QZ}{w:K6}{h:Q5}{A:Lj}{g:Rg RK}{d:Drawn}{t:O}{os:RP}{E:L->K2->Prop}
def En:U L->QT
|.ref _::r=>En r
|l=>l==VE
end
def XOk (a C:QS)(c:B QS)(n:QT)(h:Q5):Prop:=∃o b d,h.get? a=Y o/\o.cls=.ref C/\o.dict=c/\o.data=.fields b/\b[0]?=Y (.ref d)/\1<b.size/\(n=K1->b[1]?=Y .none)
abbrev XO (a C:QS)(b:B QS)(n:QT):HO:=.ext<|XOk a C b n
def Tr (lo:O)(H:Hp)(h:Q5)(a:QS):Prop:=∃d b,h.get? a=Y d/\d.data=.fields b /\
 (b[1]?=Y .none\/∃T c e,b[1]?=Y (.ref T)/\T≠a/\h.get? T=Y c/\c.data=.fields e/\e[3]?=Y .none/\lo<=T/\H T=J)
structure XC (K:K3)(C f:QS)(up:U L):Prop where
 ok:∀h,K.In h->∃N names,JL h C N up names/\OwnTail h VE up/\names "__init__"=Y (.ref f)
 fn:∀h,K.In h->∃o,h.get? f=Y o/\o.cls=.type "function"
 kp:Nr K (.ref C)=K1
 sa:Nt K (.ref C) "__setattr__"=Y (Y (.builtin "object.__setattr__"))
 po:(PySem.W.clsIn K C).any (λcd=>En cd.mro)=K1
 hd:OY K C=K1
def xw (X:Cx)(d:L2.St):VK:=λv H=>∀(b:U<|QS×Obj) (s:K2) (a C:QS) (c:B QS),v=.ref a->H a=Y (XO a C c K0)->Inv X b d H s->Tr X.s₀.heap.objs.size H s.heap a->X.xe (.ref a) s
noncomputable abbrev hx (X:Cx)(a:QS):Cx:={X with A:=X.A.mark<|Y<|.ref a,calm:=K0,xe:=λ_ _=>Q6}
abbrev tx (X:Cx)(E:L->K2->Prop)(pn:U<|QS×Obj):Cx:={X with xe:=E,pn:=pn}
section
variable {prog:QZ}{w:K6}{A:Lj}{E:L->K2->Prop}{s:K2}{K:K3}
structure XG (K:K3)(C:QS):Prop where
 ga:Nt K (.ref C) "__getattribute__"=Y (Y (.builtin "BaseException.__getattribute__"))
 hk:Nt K (.ref C) "__getattr__"=Y J
 sub:P8 K (.ref C) (.type "BaseException")=Y K1
end
structure XF (K:K3)(C:QS):Prop where
 xc:∃f up,XC K C f up/\En up=K1
 xg:XG K C
 hd:OY K C=K1
 ca:Nt K (.ref C) "__class__"=Y (Y (.builtin "object.__class__"))
 cg:PX K (.builtin "object.__class__") "__get__"=Y (Y (.builtin "getset_descriptor.__get__"))
 ct:Pu K (.builtin "object.__class__")=Y K1
 mo:Qb K C (.type "object")=Y K1
def XNm (K:K3)(c:O)(C:QS):Prop:=c=C/\XF K C
end L3

namespace L3
open PySem PySem.Spec PyProof.Rows L2
noncomputable def hT (a:U I):I:=reduceHash<|Builtin.Tuple.tupleHashOf<|a.map hashInt
abbrev KZ:=U I×QS×L
def DTk (a:QS)(d:U<|U I)(f e:U V)(h:Q5):Prop:=(a==L0)=K0/\∃b:U KZ,b.map (·.1)=d/\b.map (λz=>V.ref z.2.1)=f/\Vals e (b.map (·.2.2))/\∃o c ep,h.get? a=Y o/\o.ExactDict/\o.data=.dict c ep/\c.toList=b.map λz=>⟨hT z.1,.ref z.2.1,z.2.2⟩
abbrev DTO (a:QS)(b:U<|U I)(d c:U V):HO:=.ext<|DTk a b d c
theorem DTk.ok {P:QZ}{w:K6}{H:Hp}{a:QS}{b:U<|U I}{d c:U V}{h:Q5}(x:DTk a b d c h):ObjOk P w H h a (DTO a b d c):=by
 refine⟨x,?_,λj k y e=>?_⟩
 .obtain ⟨_,f,_,_,_,o,_,_,g,_⟩:=x;exact⟨o,g⟩
 .obtain ⟨z,f,e1,e2,e3,o,i,ep,g,r⟩:=y;exact⟨z,f,e1,e2,e3,o,i,ep,e o g,r⟩
def KeyR (K:K3)(H:Hp):U (U I)->U V->Prop
|[],a=>a=[]
|k::c,a=>∃b r,a=.ref b::r/\SqT K H b (k.map V.int)/\KeyR K H c r
theorem KeyR.keep {K:K3}{H d:Hp}(s:∀b (f:U V),SqT K H b f->SqT K d b f):∀{a:U<|U I} {c:U V},KeyR K H a c->KeyR K d a c
|[],_,h=>h
|k::a,c,⟨b,r,e,q,h⟩=>⟨b,r,e,s b _ q,h.keep s⟩
end L3

namespace M
open PySem (Str)
inductive T where
 |non|bl (b:QT)|int (i:I)|str (x:Str)|tup (ts:U T)|lst (ts:U T)|dct (ks:U (I ⊕ Str)) (vs:U T)|ins (c:O) (fs:U Str) (vs:U T)|obj (c:O) (fs:U Str) (vs:U T)|dtt (ks:U (U I)) (vs:U T)
 |scr (ns:U I)
 |gone
 deriving Ro
inductive Md where
 |s|d|o (m:Md)
 deriving Rx,Ro
noncomputable def Md.kid:Md->Md
|.s=>.s | .d=>.d | .o m=>m
def Md.up:Md->Md
|.d=>.d|m=>.o m
noncomputable def Md.meet:Md->Md->Md
|.s,_=>.s | .d,m=>m | .o _,.s=>.s | .o a,.d=>.o a | .o a,.o b=>.o<|a.meet b
noncomputable def Md.le:Md->Md->QT
|.s,_=>K1
|.o a,.o b=>a.le b
|.o _,.d=>K1
|.d,.d=>K1
|_,_=>K0
abbrev W:=Md×T
abbrev Env:=U<|B W
noncomputable def LIM:O:=16777215
noncomputable def T.leaf:T->QT
|.non | .bl _ | .int _ | .str _ | .scr _=>K1
|_=>K0
def T.isG:T->QT
|.gone=>K1
|.dtt _ _=>K1
|_=>K0
noncomputable def T.isH:T->QT
|.gone=>K1
|.dct _ _=>K1
|.dtt _ _=>K1
|.ins _ _ _=>K1
|.obj _ _ _=>K1
|_=>K0
def T.isN:T->QT
|.non=>K1
|_=>K0
def leaves (a:U T):QT:=a.all T.leaf
inductive Op where
 |add|sub|mul|fdiv|mod|pow|eq|ne|lt|le|gt|ge|is|isnot|isin|notin|ix|sl|sl1|sl2
 |len|isI (cs:U Q4)|count|fdivN|modN|list|tuple|sum|all|any|max|min|int|str|rng|sorted|join|split|abs|dict|get|lower|catT|catD|dnew|sortedD|ixD
 |getD|inD|dcpy|dsp1
 |dtup|ixDT|nl
 |att (fld:Str)|getI (tab:U (Str×I))|mk (c:O) (fld:Str) (fk:O)
inductive Ik where
 |seq|rng|zip|zip3|enmT|sq2T
 deriving Rx,Ro
inductive E where
 |var (i:O)|mv (i:O)|io (i:O)|cst (t:T)
 |tup (es:U E)|lst (h:QT) (es:U E)|op (o:Op) (h:QT) (es:U E)|wk (m:Md) (e:E)
 |and (a b:E)|or (a b:E)|not (a:E)|ifx (c a b:E)
 |call (f:O) (es:U E)|comp (h:QT) (k:Ik) (src:U E) (tg:U O) (cnd:B E) (elt:E)
 |pop (i:O) (es:U E)
 |ixQ (i:O) (e:E)|sdf (i j k:O)
 |inT (neg:QT) (ks:U Str) (e:E)|ixT (tab:U (Str×T)) (e:E)|getT (tab:U (Str×T)) (e:E)
 deriving Ro
inductive X where
 |q (vs ls:U O)|l (vs:U O)
 deriving Ro
inductive S where
 |asg (x:X) (i:O) (e:E)|asgT (x:X) (is:U O) (e:E)|setI (x:X) (i:O) (k e:E)|setK (x:X) (i:O) (k e:E)|setS (x:X) (i:O) (k e:E)|lsQ (g i a b c:O)
 |exp (x:X) (e:E)|app (x:X) (i:O) (e:E)|ext (x:X) (i:O) (e:E)
 |ret (vs:U O) (e:E)|ite (x:X) (c:E) (a b:U S)
 |forS (vs ls:U O) (k:Ik) (src:U E) (tg:U O) (body:U S)
 |brk|pas|stop|tri (body:U S)
 |raise (c:O) (fld:Str) (fk:O) (x:X) (e:E)
 deriving Ro
structure Fn where
 ps:O
 ns:O
 io:U O
 body:U S
inductive Res (α:Type) where
 |ok (a:α)|ex (t:T)|no
def Res.bind {b c:Type}:Res b->(b->Res c)->Res c
|.ok a,f=>f a
|.ex t,_=>.ex t
|.no,_=>.no
def ofO {b:Type}:B b->Res b
|some a=>.ok a
|none=>.no
inductive Fl where
 |nx (η:Env)|rt (w:W) (η:Env)|bk (η:Env)|ex (t:T) (η:Env)|no
noncomputable def truth:T->B QT
|.non=>Y K0 | .bl b=>Y b | .int i=>Y (i != 0) | .str x=>Y (x.cps.size != 0) | .tup a=>Y (!a.isEmpty) | .lst a=>Y (!a.isEmpty) | .dct _ _=>J | .ins ..=>J | .obj ..=>J | .dtt ..=>J | .scr c=>Y (!c.isEmpty) | .gone=>J
noncomputable def b2i:QT->I
|true=>1|false=>0
mutual
def eqT:T->T->QT
|.non,.non=>K1
|.bl a,.bl b=>a==b
|.bl a,.int i=>b2i a==i
|.int i,.bl a=>i==b2i a
|.int i,.int j=>i==j
|.str x,.str y=>x==y
|.tup ts,.tup us=>eqTs ts us
|.lst ts,.lst us=>eqTs ts us
|_,_=>K0
def eqTs:U T->U T->QT
|[],[]=>K1
|t::ts,u::us=>eqT t u&&eqTs ts us
|_,_=>K0
end
mutual
def dp:T->O
|.tup ts=>dps ts+1
|.lst ts=>dps ts+1
|.scr _=>1000
|.dct _ _=>1000
|.ins _ _ _=>1000
|.obj _ _ _=>1000
|.dtt _ _=>1000
|.gone=>1000
|_=>0
def dps:U T->O
|[]=>0
|t::ts=>max (dp t)<|dps ts
end
def sOk (x:Str):QT:=x.cps.all (· < 0x110000)&&decide (x.cps.size<=LIM)
def kOk:I ⊕ Str->QT
|.inl _=>K1
|.inr x=>sOk x
noncomputable def keyT:T->B (I ⊕ Str)
|.int n=>Y<|.inl n
|.str x=>Y<|.inr x
|_=>J
noncomputable def strsK:U (I ⊕ Str)->B (U Str)
|[]=>Y []
|.inr x::a=>(strsK a).map (x::·)
|.inl _::_=>J
def lookD (q:I ⊕ Str):U (I ⊕ Str)->U T->B T
|y::b,v::a=>if y=q then Y v else lookD q b a
|_,_=>J
noncomputable def ixN (n:O)(i:I):B O:=if 0<=i then(if i<n then Y i.toNat else J) else if -(n:I)<=i then Y (i+n).toNat else J
def atI {b:Type}(a:U b)(i:I):B b:=(ixN a.length i).bind λj=>a[j]?
noncomputable def sIx (n d:O):B I->O
|none=>d
|some i=>if i<0 then(i+n).toNat else min i.toNat n
def cut {b:Type}(a:U b)(lo c:B I):U b:=(a.drop<|sIx a.length 0 lo).take<|sIx a.length a.length c-sIx a.length 0 lo
noncomputable def T.ty:T->Q4
|.non=>"NoneType" |.bl _=>"bool" |.int _=>"int" |.str _=>"str" |.tup _=>"tuple" |.lst _=>"list" |.dct ..=>"dict" |.ins ..=>"object" |.obj ..=>"object" |.dtt ..=>"dict" |.scr _=>"list" |.gone=>"gone"
def isOne (c:Q4)(t:T):QT:=t.ty==c || (t.ty=="bool"&&c=="int")
noncomputable def intsOf:U T->B (U I)
|[]=>Y []
|.int i::a=>(intsOf a).map (i::·)
|_::_=>J
noncomputable def bq:U T->B (U QT)
|[]=>Y []
|.bl b::a=>(bq a).map (b::·)
|_::_=>J
noncomputable def elems:W->B (U T)
|(_,.tup a)=>Y a
|(_,.lst a)=>Y a
|_=>J
def flatT:T->QT
|.non | .bl _ | .int _ | .str _=>K1
|_=>K0
def IK (c:O):O:=if 65<=c/\c<=90 then c+32 else c
noncomputable def IS (x:I):U I->U I
|[]=>[x]
|y::a=>if x<=y then x::y::a else y::IS x a
def wZ:U I->U I
|[]=>[]
|x::a=>IS x<|wZ a
noncomputable def strsOf:U T->B (U Str)
|[]=>Y []
|.str x::a=>(strsOf a).map (x::·)
|_::_=>J
noncomputable def ltS (x y:Str):QT:=decide (x.cps.toList<y.cps.toList)
def insS (x:Str):U Str->U Str
|[]=>[x]
|y::a=>if ltS y x then y::insS x a else x::y::a
def sortS:U Str->U Str
|[]=>[]
|x::a=>insS x<|sortS a
noncomputable def spl (c:O):U O->U O->U (U O)
|a,[]=>[a]
|a,x::b=>if x=c then a::spl c [] b else spl c (a++[x]) b
def splS (x:Str):U Str:=(spl 32 [] x.cps.toList).map λl=>⟨l.toArray⟩
def JO (i:I):Str:=Str.ofString<|toString i
def newL (h:QT)(m:Md)(a:U T):B W:=if h then(if leaves a then Y (.d,.lst a) else J) else Y (m.up,.lst a)
def fits (n:O):QT:=decide (n<=LIM)
mutual
def rOk:T->QT
|.non | .bl _=>K1
|.int i=>decide (i.natAbs<10000000000000000000)
|.str x=>decide ((Qc x).length<=100)&&sOk (Qc x)
|.tup ts=>Dl ts
|.lst ts=>Dl ts
|_=>K0
def Dl:U T->QT
|[]=>K1
|t::ts=>rOk t&&Dl ts
end
mutual
def szR:T->O
|.tup ts=>EH ts+4
|.lst ts=>EH ts+4
|_=>100
def EH:U T->O
|[]=>0
|t::ts=>szR t+2+EH ts
end
mutual
def noL:T->QT
|.non | .bl _ | .int _ | .str _=>K1
|.tup ts=>noLs ts
|_=>K0
def noLs:U T->QT
|[]=>K1
|t::ts=>noL t&&noLs ts
end
def dtPs:U T->B (U (U I)×U T)
|[]=>Y ([],[])
|.tup [.tup b,v]::a=>(intsOf b).bind λk=>(dtPs a).map λp=>(k::p.1,v::p.2)
|_::_=>J
def lookT (q:U I):U (U I)->U T->B T
|y::b,v::a=>if y=q then Y v else lookT q b a
|_,_=>J
def t7:O->Md->T->QT
|0,_,.int n=>decide (n.natAbs.log2<1920)
|1,.s,.tup a=>decide (dp (.tup a)<=64)&&rOk (.tup a)&&decide (szR (.tup a)<=1000000)
|2,_,.str _=>K1
|_,_,_=>K0
def lfM (t:T):Md:=if t.leaf=K1 then .d else .s
noncomputable def getI:B I->B I->T
|some i,_=>.int i
|none,Y i=>.int i
|none,J=>.non
mutual
def spo:T->T
|.lst ts=>.lst<|spos ts++[.int 7]
|.tup ts=>.tup<|spos ts
|t=>t
def spos:U T->U T
|[]=>[]
|t::ts=>spo t::spos ts
end
mutual
def szS:T->QT
|.lst ts=>decide (ts.length<LIM)&&szSs ts
|.tup ts=>decide (ts.length<LIM)&&szSs ts
|_=>K1
def szSs:U T->QT
|[]=>K1
|t::ts=>szS t&&szSs ts
end
mutual
def nl:T->O
|.lst ts=>nls ts+1
|.tup ts=>nls ts
|_=>0
def nls:U T->O
|[]=>0
|t::ts=>nl t+nls ts
end
noncomputable def setAt (u:T):U O->T->B T
|[],_=>Y u
|j::p,.lst a=>(a[j]?).bind λt=>(setAt u p t).map λv=>.lst<|a.set j v
|j::p,.tup a=>(a[j]?).bind λt=>(setAt u p t).map λv=>.tup<|a.set j v
|_::_,_=>J
def oSem:Op->QT->U W->B W
|.add,h,[(m,a),(n,b)]=>match a,b with
 |.int i,.int j=>Y (.d,.int<|i+j)
 |.str x,.str y=>if fits (x.cps.size+y.cps.size) then Y (.d,.str<|x++y) else J
 |.lst e,.lst l=>if fits (e.length+l.length) then newL h (m.kid.meet n.kid) (e++l) else J
 |.tup e,.tup l=>if fits (e.length+l.length)&&!e.isEmpty then Y (.s,.tup<|e++l) else J
 |_,_=>J
|.sub,_,[(_,.int i),(_,.int j)]=>Y (.d,.int<|i-j)
|.mul,h,[(m,a),(_,b)]=>match a,b with
 |.int i,.int j=>if(decide (i.natAbs<18446744073709551616)) || (decide (j.natAbs<18446744073709551616)) then Y (.d,.int<|i * j) else J
 |.lst e,.int k=>if decide (k.natAbs<4611686018427387904)&&fits (e.length * k.toNat) then newL h .s (Lo k.toNat e).flatten else J
 |_,_=>J
|.fdiv,_,[(_,.int i),(_,.int j)]=>if decide (0<j)&&decide (j<1073741824) then Y (.d,.int<|i / j) else J
|.mod,_,[(_,.int i),(_,.int j)]=>if decide (0<j) then Y (.d,.int<|i % j) else J
|.pow,_,[(_,.int i),(_,.int j)]=>if decide (0<=j)&&decide (j<=1000000)&&decide (i.natAbs<18446744073709551616) then Y (.d,.int<|i ^ j.toNat) else J
|.fdivN,_,[(_,.int i),(_,.int j)]=>if(j != 0)&&decide (j.natAbs<18446744073709551616) then Y (.d,.int<|i.fdiv j) else J
|.modN,_,[(_,.int i),(_,.int j)]=>if j != 0 then Y (.d,.int<|i.fmod j) else J
|.eq,_,[(_,a),(_,b)]=>if decide (dp a<=64)&&decide (dp b<=64) then Y (.d,.bl<|eqT a b) else J
|.ne,_,[(_,a),(_,b)]=>if decide (dp a<=64)&&decide (dp b<=64) then Y (.d,.bl<|!eqT a b) else J
|.lt,_,[(_,.int i),(_,.int j)]=>Y (.d,.bl<|decide (i<j))
|.le,_,[(_,.int i),(_,.int j)]=>Y (.d,.bl<|decide (i<=j))
|.gt,_,[(_,.int i),(_,.int j)]=>Y (.d,.bl<|decide (j<i))
|.ge,_,[(_,.int i),(_,.int j)]=>Y (.d,.bl<|decide (j<=i))
|.is,_,[(_,a),(_,.non)]=>if a.isG then J else Y (.d,.bl a.isN)
|.isnot,_,[(_,a),(_,.non)]=>if a.isG then J else Y (.d,.bl<|!a.isN)
|.ix,_,[(m,a),(_,.int i)]=>match a with
 |.lst e=>(atI e i).map λt=>(m.kid,t)
 |.tup e=>(atI e i).map λt=>(m.kid,t)
 |.str x=>(atI x.cps.toList i).map λc=>(.d,.str ⟨#[c]⟩)
 |.scr f=>(atI f i).map λn=>(.d,.int n)
 |_=>J
|.sl,h,[(m,.lst e)]=>newL h m.kid e
|.sl1,h,[(m,.lst e),(_,.int i)]=>newL h m.kid<|cut e (Y i) J
|.sl2,h,[(m,.lst e),(_,.int i)]=>newL h m.kid<|cut e J<|Y i
|.sl2,_,[(_,.scr f),(_,.int i)]=>Y (.d,.lst<|(cut f J<|Y i).map T.int)
|.sl1,_,[(_,.scr f),(_,.int i)]=>Y (.d,.lst<|(cut f (Y i) J).map T.int)
|.sl,_,[(_,.scr f)]=>Y (.d,.lst<|f.map T.int)
|.sl1,_,[(_,.tup e),(_,.int i)]=>Y (.s,.tup<|cut e (Y i) J)
|.sl2,_,[(_,.tup e),(_,.int i)]=>Y (.s,.tup<|cut e J<|Y i)
|.len,_,[(_,a)]=>match a with
 |.lst e=>Y (.d,.int e.length)
 |.tup e=>Y (.d,.int e.length)
 |.str x=>Y (.d,.int x.cps.size)
 |.scr f=>Y (.d,.int f.length)
 |_=>J
|.att fld,_,[(_,.ins _ [g] [t])]=>if(g==fld)=K1 then Y (lfM t,t) else J
|.mk c fld w,_,[(m,t)]=>if t7 w m t=K1 then Y (.s,.ins c [fld] [t]) else J
|.isI cs,_,[(_,a)]=>if a.isH then J else Y (.d,.bl<|cs.any λc=>isOne c a)
|.list,h,[(m,a)]=>match a with
 |.lst e=>newL h m.kid e
 |.tup e=>newL h m.kid e
 |.scr f=>Y (.d,.lst<|f.map T.int)
 |_=>J
|.tuple,_,[(m,a)]=>match a with
 |.lst e=>Y (m.kid.up,.tup e)
 |.tup e=>Y (m,.tup e)
 |_=>J
|.sum,_,[(_,.lst e)]=>(intsOf e).map λf=>(.d,.int f.sum)
|.all,_,[(_,.lst e)]=>(bq e).map λbs=>(.d,.bl<|bs.all id)
|.any,_,[(_,.lst e)]=>(bq e).map λbs=>(.d,.bl<|bs.any id)
|.max,_,[(_,.int i),(_,.int j)]=>Y (.d,.int<|if j>i then j else i)
|.min,_,[(_,.int i),(_,.int j)]=>Y (.d,.int<|if j<i then j else i)
|.rng,_,[(_,.int i),(_,.int j)]=>if decide (i.natAbs<4611686018427387904)&&decide (j.natAbs<4611686018427387904)&&fits (j-i).toNat then Y (.d,.lst<|(Lx (j-i).toNat).map λ(k:O)=>T.int<|i+k) else J
|.isin,_,[(_,a),(n,b)]=>(elems (n,b)).bind λe=>if flatT a&&e.all flatT then Y (.d,.bl<|e.any λt=>eqT t a) else J
|.notin,_,[(_,a),(n,b)]=>(elems (n,b)).bind λe=>if flatT a&&e.all flatT then Y (.d,.bl<|!e.any λt=>eqT t a) else J
|.int,_,[(_,.int i)]=>Y (.d,.int i)
|.int,_,[(_,.bl b)]=>Y (.d,.int<|b2i b)
|.abs,_,[(_,.int i)]=>Y (.d,.int i.natAbs)
|.sorted,_,[(_,.lst e)]=>(intsOf e).bind λf=>if decide (f.length<64) then Y (.d,.lst<|(wZ f).map T.int) else J
|.str,_,[(_,.int i)]=>if decide (i.natAbs<10000000000000000000) then Y (.d,.str<|JO i) else J
|.join,_,[(_,.str z),(_,.lst e)]=>(strsOf e).bind λv=>if sOk (Str.join z v)&&decide ((v.map λs=>s.cps.size+z.cps.size).sum<=LIM) then Y (.d,.str<|Str.join z v) else J
|.split,_,[(_,.str z),(_,.str y)]=>if(y==Str.ofString " ")&&decide (z.cps.size+2<=LIM)&&(splS z).all sOk then Y (.d,.lst<|(splS z).map T.str) else J
|.count,_,[(_,.lst e),(_,.bl b)]=>(bq e).map λbs=>(.d,.int<|bs.count b)
|.lower,_,[(_,.str x)]=>if x.cps.toList.all (λc=>decide (c<128)) then Y (.d,.str ⟨x.cps.map IK⟩) else J
|.catD,_,[(.d,.tup e),(.d,.tup l)]=>if fits (e.length+l.length) then Y (.d,.tup<|e++l) else J
|.catT,_,[(_,.tup e),(_,.tup l)]=>if fits (e.length+l.length) then Y (.s,.tup<|e++l) else J
|.dnew,_,[]=>Y (.d,.dct [] [])
|.sortedD,_,[(_,.dct r _)]=>(strsK r).bind λv=>if decide (v.length<64) then Y (.d,.lst<|(sortS v).map T.str) else J
|.ixD,_,[(.s,.dct r u),(_,k)]=>(keyT k).bind λq=>(lookD q r u).map λt=>(.s,t)
|.nl,_,[(_,t)]=>if noL t then Y (.d,t) else J
|.dtup,_,[(.s,.lst e)]=>(dtPs e).bind λp=>if decide p.1.Nodup&&decide (e.length<=LIM) then Y (.s,.dtt p.1 p.2) else J
|.ixDT,_,[(_,.dtt r u),(_,.tup l)]=>(intsOf l).bind λk=>(lookT k r u).map λt=>(.s,t)
|.getI tab,_,[(_,.str x),(_,.int d)]=>Y (.d,.int<|(tab.lookup x).getD d)
|.getD,_,[(.s,.dct r u),(_,k)]=>(keyT k).map λq=>(.s,(lookD q r u).getD .non)
|.inD,_,[(_,k),(.s,.dct r u)]=>(keyT k).map λq=>(.d,.bl (lookD q r u).isSome)
|.dcpy,_,[(.s,.dct r u)]=>Y (.o .s,.dct r u)
|.dsp1,_,[(_,.str x),(_,t)]=>Y (.o .s,.dct [.inr x] [t])
|_,_,_=>J
noncomputable def rd:Env->O->B W
|[],_=>J
|o::_,0=>o
|_::a,i+1=>rd a i
noncomputable def wr:Env->O->B W->Env
|[],_,_=>[]
|_::a,0,w=>w::a
|o::a,i+1,w=>o::wr a i w
abbrev put (a:Env)(i:O)(w:W):Env:=wr a i<|Y w
abbrev del (a:Env)(i:O):Env:=wr a i J
def look:W->B W
|(.s,t)=>Y (.s,t)
|(_,t)=>if t.leaf=K1 then Y (.d,t) else J
def toS:B W->B W
|some (_,t)=>Y (.s,t)
|none=>J
def share:U O->Env->Env
|[],a=>a
|i::b,a=>share b<|wr a i<|toS<|rd a i
def lfO:B W->B W
|some (_,t)=>if t.leaf=K1 then Y (.d,t) else J
|none=>J
def ib:Env->Env
|[]=>[]
|_::a=>none::ib a
def nW:U O->Env->Env->Env
|[],_,b=>b
|i::c,a,b=>nW c a<|wr b i<|toS<|rd a i
def iL:U O->Env->Env->Env
|[],_,b=>b
|i::c,a,b=>iL c a<|wr b i<|lfO<|rd a i
def pick (c b:U O)(a:Env):Env:=iL b a<|nW c a<|ib a
def after (m:Md)(b:U O)(a:Env):Env:=match m with
|.d=>a
|_=>share b a
def bf:U O->U W->Env->B Env
|[],[],a=>Y a
|i::b,w::c,a=>bf b c<|put a i w
|_,_,_=>J
noncomputable def ie (m:Md):O->U T->U (U W)
|_,[]=>[]
|i,t::a=>[(.d,.int i),(m,t)]::ie m (i+1) a
noncomputable def fF (m n:Md):U T->U T->U (U W)
|t::a,u::b=>[(m,t),(n,u)]::fF m n a b
|_,_=>[]
noncomputable def pairsT:U T->B (U<|U W)
|[]=>Y []
|.tup [x,y]::a=>(pairsT a).map ([(.s,x),(.s,y)]::·)
|_::_=>J
noncomputable def uR:U T->U T->U T->U (U W)
|t::a,u::b,v::c=>[(.s,t),(.s,u),(.s,v)]::uR a b c
|_,_,_=>[]
def bb:Ik->U W->B (U<|U W)
|.seq,[(_,.lst e)]=>Y<|e.map λt=>[(.s,t)]
|.seq,[(_,.tup e)]=>Y<|e.map λt=>[(.s,t)]
|.seq,[(_,.scr g)]=>Y<|g.map λn=>[(.d,.int n)]
|.rng,[(_,.int n)]=>if decide (n.natAbs<4611686018427387904)&&fits n.toNat then Y ((Lx n.toNat).map λ(k:O)=>[(.d,.int k)]) else J
|.rng,[(_,.int i),(_,.int j)]=>if decide (i.natAbs<4611686018427387904)&&decide (j.natAbs<4611686018427387904)&&fits (j-i).toNat then Y ((Lx (j-i).toNat).map λ(k:O)=>[(.d,.int<|i+k)]) else J
|.rng,[(_,.int i),(_,.int j),(_,.int c)]=>if decide (i.natAbs<4611686018427387904)&&decide (j.natAbs<4611686018427387904)&&decide (c=-1)&&fits (i-j).toNat then Y ((Lx (i-j).toNat).map λ(k:O)=>[(.d,.int<|i-k)]) else J
|.enmT,[(_,.tup e)]=>Y<|ie .s 0 e
|.zip,[(m,a),(n,b)]=>(elems (m,a)).bind λe=>(elems (n,b)).bind λf=>Y<|fF .s .s e f
|.sq2T,[(_,.tup e)]=>pairsT e
|.zip3,[(_,.lst e),(_,.lst f),(_,.lst h)]=>Y<|uR e f h
|_,_=>J
abbrev Call:=O->U W->Res (W×U W)
abbrev RE:=Res<|W×Env
def lf (m:Md)(t:T):Md:=if t.leaf=K1 then .d else m
def gM:U W->Md
|[]=>.d
|w::a=>(lf w.1 w.2).meet<|gM a
def trees:U W->U T
|[]=>[]
|w::a=>w.2::trees a
def aB:U O->Env->Env
|[],a=>a
|i::b,a=>aB b<|del a i
def ios:U E->U O
|[]=>[]
|.io i::a=>i::ios a
|_::a=>ios a
def putAll:U O->U W->Env->Env
|i::b,w::c,a=>putAll b c<|put a i w
|_,_,a=>a
def k7:W->U W->B (W×W)
|(.s,_),_=>J
|(m,.lst a),[]=>(a.getLast?).map λt=>((m.kid,t),(m,.lst a.dropLast))
|(m,.lst (t::a)),[(_,.int 0)]=>Y ((m.kid,t),(m,.lst a))
|_,_=>J
def iV:W->W->B W
|(.s,_),_=>J
|(m,.lst a),(n,t)=>if a.length<LIM then Y ((m.kid.meet<|lf n t).up,.lst<|a++[t]) else J
|_,_=>J
def iY:W->W->B W
|(.s,_),_=>J
|(m,.lst a),(n,.lst b)=>if a.length+b.length<=LIM then Y ((m.kid.meet n.kid).up,.lst<|a++b) else J
|_,_=>J
noncomputable def putT (k:I ⊕ Str)(t:T):U (I ⊕ Str)->U T->U (I ⊕ Str)×U T
|[],_=>([k],[t])
|y::a,v::b=>if y=k then(y::a,t::b) else((y::(putT k t a b).1),(v::(putT k t a b).2))
|y::a,[]=>(y::a,[])
def gi:W->W->W->B W
|(.s,_),_,_=>J
|(m,.dct a b),(_,k),(_,t)=>(keyT k).bind λq=>if decide (a.length<LIM)&&flatT t then Y (m,.dct (putT q t a b).1 (putT q t a b).2) else J
|_,_,_=>J
def eN:W->W->W->B W
|(.s,_),_,_=>J
|(m,.dct a b),(_,k),(_,t)=>(keyT k).bind λq=>if decide (a.length<LIM) then Y (.o .s,.dct (putT q t a b).1 (putT q t a b).2) else J
|_,_,_=>J
def sdfT:B W->B W->B W->B (W×W)
|some (.s,_),_,_=>J
|some (m,.dct a b),Y (_,.str x),Y (.s,t)=>if decide (a.length<LIM)=K1 then Y (match lookD (.inr x) a b with
 |some u=>((.s,u),(m,.dct a b))
 |none=>((.s,t),(.o .s,.dct (putT (.inr x) t a b).1 (putT (.inr x) t a b).2))) else J
|_,_,_=>J
def de:W->W->W->B W
|(.s,_),_,_=>J
|(m,.lst a),(_,.int j),(n,t)=>(ixN a.length j).map λk=>((m.kid.meet<|lf n t).up,.lst<|a.set k t)
|_,_,_=>J
def chkL:B W->Res Unit
|some (_,.lst _)=>.ok ()
|_=>.no
def BY:W->B (U W)
|(m,.tup a)=>Y<|a.map λt=>(m.kid,t)
|_=>J
def ret {b:Type}(c:Env)(o:B b):Res (b×Env):=match o with
|some a=>.ok (a,c)
|none=>.no
def onB {a:Type}:T->(Env->Res a)->(Env->Res a)->Env->Res a
|.bl K1,f,_,b=>f b
|.bl K0,_,g,b=>g b
|_,_,_,_=>.no
def onT {a:Type}(f g:Env->Res a)(p:W×Env):Res a:=match truth p.1.2 with
|some K1=>f p.2
|some K0=>g p.2
|none=>.no
def okW {b:Type}(a:b)(c:Env):Res (b×Env):=.ok (a,c)
def xB (p:U W×Env):RE:=.ok (((gM p.1).up,.tup<|trees p.1),p.2)
def xk (h:QT)(p:U W×Env):RE:=.ok ((if h then(gM p.1).up else .o .s,.lst<|trees p.1),p.2)
def kWk (m:Md)(p:W×Env):RE:=ret p.2<|if m.le p.1.1 then Y (m,p.1.2) else J
def kOp (o:Op)(h:QT)(p:U W×Env):RE:=ret p.2<|oSem o h p.1
def uA (f:Env->RE)(p:W×Env):RE:=onT f (okW p.1) p
def kOr (f:Env->RE)(p:W×Env):RE:=onT (okW p.1) f p
def uK (p:W×Env):RE:=ret p.2<|(truth p.1.2).map λb=>(.d,.bl<|!b)
def kC3 (q:Op)(y:W)(z:W×Env):RE:=ret z.2<|oSem q K0 [y,z.1]
def Bc {a b:Type}(f:Env->Res (a×Env))(k:a×Env->Res b)(c:Env):Res b:=(f c).bind k
def kC2 (o q:Op)(fc:Env->RE)(x:W)(y:W×Env):RE:=(ret y.2<|oSem o K0 [x,y.1]).bind λk=>onB k.1.2 (Bc fc<|kC3 q y.1) (okW (.d,.bl K0)) k.2
def kC1 (o q:Op)(a fc:Env->RE)(x:W×Env):RE:=(a x.2).bind<|kC2 o q fc x.1
def pd (a:U O)(b:Env)(r:W×U W):RE:=.ok (r.1,putAll a r.2 b)
def ly (C:Call)(f:O)(a:U O)(p:U W×Env):RE:=(C f p.1).bind<|pd a p.2
noncomputable def gh (p:W×Env):Res (B W×Env):=.ok (Y p.1,p.2)
def fO (f:Env->RE)(a:Env):Res (B W×Env):=(f a).bind gh
def mY (c f:Env->RE)(a:Env):Res (B W×Env):=(c a).bind<|onT (fO f)<|okW J
def ba (b:U O)(f:Env->Res (B W×Env)):U (U W)->Env->U W->Res (U W×Env)
|[],c,a=>.ok (a,c)
|e::r,c,a=>(ofO<|bf b e c).bind λd=>(f d).bind λp=>ba b f r (aB b p.2)<|a++p.1.toList
def okD (w:W):QT:=w.1==.d || w.2.leaf
def lD (h:QT)(q:U W×Env):RE:=ret q.2<|if h then(if q.1.all okD then Y (.d,.lst<|trees q.1) else J) else Y (.o .s,.lst<|trees q.1)
def fh (h:QT)(k:Ik)(a:U O)(f:Env->Res (B W×Env))(p:U W×Env):RE:=(ret (aB a p.2)<|bb k p.1).bind λt=>(ba a f t.1 t.2 []).bind<|lD h
noncomputable def l9 (f:Env->Res (U W×Env))(a:Env)(k:U W×Env->RE)(_:Unit):RE:=(f a).bind k
def qZ (i:O)(p:U W×Env):RE:=(ofO<|(rd p.2 i).bind λw=>k7 w p.1).bind λr=>.ok (r.1,put p.2 i r.2)
noncomputable def ixVT:B W->B W->B W
|some (.o .s,.lst a),Y (_,.int j)=>(atI a j).map λt=>(.s,t)
|some (.s,.lst a),Y (_,.int j)=>(atI a j).map λt=>(.s,t)
|_,_=>J
noncomputable def kPopN0 (f:Env->RE)(a:Env)(k:W×Env->RE)(_:Unit):RE:=(f a).bind k
def kSdf (i:O)(a:Env)(r:W×W):RE:=.ok (r.1,put a i r.2)
def kIxQ (i:O)(p:W×Env):RE:=ret p.2<|ixVT (rd p.2 i)<|Y p.1
def oF (w:W)(q:U W×Env):Res (U W×Env):=.ok (w::q.1,q.2)
def a0 (f:Env->Res (U W×Env))(p:W×Env):Res (U W×Env):=(f p.2).bind<|oF p.1
def kTab {b:Type}(tab:U<|Str×b)(f:b->Env->RE)(p:W×Env):RE:=match p.1.2 with
|.str x=>match tab.lookup x with
 |some a=>f a p.2
 |none=>.no
|_=>.no
def kIn (a:QT)(b:U Str)(p:W×Env):RE:=match p.1.2 with
|.str x=>.ok ((.d,.bl<|b.contains x != a),p.2)
|_=>.no
def okS (t:T)(a:Env):RE:=.ok ((.s,t),a)
def kGet (tab:U<|Str×T)(p:W×Env):RE:=match p.1.2 with
|.str x=>.ok ((.s,(tab.lookup x).getD .non),p.2)
|_=>.no
def kX (a:U O)(b:Env)(p:W×Env):RE:=.ok ((lf p.1.1 p.1.2,p.1.2),after (lf p.1.1 p.1.2) a b)
def kIo (i:O)(p:U W×Env):Res (U W×Env):=(ofO<|rd p.2 i).bind λw=>.ok (w::p.1,del p.2 i)
section
variable (C:Call)
mutual
def evE:E->Env->RE
|.var i,η=>ret η<|(rd η i).bind look
|.mv i,η=>ret (del η i)<|rd η i
|.io i,η=>ret (del η i)<|rd η i
|.cst t,η=>.ok ((.d,t),η)
|.tup es,η=>(evL es η).bind xB
|.lst h es,η=>(evL es η).bind<|xk h
|.wk m e,η=>(evE e η).bind<|kWk m
|.op o h es,η=>(evL es η).bind<|kOp o h
|.and a b,η=>(evE a η).bind<|uA<|evE b
|.or a b,η=>(evE a η).bind<|kOr<|evE b
|.not a,η=>(evE a η).bind uK
|.ifx c a b,η=>(evE c η).bind<|onT (evE a)<|evE b
|.call f es,η=>(evA es η).bind<|ly C f<|ios es
|.comp h k src tg J elt,η=>(evL src η).bind<|fh h k tg<|fO<|evE elt
|.comp h k src tg (Y c) elt,η=>(evL src η).bind<|fh h k tg<|mY (evE c)<|evE elt
|.pop i es,η=>(chkL<|rd η i).bind<|l9 (evL es) η<|qZ i
|.ixQ i e,η=>(chkL<|rd η i).bind<|kPopN0 (evE e) η<|kIxQ i
|.sdf i j k,η=>(ofO<|sdfT (rd η i) (rd η j)<|rd η k).bind<|kSdf i η
|.inT neg ks e,η=>(evE e η).bind<|kIn neg ks
|.ixT tab e,η=>(evE e η).bind<|kTab tab okS
|.getT tab e,η=>(evE e η).bind<|kGet tab
def evL:U E->Env->Res (U W×Env)
|[],η=>.ok ([],η)
|e::es,η=>(evE e η).bind<|a0<|evL es
def evA:U E->Env->Res (U W×Env)
|[],η=>.ok ([],η)
|.io i::es,η=>(evA es η).bind<|kIo i
|e::es,η=>(evE e η).bind<|a0<|evA es
end
def kT (a:Env)(p:W×Env):Res (QT×Env):=ret a<|truth p.1.2
def kT2 (p:W×Env):Res (QT×Env):=ret p.2<|truth p.1.2
def evX:X->E->Env->RE
|.q a c,e,b=>(evE C e<|pick a c b).bind<|kX a b
|.l a,e,b=>evE C e<|share a b
def evT:X->E->Env->Res (QT×Env)
|.q b c,e,a=>(evE C e<|pick b c a).bind<|kT a
|.l b,e,a=>(evE C e<|share b a).bind kT2
def Fl.of {b:Type}(c:Env):Res b->(b->Fl)->Fl
|.ok a,f=>f a
|.ex _,_=>.no
|.no,_=>.no
noncomputable def Fl.seq:Fl->(Env->Fl)->Fl
|.nx a,f=>f a
|z,_=>z
noncomputable def Fl.turn:Fl->(Env->Fl)->Fl
|.nx a,f=>f a
|.bk a,_=>.nx a
|z,_=>z
noncomputable def onF:QT->(Env->Fl)->(Env->Fl)->Env->Fl
|true,f,_,a=>f a
|false,_,g,a=>g a
def dP (c:U O)(f:Env->Fl):U (U W)->Env->Fl
|[],a=>.nx a
|d::r,a=>Fl.of a (ofO<|bf c d a) λb=>Fl.turn (f b)<|dP c f r
def kIf (f g:Env->Fl)(p:QT×Env):Fl:=onF p.1 f g p.2
def FR (f:Env->Fl)(g:Env->Fl)(a:Env):Fl:=Fl.turn (f a) g
def nxO (a:Env):B Env->Fl
|some a=>.nx a
|none=>.no
def zo (i:O)(p:W×Env):Fl:=.nx<|put p.2 i p.1
def pG (a:U O)(p:W×Env):Fl:=nxO p.2<|(BY p.1).bind λb=>bf a b p.2
def we (i:O)(p:W×Env):Fl:=nxO p.2<|((rd p.2 i).bind λw=>iV w p.1).map λw=>put p.2 i w
def wO (i:O)(p:W×Env):Fl:=nxO p.2<|((rd p.2 i).bind λw=>iY w p.1).map λw=>put p.2 i w
def ug (i:O)(x:W)(q:W×Env):Fl:=nxO q.2<|((rd q.2 i).bind λw=>de w q.1 x).map λw=>put q.2 i w
def nM (i:O)(x:W)(q:W×Env):Fl:=nxO q.2<|((rd q.2 i).bind λw=>gi w q.1 x).map λw=>put q.2 i w
def oA (i:O)(f:Env->RE)(a:Env)(p:W×Env):Fl:=Fl.of a (f p.2)<|nM i p.1
def kLs2 (i a b c:O)(d:Env):Res (W×U W)->Fl
|.ok _=>.nx<|del (del (del (del d i) a) b) c
|_=>.no
def kLs (C:Call)(g i a b c:O)(e:Env):B W->Fl
|some (.d,t)=>kLs2 i a b c e<|C g [(.d,t)]
|_=>.no
def nN (i:O)(x:W)(q:W×Env):Fl:=nxO q.2<|((rd q.2 i).bind λw=>eN w q.1 x).map λw=>put q.2 i w
def oo (i:O)(f:Env->RE)(a:Env)(p:W×Env):Fl:=Fl.of a (f p.2)<|nN i p.1
def zx (i:O)(f:Env->RE)(a:Env)(p:W×Env):Fl:=Fl.of a (f p.2)<|ug i p.1
noncomputable def mI (f:Env->RE)(a:Env)(k:W×Env->Fl)(_:Unit):Fl:=Fl.of a (f a) k
def kNx (p:W×Env):Fl:=.nx p.2
def kRt (p:W×Env):Fl:=.rt p.1 p.2
def pb (a:U O)(f:Env->Fl)(t:U (U W)×Env):Fl:=dP a f t.1 t.2
def rZ (c:U O)(k:Ik)(b:U O)(f:Env->Fl)(a:Env)(p:U W×Env):Fl:=Fl.of a (ret (share c a)<|bb k p.1)<|pb b f
def yR (k:W->Env->Fl)(a:Env):Res (W×U W)->Fl
|.ok (w,[])=>k w a
|.ex t=>.ex t a
|_=>.no
def kC (f:O)(k:W->Env->Fl)(p:U W×Env):Fl:=yR k p.2<|C f p.1
def IP (i:O)(w:W)(a:Env):Fl:=.nx<|put a i w
def Iv (_:W)(a:Env):Fl:=.nx a
def nr (c:O)(fld:Str)(a:O)(p:W×Env):Fl:=if t7 a p.1.1 p.1.2=K1 then .ex (.ins c [fld] [p.1.2]) p.2 else .no
def Fl.drop (i:O):Fl->Fl
|.nx a=>.nx<|del a i
|.rt w a=>.rt w<|del a i
|_=>.no
def Fl.caught (cs:U O)(i:O)(h:Env->Fl):Fl->Fl
|.ex (.ins c fs a) b=>if cs.contains c=K1 then Fl.drop i (h<|put b i (.s,.ins c fs a)) else .no
|.ex _ _=>.no
|z=>z
mutual
def evS:S->Env->Fl
|.asg x i e,η=>Fl.of η (evX C x e η)<|zo i
|.asgT x is e,η=>Fl.of η (evX C x e η)<|pG is
|.setI x i k e,η=>Fl.of η (evX C x e η)<|zx i (evX C x k) η
|.setK x i k e,η=>Fl.of η (evX C x e η)<|oA i (evX C x k) η
|.setS x i k e,η=>Fl.of η (evX C x e η)<|oo i (evX C x k) η
|.lsQ g i a b c,η=>kLs C g i a b c η<|rd η i
|.exp x e,η=>Fl.of η (evX C x e η) kNx
|.app x i e,η=>Fl.of η (chkL<|rd η i)<|mI (evX C x e) η<|we i
|.ext x i e,η=>Fl.of η (chkL<|rd η i)<|mI (evX C x e) η<|wO i
|.ret vs e,η=>Fl.of η (evE C e<|share vs η) kRt
|.ite x c a b,η=>Fl.of η (evT C x c η)<|kIf (evSs a)<|evSs b
|.forS vs ls k src tg body,η=>Fl.of η (evL C src<|pick vs ls η)<|rZ vs k tg (evSs body) η
|.brk,η=>.bk η
|.pas,η=>.nx η
|.stop,_=>.no
|.tri body,η=>evSs body η
|.raise c fld fk x e,η=>Fl.of η (evX C x e η)<|nr c fld fk
def evSs:U S->Env->Fl
|[],η=>.nx η
|s::r,η=>Fl.seq (evS s η)<|evSs r
end
end
def backs:U O->Env->B (U W)
|[],_=>Y []
|i::b,a=>(rd a i).bind λw=>(backs b a).bind λc=>Y (w::c)
def vo (w:W)(b:U W):Res (W×U W):=.ok (w,b)
def Fl.out (b:U O):Fl->Res (W×U W)
|.nx a=>(ofO<|backs b a).bind<|vo (.d,.non)
|.rt w a=>(ofO<|backs b a).bind<|vo w
|.ex t _=>.ex t
|_=>.no
def runF (C:Call)(f:Fn)(a:U W):Res (W×U W):=
 if a.length=f.ps then Fl.out f.io (evSs C f.body<|a.map Y++Lo f.ns J) else .no
abbrev Jz:=U Fn
def lsV (n:O):U W->Res (W×U W)
|[(m,t)]=>if((lf m t==.d)&&(decide (dp t<=n)&&decide (dp t<=64)&&(szS t&&decide (nl t<LIM))))=K1 then .ok ((.d,.gone),[]) else .no
|_=>.no
def callL (P:Jz)(s _r:O):O->Call
|0=>λ_ _=>.no
|n+1=>λf a=>if f=s then lsV n a else(ofO P[f]?).bind λd=>runF (callL P s _r n) d a
abbrev zf:Fn:={ps:=0,ns:=0,io:=[],body:=[.stop]}
theorem FG (C:Call)(i:O)(a:Env):evE C (.var i) a=ret a ((rd a i).bind look):=rfl
theorem C9 (C:Call)(i:O)(a:Env):evE C (.mv i) a=ret (del a i) (rd a i):=rfl
theorem EO (C:Call)(i:O)(a:Env):evE C (.io i) a=ret (del a i) (rd a i):=rfl
theorem EY (C:Call)(t:T)(a:Env):evE C (.cst t) a=.ok ((.d,t),a):=rfl
theorem Dm (C:Call)(a:U E)(b:Env):evE C (.tup a) b=(evL C a b).bind xB:=rfl
theorem BU (C:Call)(h:QT)(a:U E)(b:Env):evE C (.lst h a) b=(evL C a b).bind (xk h):=rfl
theorem D2 (C:Call)(m:Md)(e:E)(a:Env):evE C (.wk m e) a=(evE C e a).bind (kWk m):=rfl
theorem Dw (C:Call)(o:Op)(h:QT)(a:U E)(b:Env):evE C (.op o h a) b=(evL C a b).bind (kOp o h):=rfl
theorem Ay (C:Call)(a:E)(b:E)(c:Env):evE C (.and a b) c=(evE C a c).bind (uA<|evE C b):=rfl
theorem AL (C:Call)(a:E)(b:E)(c:Env):evE C (.or a b) c=(evE C a c).bind (kOr<|evE C b):=rfl
theorem AQ (C:Call)(a:E)(b:Env):evE C (.not a) b=(evE C a b).bind uK:=rfl
theorem AW (C:Call)(c:E)(a:E)(b:E)(d:Env):evE C (.ifx c a b) d=(evE C c d).bind (onT (evE C a)<|evE C b):=rfl
theorem yW (C:Call)(f:O)(a:U E)(b:Env):evE C (.call f a) b=(evA C a b).bind (ly C f<|ios a):=rfl
theorem Ag (C:Call)(h:QT)(k:Ik)(b:U E)(c:U O)(a:E)(d:Env):evE C (.comp h k b c J a) d=(evL C b d).bind (fh h k c<|fO<|evE C a):=rfl
theorem yX (C:Call)(h:QT)(k:Ik)(b:U E)(d:U O)(c:E)(a:E)(e:Env):evE C (.comp h k b d (Y c) a) e=(evL C b e).bind (fh h k d<|mY (evE C c)<|evE C a):=rfl
theorem zJ (C:Call)(i:O)(b:U E)(a:Env):evE C (.pop i b) a=(chkL<|rd a i).bind (l9 (evL C b) a<|qZ i):=rfl
theorem qD (C:Call)(a:QT)(b:U Str)(e:E)(c:Env):evE C (.inT a b e) c=(evE C e c).bind (kIn a b):=rfl
theorem rn (C:Call)(tab:U<|Str×T)(e:E)(a:Env):evE C (.ixT tab e) a=(evE C e a).bind (kTab tab okS):=rfl
theorem nI (C:Call)(tab:U<|Str×T)(e:E)(a:Env):evE C (.getT tab e) a=(evE C e a).bind (kGet tab):=rfl
theorem qh (C:Call)(a:QT)(c:U Str)(e:E)(b:U E)(d:Env):evA C (.inT a c e::b) d=(evE C (.inT a c e) d).bind (a0<|evA C b):=rfl
theorem qj (C:Call)(tab:U<|Str×T)(e:E)(a:U E)(b:Env):evA C (.ixT tab e::a) b=(evE C (.ixT tab e) b).bind (a0<|evA C a):=rfl
theorem mS (C:Call)(tab:U<|Str×T)(e:E)(a:U E)(b:Env):evA C (.getT tab e::a) b=(evE C (.getT tab e) b).bind (a0<|evA C a):=rfl
theorem Cj {b:Type}(tab:U<|Str×b)(f:b->Env->RE)(m:Md)(x:Str)(c:Env):kTab tab f ((m,.str x),c)=(match tab.lookup x with|some a=>f a c | none=>.no):=rfl
theorem CG (h:QT)(m n:Md)(a:U T)(i:I):oSem .sl2 h [(m,.lst a),(n,.int i)]=newL h m.kid (cut a J<|Y i):=rfl
theorem Ep (h:QT)(m n:Md)(a:U T)(i:I):oSem .sl1 h [(m,.lst a),(n,.int i)]=newL h m.kid (cut a (Y i) J):=rfl
theorem C0 (h:QT)(m n:Md)(a:U T)(k:I):oSem .mul h [(m,.lst a),(n,.int k)]=if decide (k.natAbs<4611686018427387904)&&fits (a.length * k.toNat) then newL h .s (Lo k.toNat a).flatten else none:=rfl
theorem zw (m n:Md)(a b:U T):bb .zip [(m,.lst a),(n,.lst b)]=Y (fF .s .s a b):=rfl
theorem zv (m n:Md)(a b:U T):bb .zip [(m,.tup a),(n,.tup b)]=Y (fF .s .s a b):=rfl
def lkM:Md->Md
|.s=>.s|_=>.d
theorem J0:lkM .s=.s:=rfl
theorem Kl:lkM .d=.d:=rfl
theorem JH (m:Md):lkM (.o m)=.d:=rfl
theorem IE (m:Md)(i:I):look (m,.int i)=Y (lkM m,.int i):=by cases m<;>rfl
theorem Gf (m:Md)(b:QT):look (m,.bl b)=Y (lkM m,.bl b):=by cases m<;>rfl
theorem Gp (m:Md)(x:Str):look (m,.str x)=Y (lkM m,.str x):=by cases m<;>rfl
theorem GY (m:Md):look (m,.non)=Y (lkM m,.non):=by cases m<;>rfl
theorem CA (m n k:Md)(a b c:U T):bb .zip3 [(m,.lst a),(n,.lst b),(k,.lst c)]=Y (uR a b c):=rfl
theorem Ks (a:QT)(b:U Str)(m:Md)(x:Str)(c:Env):kIn a b ((m,.str x),c)=.ok ((.d,.bl<|b.contains x != a),c):=rfl
theorem F3 (tab:U<|Str×T)(m:Md)(x:Str)(a:Env):kGet tab ((m,.str x),a)=.ok ((.s,(tab.lookup x).getD .non),a):=rfl
theorem E6 (m:Md)(a:U T)(j:I):ixVT (Y (.o .s,.lst a)) (Y (m,.int j))=(atI a j).map λt=>(.s,t):=rfl
theorem EF (m:Md)(a:U T)(j:I):ixVT (Y (.s,.lst a)) (Y (m,.int j))=(atI a j).map λt=>(.s,t):=rfl
theorem Cu (C:Call)(a:Env):evA C [] a=.ok ([],a):=rfl
theorem EU (C:Call)(i:O)(a:U E)(b:Env):evA C (.io i::a) b=(evA C a b).bind (kIo i):=rfl
theorem qY (C:Call)(i:O)(a:U E)(b:Env):evA C (.var i::a) b=(evE C (.var i) b).bind (a0<|evA C a):=rfl
theorem wX (C:Call)(i:O)(a:U E)(b:Env):evA C (.mv i::a) b=(evE C (.mv i) b).bind (a0<|evA C a):=rfl
theorem qw (C:Call)(t:T)(a:U E)(b:Env):evA C (.cst t::a) b=(evE C (.cst t) b).bind (a0<|evA C a):=rfl
theorem qC (C:Call)(l:U E)(a:U E)(b:Env):evA C (.tup l::a) b=(evE C (.tup l) b).bind (a0<|evA C a):=rfl
theorem qk (C:Call)(h:QT)(l:U E)(a:U E)(b:Env):evA C (.lst h l::a) b=(evE C (.lst h l) b).bind (a0<|evA C a):=rfl
theorem tq (C:Call)(o:Op)(h:QT)(l:U E)(a:U E)(b:Env):evA C (.op o h l::a) b=(evE C (.op o h l) b).bind (a0<|evA C a):=rfl
theorem uc (C:Call)(m:Md)(e:E)(a:U E)(b:Env):evA C (.wk m e::a) b=(evE C (.wk m e) b).bind (a0<|evA C a):=rfl
theorem qg (C:Call)(a b:E)(c:U E)(d:Env):evA C (.and a b::c) d=(evE C (.and a b) d).bind (a0<|evA C c):=rfl
theorem r9 (C:Call)(a b:E)(c:U E)(d:Env):evA C (.or a b::c) d=(evE C (.or a b) d).bind (a0<|evA C c):=rfl
theorem qy (C:Call)(a:E)(b:U E)(c:Env):evA C (.not a::b) c=(evE C (.not a) c).bind (a0<|evA C b):=rfl
theorem rm (C:Call)(c a b:E)(d:U E)(e:Env):evA C (.ifx c a b::d) e=(evE C (.ifx c a b) e).bind (a0<|evA C d):=rfl
theorem m9 (C:Call)(f:O)(l:U E)(a:U E)(b:Env):evA C (.call f l::a) b=(evE C (.call f l) b).bind (a0<|evA C a):=rfl
theorem nO (C:Call)(h:QT)(k:Ik)(c:U E)(e:U O)(a:B E)(b:E)(d:U E)(f:Env):evA C (.comp h k c e a b::d) f=(evE C (.comp h k c e a b) f).bind (a0<|evA C d):=rfl
theorem rU (C:Call)(i:O)(l:U E)(a:U E)(b:Env):evA C (.pop i l::a) b=(evE C (.pop i l) b).bind (a0<|evA C a):=rfl
theorem C4 {C:Call}{e:E}{a:U E}{b:Env}(c:∀i,e≠.io i):evA C (e::a) b=(evE C e b).bind (a0<|evA C a):=by
 cases e with
 |io i=>exact QW rfl (c i)
 |_=>rfl
theorem Aq (C:Call)(a:Env):evL C ([]) a=.ok ([],a):=rfl
theorem Ad (C:Call)(e:E)(a:U E)(b:Env):evL C (e::a) b=(evE C e b).bind (a0<|evL C a):=rfl
theorem yD (C:Call)(x:X)(i:O)(e:E)(a:Env):evS C (.asg x i e) a=Fl.of a (evX C x e a) (zo i):=rfl
theorem zR (C:Call)(x:X)(b:U O)(e:E)(a:Env):evS C (.asgT x b e) a=Fl.of a (evX C x e a) (pG b):=rfl
theorem my (C:Call)(x:X)(i:O)(k:E)(e:E)(a:Env):evS C (.setK x i k e) a=Fl.of a (evX C x e a) (oA i (evX C x k) a):=rfl
theorem AV (C:Call)(x:X)(i:O)(k:E)(e:E)(a:Env):evS C (.setI x i k e) a=Fl.of a (evX C x e a) (zx i (evX C x k) a):=rfl
theorem yk (C:Call)(x:X)(e:E)(a:Env):evS C (.exp x e) a=Fl.of a (evX C x e a) kNx:=rfl
theorem Ao (C:Call)(x:X)(i:O)(e:E)(a:Env):evS C (.app x i e) a=Fl.of a (chkL<|rd a i) (mI (evX C x e) a<|we i):=rfl
theorem yb (C:Call)(x:X)(i:O)(e:E)(a:Env):evS C (.ext x i e) a=Fl.of a (chkL<|rd a i) (mI (evX C x e) a<|wO i):=rfl
theorem zF (C:Call)(b:U O)(e:E)(a:Env):evS C (.ret b e) a=Fl.of a (evE C e<|share b a) kRt:=rfl
theorem xO (C:Call)(x:X)(c:E)(a:U S)(b:U S)(d:Env):evS C (.ite x c a b) d=Fl.of d (evT C x c d) (kIf (evSs C a)<|evSs C b):=rfl
theorem yd (C:Call)(d:U O)(e:U O)(k:Ik)(b:U E)(f:U O)(a:U S)(c:Env):evS C (.forS d e k b f a) c=Fl.of c (evL C b<|pick d e c) (rZ d k f (evSs C a) c):=rfl
theorem yG (C:Call)(a:Env):evS C (.brk) a=.bk a:=rfl
theorem yx (C:Call)(a:Env):evS C (.pas) a=.nx a:=rfl
theorem vA (C:Call)(a:Env):evSs C ([]) a=.nx a:=rfl
theorem lu (C:Call)(s:S)(r:U S)(a:Env):evSs C (s::r) a=Fl.seq (evS C s a) (evSs C r):=rfl
theorem yT (C:Call)(a:U O)(c:U O)(e:E)(b:Env):evX C (.q a c) e b=(evE C e<|pick a c b).bind (kX a b):=rfl
theorem zO (C:Call)(a:U O)(e:E)(b:Env):evX C (.l a) e b=evE C e (share a b):=rfl
theorem AG (C:Call)(c:U O)(b:U O)(e:E)(a:Env):evT C (.q c b) e a=(evE C e<|pick c b a).bind (kT a):=rfl
theorem yY (C:Call)(a:U O)(e:E)(b:Env):evT C (.l a) e b=(evE C e<|share a b).bind kT2:=rfl
theorem DM {b c:Type}(a:b)(f:b->Res c):(Res.ok a).bind f=f a:=rfl
theorem Jt {b:Type}(c:Env)(a:b)(f:b->Fl):Fl.of c (.ok a) f=f a:=rfl
theorem CK (a:Env)(f:Env->Fl):Fl.seq (.nx a) f=f a:=rfl
theorem CH (w:W)(a:Env)(f:Env->Fl):Fl.seq (.rt w a) f=.rt w a:=rfl
theorem DO (a:Env)(f:Env->Fl):Fl.seq (.bk a) f=.bk a:=rfl
theorem Al (a:Env)(f:Env->Fl):Fl.turn (.nx a) f=f a:=rfl
theorem yS (w:W)(a:Env)(f:Env->Fl):Fl.turn (.rt w a) f=.rt w a:=rfl
theorem Af (a:Env)(f:Env->Fl):Fl.turn (.bk a) f=.nx a:=rfl
theorem Cv {b:Type}(f g:Env->Res b)(a:Env):onB (.bl K1) f g a=f a:=rfl
theorem ED {b:Type}(f g:Env->Res b)(a:Env):onB (.bl K0) f g a=g a:=rfl
theorem BV {c:Type}(f g:Env->Res c)(m:Md)(b:QT)(a:Env):onT f g ((m,.bl b),a)=onB (.bl b) f g a:=by cases b<;>rfl
theorem ER {b:Type}(f g:Env->Res b)(m:Md)(a:Env):onT f g ((m,.bl K1),a)=f a:=rfl
theorem CQ {b:Type}(f g:Env->Res b)(m:Md)(a:Env):onT f g ((m,.bl K0),a)=g a:=rfl
theorem CC (f g:Env->Fl)(a:Env):onF K1 f g a=f a:=rfl
theorem El (f g:Env->Fl)(a:Env):onF K0 f g a=g a:=rfl
theorem GA {b:Type}(a:b):ofO (Y a)=.ok a:=rfl
theorem GR {c:Type}(b:Env)(a:c):ret b (Y a)=.ok (a,b):=rfl
theorem GZ (o:B W)(a:Env):rd (o::a) 0=o:=rfl
theorem GC (o:B W)(a:Env)(i:O):rd (o::a) (i+1)=rd a i:=rfl
theorem Jg (o w:B W)(a:Env):wr (o::a) 0 w=w::a:=rfl
theorem Hr (o w:B W)(a:Env)(i:O):wr (o::a) (i+1) w=o::wr a i w:=rfl
theorem Ar (t:T):look (.s,t)=Y (.s,t):=rfl
theorem ai (t:T):look (.d,t)=if t.leaf=K1 then Y (.d,t) else none:=rfl
theorem xW (m:Md)(i:I):(look (.d,.int i))=Y (.d,.int i):=rfl
theorem xT (m:Md)(b:QT):(look (.d,.bl b))=Y (.d,.bl b):=rfl
theorem Ak (x:Str):(look (.d,.str x))=Y (.d,.str x):=rfl
theorem yy:(look (.d,.non))=Y (.d,.non):=rfl
theorem Jc (m:Md)(t:T):toS (Y (m,t))=Y (.s,t):=rfl
theorem EC:toS J=none:=rfl
theorem sJ (a:Env):share [] a=a:=rfl
theorem wV (i:O)(b:U O)(a:Env):share (i::b) a=share b (wr a i<|toS<|rd a i):=rfl
theorem xy:ib []=[]:=rfl
theorem wg (o:B W)(a:Env):ib (o::a)=none::ib a:=rfl
theorem BM (c b:U O)(a:Env):pick c b a=iL b a (nW c a<|ib a):=rfl
theorem ya (a b:Env):nW [] a b=b:=rfl
theorem zM (i:O)(b:U O)(a c:Env):nW (i::b) a c=nW b a (wr c i<|toS<|rd a i):=rfl
theorem vJ (a b:Env):iL [] a b=b:=rfl
theorem wU (i:O)(b:U O)(a c:Env):iL (i::b) a c=iL b a (wr c i<|lfO<|rd a i):=rfl
theorem Ha (m:Md)(i:I):lfO (Y (m,.int i))=Y (.d,.int i):=rfl
theorem GL (m:Md)(b:QT):lfO (Y (m,.bl b))=Y (.d,.bl b):=rfl
theorem Gu (m:Md)(x:Str):lfO (Y (m,.str x))=Y (.d,.str x):=rfl
theorem Iw (m:Md):lfO (Y (m,.non))=Y (.d,.non):=rfl
theorem sr (b:U O)(a:Env):after .d b a=a:=rfl
theorem wR (a:U O)(b:Env):after .s a b=share a b:=rfl
theorem va (m:Md)(a:U O)(b:Env):after (.o m) a b=share a b:=rfl
theorem Cp (m:Md)(i:I):lf m (.int i)=.d:=rfl
theorem DN (m:Md)(b:QT):lf m (.bl b)=.d:=rfl
theorem Fj (m:Md)(x:Str):lf m (.str x)=.d:=rfl
theorem CD (m:Md):lf m .non=.d:=rfl
theorem Ee (m:Md)(a:U T):lf m (.lst a)=m:=rfl
theorem Fz (m:Md)(a:U T):lf m (.tup a)=m:=rfl
theorem CT (t:T):lf .d t=.d:=by unfold lf;split<;>rfl
theorem Cb (m:Md):Md.s.le m=true:=by cases m<;>rfl
theorem xP:Md.d.le .d=true:=rfl
theorem zu (m:Md):(Md.o m).le .d=true:=rfl
theorem ye (m n:Md):(Md.o m).le (.o n)=m.le n:=rfl
theorem Dx (h:QT)(m n:Md)(i j:I):oSem .add h [(m,.int i),(n,.int j)]=Y (.d,.int<|i+j):=rfl
theorem uX (h:QT)(m n:Md)(a b:U T):oSem .add h [(m,.lst a),(n,.lst b)]=if fits (a.length+b.length) then newL h (m.kid.meet n.kid) (a++b) else none:=rfl
theorem w8 (h:QT)(m n:Md)(x y:Str):oSem .add h [(m,.str x),(n,.str y)]=if fits (x.cps.size+y.cps.size) then Y (.d,.str<|x++y) else none:=rfl
theorem sP (h:QT)(m n:Md)(a b:U T):oSem .add h [(m,.tup a),(n,.tup b)]=if fits (a.length+b.length)&&!a.isEmpty then Y (.s,.tup<|a++b) else none:=rfl
theorem IF (h:QT)(m n:Md)(i j:I):oSem .sub h [(m,.int i),(n,.int j)]=Y (.d,.int<|i-j):=rfl
theorem uG (h:QT)(m n:Md)(i j:I):oSem .mul h [(m,.int i),(n,.int j)]=if(decide (i.natAbs<18446744073709551616)) || (decide (j.natAbs<18446744073709551616)) then Y (.d,.int<|i * j) else none:=rfl
theorem D1 (h:QT)(m n:Md)(i j:I):oSem .fdiv h [(m,.int i),(n,.int j)]=if decide (0<j)&&decide (j<1073741824) then Y (.d,.int<|i / j) else none:=rfl
theorem BJ (h:QT)(m n:Md)(i j:I):oSem .mod h [(m,.int i),(n,.int j)]=if decide (0<j) then Y (.d,.int<|i % j) else none:=rfl
theorem Hx (h:QT)(m n:Md)(i j:I):oSem .pow h [(m,.int i),(n,.int j)]=if decide (0<=j)&&decide (j<=1000000)&&decide (i.natAbs<18446744073709551616) then Y (.d,.int<|i ^ j.toNat) else none:=rfl
theorem DI (h:QT)(m n:Md)(i j:I):oSem .eq h [(m,.int i),(n,.int j)]=Y (.d,.bl<|i==j):=rfl
theorem DH (h:QT)(m n:Md)(x y:Str):oSem .eq h [(m,.str x),(n,.str y)]=Y (.d,.bl<|x==y):=rfl
theorem Dg (h:QT)(m n:Md)(a b:QT):oSem .eq h [(m,.bl a),(n,.bl b)]=Y (.d,.bl<|a==b):=rfl
theorem EJ (h:QT)(m n:Md)(i j:I):oSem .ne h [(m,.int i),(n,.int j)]=Y (.d,.bl<|!(i==j)):=rfl
theorem BX (h:QT)(m n:Md)(x y:Str):oSem .ne h [(m,.str x),(n,.str y)]=Y (.d,.bl<|!(x==y)):=rfl
theorem EW (h:QT)(m n:Md)(a b:QT):oSem .ne h [(m,.bl a),(n,.bl b)]=Y (.d,.bl<|!(a==b)):=rfl
theorem J4 (h:QT)(m n:Md)(i j:I):oSem .lt h [(m,.int i),(n,.int j)]=Y (.d,.bl<|decide (i<j)):=rfl
theorem Jo (h:QT)(m n:Md)(i j:I):oSem .le h [(m,.int i),(n,.int j)]=Y (.d,.bl<|decide (i<=j)):=rfl
theorem Jj (h:QT)(m n:Md)(i j:I):oSem .gt h [(m,.int i),(n,.int j)]=Y (.d,.bl<|decide (j<i)):=rfl
theorem JU (h:QT)(m n:Md)(i j:I):oSem .ge h [(m,.int i),(n,.int j)]=Y (.d,.bl<|decide (j<=i)):=rfl
theorem Kv (h:QT)(m n:Md)(a:T):oSem .is h [(m,a),(n,.non)]=if a.isG then J else Y (.d,.bl a.isN):=rfl
theorem xI (h:QT)(m n:Md)(a:T):oSem .isnot h [(m,a),(n,.non)]=if a.isG then J else Y (.d,.bl<|!a.isN):=rfl
theorem I0 (h:QT)(m n:Md)(a:U T)(i:I):oSem .ix h [(m,.lst a),(n,.int i)]=(atI a i).map λt=>(m.kid,t):=rfl
theorem FK (h:QT)(m n:Md)(a:U T)(i:I):oSem .ix h [(m,.tup a),(n,.int i)]=(atI a i).map λt=>(m.kid,t):=rfl
theorem Fe (h:QT)(m:Md)(a:U T):oSem .len h [(m,.lst a)]=Y (.d,.int a.length):=rfl
theorem FC (h:QT)(m:Md)(a:U T):oSem .len h [(m,.tup a)]=Y (.d,.int a.length):=rfl
theorem DB (h:QT)(m:Md)(a:U I):oSem .len h [(m,.scr a)]=Y (.d,.int a.length):=rfl
theorem Il (h:QT)(m n:Md)(a:U I)(i:I):oSem .ix h [(m,.scr a),(n,.int i)]=(atI a i).map λn=>(.d,.int n):=rfl
theorem ID (h:QT)(m n:Md)(a:U I)(i:I):oSem .sl2 h [(m,.scr a),(n,.int i)]=Y (.d,.lst<|(cut a J<|Y i).map T.int):=rfl
theorem C2 (m:Md)(a:U I):lf m (.scr a)=.d:=rfl
theorem Hi (m:Md)(a:U I):lfO (Y (m,.scr a))=Y (.d,.scr a):=rfl
theorem zZ (a:U I):look (.d,.scr a)=Y (.d,.scr a):=rfl
theorem DT (h:QT)(m:Md)(x:Str):oSem .len h [(m,.str x)]=Y (.d,.int x.cps.size):=rfl
theorem FA (fld g:Str)(c:O)(h:QT)(m:Md)(a:U T):oSem (.att fld) h [(m,.ins c [g] [.tup a])]=if(g==fld)=K1 then Y (.s,.tup a) else none:=rfl
theorem CB (fld g:Str)(c:O)(h:QT)(m:Md)(x:Str):oSem (.att fld) h [(m,.ins c [g] [.str x])]=if(g==fld)=K1 then Y (.d,.str x) else none:=rfl
theorem JA (c:O)(fld:Str)(a:O)(h:QT)(m:Md)(t:T):oSem (.mk c fld a) h [(m,t)]=if t7 a m t=K1 then Y (.s,.ins c [fld] [t]) else none:=rfl
theorem HE (fld g:Str)(c:O)(h:QT)(m:Md)(n:I):oSem (.att fld) h [(m,.ins c [g] [.int n])]=if(g==fld)=K1 then Y (.d,.int n) else none:=rfl
theorem F7 (cs:U Q4)(h:QT)(m:Md)(a:T):oSem (.isI cs) h [(m,a)]=if a.isH then J else Y (.d,.bl<|cs.any λc=>isOne c a):=rfl
theorem F6 (c:O)(fs:U Str)(a:U T):T.isG (.ins c fs a)=false:=rfl
theorem IM (c:O)(fs:U Str)(a:U T):T.isN (.ins c fs a)=false:=rfl
theorem IT:T.isH .non=false:=rfl
theorem Kp (b:QT):T.isH (.bl b)=false:=rfl
theorem FJ (i:I):T.isH (.int i)=false:=rfl
theorem HR (x:Str):T.isH (.str x)=false:=rfl
theorem HW (a:U T):T.isH (.tup a)=false:=rfl
theorem IB (a:U T):T.isH (.lst a)=false:=rfl
theorem Hg (a:U I):T.isH (.scr a)=false:=rfl
theorem Jd:T.isG .non=false:=rfl
theorem Kj (b:QT):T.isG (.bl b)=false:=rfl
theorem IW (i:I):T.isG (.int i)=false:=rfl
theorem G9 (x:Str):T.isG (.str x)=false:=rfl
theorem Ic (a:U T):T.isG (.tup a)=false:=rfl
theorem IU (a:U T):T.isG (.lst a)=false:=rfl
theorem Hm (a:U<|I ⊕ Str)(b:U T):T.isG (.dct a b)=false:=rfl
theorem I9 (a:U<|I ⊕ Str)(b:U T):T.isN (.dct a b)=false:=rfl
theorem GB (a:U I):T.isG (.scr a)=false:=rfl
theorem F8:T.isN .non=true:=rfl
theorem J9 (b:QT):T.isN (.bl b)=false:=rfl
theorem Im (i:I):T.isN (.int i)=false:=rfl
theorem FZ (x:Str):T.isN (.str x)=false:=rfl
theorem HX (a:U T):T.isN (.tup a)=false:=rfl
theorem Hs (a:U T):T.isN (.lst a)=false:=rfl
theorem xU (h:QT)(m:Md)(a:U T):oSem .list h [(m,.lst a)]=newL h m.kid a:=rfl
theorem zy (h:QT)(m:Md)(a:U T):oSem .list h [(m,.tup a)]=newL h m.kid a:=rfl
theorem FE (h:QT)(m n:Md)(a:T)(b:U T):oSem .isin h [(m,a),(n,.tup b)]=if flatT a&&b.all flatT then Y (.d,.bl<|b.any λt=>eqT t a) else none:=rfl
theorem yi (h:QT)(m n:Md)(a:T)(b:U T):oSem .isin h [(m,a),(n,.lst b)]=if flatT a&&b.all flatT then Y (.d,.bl<|b.any λt=>eqT t a) else none:=rfl
theorem xY (h:QT)(m n:Md)(a:T)(b:U T):oSem .notin h [(m,a),(n,.tup b)]=if flatT a&&b.all flatT then Y (.d,.bl<|!b.any λt=>eqT t a) else none:=rfl
theorem yC (h:QT)(m:Md)(x:Str):oSem .lower h [(m,.str x)]=if x.cps.toList.all (λc=>decide (c<128)) then Y (.d,.str ⟨x.cps.map IK⟩) else none:=rfl
theorem EK (h:QT)(a b:U T):oSem .catD h [(.d,.tup a),(.d,.tup b)]=if fits (a.length+b.length) then Y (.d,.tup<|a++b) else none:=rfl
theorem Ff (h:QT)(m n:Md)(a b:U T):oSem .catT h [(m,.tup a),(n,.tup b)]=if fits (a.length+b.length) then Y (.s,.tup<|a++b) else none:=rfl
theorem GJ (h:QT)(n:Md)(a:U<|I ⊕ Str)(b:U T)(k:T):oSem .ixD h [(.s,.dct a b),(n,k)]=(keyT k).bind λq=>(lookD q a b).map λt=>(.s,t):=rfl
theorem Dc (tab:U<|Str×I)(h:QT)(m n:Md)(x:Str)(d:I):oSem (.getI tab) h [(m,.str x),(n,.int d)]=Y (.d,.int<|(tab.lookup x).getD d):=rfl
theorem EN (h:QT)(n:Md)(a:U<|I ⊕ Str)(b:U T)(k:T):oSem .getD h [(.s,.dct a b),(n,k)]=(keyT k).map λq=>(.s,(lookD q a b).getD .non):=rfl
theorem FX (h:QT)(n:Md)(a:U<|I ⊕ Str)(b:U T)(k:T):oSem .inD h [(n,k),(.s,.dct a b)]=(keyT k).map λq=>(.d,.bl (lookD q a b).isSome):=rfl
theorem Ez (h:QT)(a:U<|I ⊕ Str)(b:U T):oSem .dcpy h [(.s,.dct a b)]=Y (.o .s,.dct a b):=rfl
theorem BR (h:QT)(m n:Md)(x:Str)(t:T):oSem .dsp1 h [(m,.str x),(n,t)]=Y (.o .s,.dct [.inr x] [t]):=rfl
theorem ql (C:Call)(i j k:O)(a:Env):evE C (.sdf i j k) a=(ofO<|sdfT (rd a i) (rd a j)<|rd a k).bind (kSdf i a):=rfl
theorem rM (C:Call)(i j k:O)(a:U E)(b:Env):evA C (.sdf i j k::a) b=(evE C (.sdf i j k) b).bind (a0<|evA C a):=rfl
theorem qL (C:Call)(i:O)(e:E)(a:Env):evE C (.ixQ i e) a=(chkL<|rd a i).bind (kPopN0 (evE C e) a<|kIxQ i):=rfl
theorem qt (C:Call)(i:O)(e:E)(a:U E)(b:Env):evA C (.ixQ i e::a) b=(evE C (.ixQ i e) b).bind (a0<|evA C a):=rfl
theorem mN (C:Call)(x:X)(i:O)(k e:E)(a:Env):evS C (.setS x i k e) a=Fl.of a (evX C x e a) (oo i (evX C x k) a):=rfl
theorem Eg (h:QT):oSem .dnew h []=Y (.d,.dct [] []):=rfl
theorem rR (h:QT)(m:Md)(a:U<|I ⊕ Str)(c:U T):oSem .sortedD h [(m,.dct a c)]=(strsK a).bind λb=>if decide (b.length<64) then Y (.d,.lst<|(sortS b).map T.str) else none:=rfl
theorem Fw (m:Md)(a:U T):bb .enmT [(m,.tup a)]=Y (ie .s 0 a):=rfl
theorem uI (h:QT)(m n:Md)(a:T)(b:U T):oSem .notin h [(m,a),(n,.lst b)]=if flatT a&&b.all flatT then Y (.d,.bl<|!b.any λt=>eqT t a) else none:=rfl
theorem xt (h:QT)(m:Md)(b:U T):oSem .sorted h [(m,.lst b)]=(intsOf b).bind λa=>if decide (a.length<64) then Y (.d,.lst<|(wZ a).map T.int) else none:=rfl
theorem D6 (h:QT)(m n:Md)(z:Str)(b:U T):oSem .join h [(m,.str z),(n,.lst b)]=(strsOf b).bind λa=>if sOk (Str.join z a)&&decide ((a.map λs=>s.cps.size+z.cps.size).sum<=LIM) then Y (.d,.str<|Str.join z a) else none:=rfl
theorem yj (h:QT)(m n:Md)(z y:Str):oSem .split h [(m,.str z),(n,.str y)]=if(y==Str.ofString " ")&&decide (z.cps.size+2<=LIM)&&(splS z).all sOk then Y (.d,.lst<|(splS z).map T.str) else none:=rfl
theorem mw (C:Call)(c:O)(fld:Str)(b:O)(x:X)(e:E)(a:Env):evS C (.raise c fld b x e) a=Fl.of a (evX C x e a) (nr c fld b):=rfl
theorem JR (C:Call)(f:O)(k:W->Env->Fl)(a:U W)(b:Env):kC C f k (a,b)=yR k b (C f a):=rfl
theorem B7 (k:W->Env->Fl)(a:Env)(w:W):yR k a (.ok (w,[]))=k w a:=rfl
theorem EZ (k:W->Env->Fl)(a:Env)(t:T):yR k a (.ex t)=.ex t a:=rfl
theorem xM (i:O)(w:W)(a:Env):IP i w a=.nx (put a i w):=rfl
theorem zE (w:W)(a:Env):Iv w a=.nx a:=rfl
theorem tO (c:O)(fld:Str)(m:Md)(n:I)(a:Env):nr c fld 0 ((m,.int n),a)=if decide (n.natAbs.log2<1920)=K1 then .ex (.ins c [fld] [.int n]) a else .no:=rfl
theorem ue (cs:U O)(i:O)(h:Env->Fl)(c:O)(fs:U Str)(a:U T)(b:Env):Fl.caught cs i h (.ex (.ins c fs a) b)=if cs.contains c=K1 then Fl.drop i (h<|put b i (.s,.ins c fs a)) else .no:=rfl
theorem qM (cs:U O)(i:O)(h:Env->Fl)(a:Env):Fl.caught cs i h (.nx a)=.nx a:=rfl
theorem rE (cs:U O)(i:O)(h:Env->Fl)(w:W)(a:Env):Fl.caught cs i h (.rt w a)=.rt w a:=rfl
theorem DW (i:O)(a:Env):Fl.drop i (.nx a)=.nx (del a i):=rfl
theorem Ap (i:O)(w:W)(a:Env):Fl.drop i (.rt w a)=.rt w (del a i):=rfl
theorem rf (C:Call)(g i a b c:O)(d:Env):evS C (.lsQ g i a b c) d=kLs C g i a b c d (rd d i):=rfl
theorem HV (C:Call)(g i a b c:O)(e:Env)(t:T):kLs C g i a b c e (Y (.d,t))=kLs2 i a b c e (C g [(.d,t)]):=rfl
theorem Dn (i a b c:O)(d:Env)(r:W×U W):kLs2 i a b c d (.ok r)=.nx (del (del (del (del d i) a) b) c):=rfl
theorem p9 (C:Call)(a:U S)(b:Env):evS C (.tri a) b=evSs C a b:=rfl
theorem zH (h:QT)(m n:Md)(i j:I):oSem .fdivN h [(m,.int i),(n,.int j)]=if(j != 0)&&decide (j.natAbs<18446744073709551616) then Y (.d,.int<|i.fdiv j) else none:=rfl
theorem De (h:QT)(m n:Md)(i j:I):oSem .modN h [(m,.int i),(n,.int j)]=if j != 0 then Y (.d,.int<|i.fmod j) else none:=rfl
theorem JP (h:QT)(m:Md)(t:T):oSem .nl h [(m,t)]=if noL t then Y (.d,t) else none:=rfl
theorem ES (h:QT)(a:U T):oSem .dtup h [(.s,.lst a)]=(dtPs a).bind λp=>if decide p.1.Nodup&&decide (a.length<=LIM) then Y (.s,.dtt p.1 p.2) else none:=rfl
theorem Dh (h:QT)(m n:Md)(a:U<|U I)(c b:U T):oSem .ixDT h [(m,.dtt a c),(n,.tup b)]=(intsOf b).bind λk=>(lookT k a c).map λt=>(.s,t):=rfl
theorem E2 (m:Md)(a:U T):bb .sq2T [(m,.tup a)]=pairsT a:=rfl
theorem Dt (h:QT)(m:Md)(a:U T):oSem .tuple h [(m,.lst a)]=Y (m.kid.up,.tup a):=rfl
theorem G8 (h:QT)(m:Md)(a:U T):oSem .all h [(m,.lst a)]=(bq a).map λbs=>(.d,.bl<|bs.all id):=rfl
theorem E8 (m:Md)(a:U T):newL K1 m a=if leaves a then Y (.d,.lst a) else none:=rfl
theorem Cy (m:Md)(a:U T):newL K0 m a=Y (m.up,.lst a):=rfl
theorem Dv (m:Md)(a:U T):bb .seq [(m,.lst a)]=Y (a.map λt=>[(.s,t)]):=rfl
theorem Ea (m:Md)(a:U T):bb .seq [(m,.tup a)]=Y (a.map λt=>[(.s,t)]):=rfl
theorem Fg (m n o:Md)(i j c:I):bb .rng [(m,.int i),(n,.int j),(o,.int c)]=if decide (i.natAbs<4611686018427387904)&&decide (j.natAbs<4611686018427387904)&&decide (c=-1)&&fits (i-j).toNat then Y ((Lx (i-j).toNat).map λ(k:O)=>[(.d,.int<|i-k)]) else none:=rfl
theorem tf (m:Md)(n:I):bb .rng [(m,.int n)]=if decide (n.natAbs<4611686018427387904)&&fits n.toNat then Y ((Lx n.toNat).map λ(k:O)=>[(.d,.int k)]) else none:=rfl
theorem uh (a:Env):bf [] [] a=Y a:=rfl
theorem vh (i:O)(a:U O)(w:W)(b:U W)(c:Env):bf (i::a) (w::b) c=bf a b (put c i w):=rfl
theorem Hw {b c:Type}(f:b->c)(a:b):(Y a).map f=Y (f a):=rfl
theorem vS (b:QT):truth (.bl b)=Y b:=rfl
theorem tj (i:I):truth (.int i)=Y (i != 0):=rfl
theorem yE {b c:Type}(a:b)(f:b->B c):(Y a).bind f=f a:=rfl
theorem xR:Md.s.kid=.s:=rfl
theorem Ah:Md.d.kid=.d:=rfl
theorem ze (m:Md):(Md.o m).kid=m:=rfl
theorem DQ:Md.s.up=.o .s:=rfl
theorem Dz:Md.d.up=.d:=rfl
theorem Cs (m:Md):(Md.o m).up=.o (.o m):=rfl
theorem vL (m:Md):Md.s.meet m=.s:=by cases m<;>rfl
theorem fo (m:Md):Md.d.meet m=m:=by cases m<;>rfl
theorem rK (m:Md):(Md.o m).meet .s=.s:=rfl
theorem qS (m:Md):(Md.o m).meet .d=.o m:=rfl
theorem rB (m n:Md):(Md.o m).meet (.o n)=.o (m.meet n):=rfl
theorem Dk (n:Md)(a:U T)(t:T):iV (.d,.lst a) (n,t)=if a.length<LIM then Y ((lf n t).up,.lst<|a++[t]) else none:=by show(if _ then Y ((Md.d.meet _).up,_) else J)=_;rw[fo]
theorem Fc (m n:Md)(a:U T)(t:T):iV (.o m,.lst a) (n,t)=if a.length<LIM then Y ((m.meet<|lf n t).up,.lst<|a++[t]) else none:=rfl
theorem Ds (n:Md)(a b:U T):iY (.d,.lst a) (n,.lst b)=if a.length+b.length<=LIM then Y (n.kid.up,.lst<|a++b) else none:=by show(if _ then Y ((Md.d.meet _).up,_) else J)=_;rw[fo]
theorem Fb (m n:Md)(a b:U T):iY (.o m,.lst a) (n,.lst b)=if a.length+b.length<=LIM then Y ((m.meet n.kid).up,.lst<|a++b) else none:=rfl
theorem CI (l n:Md)(a:U T)(t:T)(j:I):de (.d,.lst a) (l,.int j) (n,t)=(ixN a.length j).map λk=>((lf n t).up,.lst<|a.set k t):=by show((ixN a.length j).map λk=>((Md.d.meet _).up,_))=_;rw[fo]
theorem Fv (m l n:Md)(a:U T)(t:T)(j:I):de (.o m,.lst a) (l,.int j) (n,t)=(ixN a.length j).map λk=>((m.meet<|lf n t).up,.lst<|a.set k t):=rfl
theorem DU (m:Md)(a:U T):chkL (Y (m,.lst a))=.ok ():=rfl
theorem EG (m:Md)(a:U T):BY (m,.tup a)=Y (a.map λt=>(m.kid,t)):=rfl
theorem GQ (b a:Env):nxO b (Y a)=.nx a:=rfl
theorem wm (a:Env):backs [] a=Y []:=rfl
theorem vF (i:O)(b:U O)(a:Env):backs (i::b) a=(rd a i).bind λw=>(backs b a).bind λc=>Y (w::c):=rfl
theorem Eo (a:U O)(b:Env):Fl.out a (.nx b)=(ofO<|backs a b).bind (vo (.d,.non)):=rfl
theorem BN (a:U O)(w:W)(b:Env):Fl.out a (.rt w b)=(ofO<|backs a b).bind (vo w):=rfl
theorem x_run (C:Call)(f:Fn)(a:U W)(h:a.length=f.ps):runF C f a=Fl.out f.io (evSs C f.body<|a.map Y++Lo f.ns J):=QY h
theorem at0 {b:Type}(a:b)(l:U b):atI (a::l) 0=Y a:=by simp[atI,ixN]
theorem atN {c:Type}{b:U c}{i:I}{n:O}{a:c}(d:i=n)(h:b[n]?=Y a):atI b i=Y a:=by subst d;have:=(L8.mp h).1;rw[atI,ixN,QY<|by lia,QY<|by lia];exact h
theorem at1 {c:Type}(a b:c)(l:U c):atI (a::b::l) 1=Y b:=atN (n:=1) rfl rfl
theorem at2 {d:Type}(a b c:d)(l:U d):atI (a::b::c::l) 2=Y c:=atN (n:=2) rfl rfl
theorem at3 {e:Type}(a b c d:e)(l:U e):atI (a::b::c::d::l) 3=Y d:=atN (n:=3) rfl rfl
theorem at4 {f:Type}(a b c d e:f)(l:U f):atI (a::b::c::d::e::l) 4=Y e:=atN (n:=4) rfl rfl
theorem eE {e:Type}{tg:U O}{f:Env->Res (B W×Env)}{η:Env}{g:e->U W}(w:e->W):∀(d:U e) (a:U W),(∀x∈d,∃b c,bf tg (g x) η=Y b/\f b=.ok (Y<|w x,c)/\aB tg c=η) ->
 ba tg f (d.map g) η a=.ok (a++d.map w,η)
|[],a,_=>by rw[Ma,Ma,LK];rfl
|x::d,a,h=>by obtain⟨b,c,i,j,k⟩:=h x Lg;rw[Ln,Ln];show(ofO<|bf tg (g x) η).bind _=_;rw[i];show(f b).bind _=_;rw[j];show ba tg f (d.map g) (aB tg c) (a++[w x])=_;rw[k,eE w d _ λy l=>h y<|Lr _ l,Lz];rfl
end M

namespace MR
open L2 L3 M
open PySem (Addr Str sizeLine)
abbrev Fp:=QS->Prop
def ScrR (K:K3)(H:Hp)(a:QS)(b:U I):Prop:=(∃o,H a=Y (.frz o<|.lst<|b.map V.int))\/SqL K (λ_=>J) a (b.map V.int)
theorem ScrR.sq {K:K3}{H:Hp}{a:QS}{b:U I}(h:ScrR K H a b):SqL K H a (b.map V.int):=by
 rcases h with⟨o,h⟩|((h|⟨o,h⟩)|h)
 .exact .inl (.inr ⟨o,h⟩)
 .cases h
 .cases h
 .exact .inr h
theorem ScrR.keep {K:K3}{H b:Hp}{a:QS}{c:U I}(s:∀a o u,H a=Y (.frz o u)->b a=Y (.frz o u))(h:ScrR K H a c):ScrR K b a c:=h.imp (λ⟨o,e⟩=>⟨o,s a o _ e⟩) id
def LstR (K:K3)(Z:Fp)(H:Hp)(G:Fp)(a:QS)(b:U V):Md->Prop
|.s=>Z a/\H a=Y (.lst b)
|_=>G a/\H a=Y (.lst b)
def mkD (a:U<|I ⊕ Str)(b:U V):U (Key×V):=a.zip b
def DctR (Z:Fp)(H:Hp)(G:Fp)(a:QS)(o:HO):Md->Prop
|.s=>Z a/\H a=Y o
|_=>G a/\H a=Y o
def InsR (Z:Fp)(H:Hp)(G:Fp)(a b:QS)(o:HO):Md->Prop
|.s=>Z a/\Z b/\H a=Y o/\H b=Y (.own a)
|_=>G a/\G b/\H a=Y o/\H b=Y (.own a)
def Ju (K:K3)(c:O)(fs:U Str):Prop:=Cls K c/\∀f∈fs,Cr K c f
def dmd:Md->Md
|.d=>.d
|_=>.s
mutual
def Rep (K:K3)(Z:Fp)(H:Hp):Md->T->V->Fp->Prop
|_,.non,v,_=>v=.non
|_,.bl b,v,_=>v=.bl b
|_,.int i,v,_=>v=.int i
|_,.str x,v,_=>v=.str x/\sOk x=K1
|m,.tup ts,v,G=>∃a xs,v=.ref a/\SqT K H a xs/\xs.length<=LIM/\RepL K Z H m.kid ts xs G
|m,.lst ts,v,G=>∃a xs,v=.ref a/\xs.length<=LIM/\LstR K Z H G a xs m/\RepL K Z H m.kid ts xs (λb=>G b/\b≠a)
|m,.dct ks vs,v,G=>∃a xs,v=.ref a/\ks.length<=LIM/\DctR Z H G a (.dK<|mkD ks xs) m/\(ks.Nodup/\∀k∈ks,kOk k=K1)/\vs.length=ks.length/\RepL K Z H (dmd m) vs xs (λ_=>Q6)
|m,.dtt ks vs,v,_=>m≠.d/\∃a ys xs,v=.ref a/\Z a/\H a=Y (DTO a ks ys xs)/\ks.Nodup/\ks.length<=LIM/\vs.length=ks.length/\KeyR K H ks ys/\RepL K Z H .s vs xs (λ_=>Q6)
|m,.ins c fs vs,v,_=>m≠.d/\∃a dx C xs,v=.ref a/\Z a/\Z dx/\H a=Y (XO a C (Y dx) K0)/\H dx=Y (.xd<|fs.zip xs)/\fs.length=vs.length/\XNm K c C/\RepL K Z H .s vs xs (λ_=>Q6)
|m,.obj c fs vs,v,G=>m≠.d/\∃a dx xs,v=.ref a/\InsR Z H G a dx (.ins c dx<|fs.zip xs) m/\Ju K c fs/\fs.length=vs.length/\RepL K Z H .s vs xs (λ_=>Q6)
|_,.gone,_,_=>RJ
|_,.scr ns,v,_=>∃a,v=.ref a/\ns.length<=LIM/\ScrR K H a ns
def RepL (K:K3)(Z:Fp)(H:Hp):Md->U T->U V->Fp->Prop
|_,[],xs,_=>xs=[]
|m,t::ts,xs,G=>∃x r G1 G2,xs=x::r/\(∀a,G1 a->G a)/\(∀a,G2 a->G a)/\(∀a,G1 a->¬G2 a)/\Rep K Z H m t x G1/\RepL K Z H m ts r G2
end
section
variable {K:K3}{Z Z':Fp}{H H':Hp}{m:Md}{t:T}{ts:U T}{v:V}{xs:U V}{G G':Fp}
theorem LstR.mono {a:QS}(w:∀a,G a->G' a)(h:LstR K Z H G a xs m):LstR K Z H G' a xs m:=by
 cases m with
 |s=>exact h
 |d=>exact⟨w _ h.1,h.2⟩
 |o m=>exact⟨w _ h.1,h.2⟩
theorem InsR.mono {a b:QS}{o:HO}(w:∀a,G a->G' a)(h:InsR Z H G a b o m):InsR Z H G' a b o m:=by
 cases m with
 |s=>exact h
 |d=>exact⟨w _ h.1,w _ h.2.1,h.2.2⟩
 |o m=>exact⟨w _ h.1,w _ h.2.1,h.2.2⟩
theorem DctR.mono {a:QS}{o:HO}(w:∀a,G a->G' a)(h:DctR Z H G a o m):DctR Z H G' a o m:=by
 cases m with
 |s=>exact h
 |d=>exact⟨w _ h.1,h.2⟩
 |o m=>exact⟨w _ h.1,h.2⟩
mutual
theorem Rep.mono:∀{m:Md} {t:T} {v:V} {G G':Fp},(∀a,G a->G' a)->Rep K Z H m t v G->Rep K Z H m t v G'
|_,.non,_,_,_,_,h=>h
|_,.bl _,_,_,_,_,h=>h
|_,.int _,_,_,_,_,h=>h
|_,.str _,_,_,_,_,h=>h
|m,.tup ts,v,G,G',w,⟨a,xs,e,q,l,r⟩=>⟨a,xs,e,q,l,RepL.mono w r⟩
|m,.lst ts,v,G,G',w,⟨a,xs,e,l,q,r⟩=>⟨a,xs,e,l,q.mono w,RepL.mono (λb hb=>⟨w b hb.1,hb.2⟩) r⟩
|m,.dct ks vs,v,G,G',w,⟨a,xs,e,l,q,n,hl,r⟩=>⟨a,xs,e,l,q.mono w,n,hl,r⟩
|_,.ins _ _ _,_,_,_,_,h=>h
|_,.dtt _ _,_,_,_,_,h=>h
|m,.obj c fs vs,v,G,G',w,⟨ne,a,dx,xs,e,q,r⟩=>⟨ne,a,dx,xs,e,q.mono w,r⟩
|_,.gone,_,_,_,_,h=>h
|_,.scr _,_,_,_,_,h=>h
theorem RepL.mono:∀{m:Md} {ts:U T} {xs:U V} {G G':Fp},(∀a,G a->G' a)->RepL K Z H m ts xs G->RepL K Z H m ts xs G'
|_,[],_,_,_,_,h=>h
|m,t::ts,xs,G,G',w,⟨x,r,G1,G2,e,h1,h2,hd,p,q⟩=>⟨x,r,G1,G2,e,λa ha=>w a<|h1 a ha,λa ha=>w a<|h2 a ha,hd,p,q⟩
end
def Stay (Z:Fp)(H H':Hp):Prop:=(∀a o,Z a->H a=Y o->H' a=Y o)/\(∀a xs,Rd H a (.tup xs)->Rd H' a (.tup xs))/\∀a o u,H a=Y (.frz o u)->H' a=Y (.frz o u)
theorem Stay.sqt (s:Stay Z H H'){a:QS}(h:SqT K H a xs):SqT K H' a xs:=by
 rcases h with h|h
 .exact .inl (s.2.1 a xs h)
 .exact .inr h
theorem LstR.keep {a:QS}(s:Stay Z H H')(z:∀a,Z a->Z' a)(g:∀a o,G a->H a=Y o->H' a=Y o)(h:LstR K Z H G a xs m):LstR K Z' H' G a xs m:=by
 cases m with
 |s=>exact⟨z _ h.1,s.1 _ _ h.1 h.2⟩
 |d=>exact⟨h.1,g _ _ h.1 h.2⟩
 |o m=>exact⟨h.1,g _ _ h.1 h.2⟩
theorem InsR.keep {a b:QS}{o:HO}(s:Stay Z H H')(z:∀a,Z a->Z' a)(g:∀a o,G a->H a=Y o->H' a=Y o)(h:InsR Z H G a b o m):InsR Z' H' G a b o m:=by
 cases m with
 |s=>exact⟨z _ h.1,z _ h.2.1,s.1 _ _ h.1 h.2.2.1,s.1 _ _ h.2.1 h.2.2.2⟩
 |d=>exact⟨h.1,h.2.1,g _ _ h.1 h.2.2.1,g _ _ h.2.1 h.2.2.2⟩
 |o m=>exact⟨h.1,h.2.1,g _ _ h.1 h.2.2.1,g _ _ h.2.1 h.2.2.2⟩
theorem InsR.sh {a b:QS}{o:HO}(h:InsR Z H G a b o m):InsR (λa=>Z a\/G a) H (λ_=>Q6) a b o .s:=by
 cases m with
 |s=>exact⟨.inl h.1,.inl h.2.1,h.2.2⟩
 |d=>exact⟨.inr h.1,.inr h.2.1,h.2.2⟩
 |o m=>exact⟨.inr h.1,.inr h.2.1,h.2.2⟩
theorem DctR.keep {a:QS}{o:HO}(s:Stay Z H H')(z:∀a,Z a->Z' a)(g:∀a o,G a->H a=Y o->H' a=Y o)(h:DctR Z H G a o m):DctR Z' H' G a o m:=by
 cases m with
 |s=>exact⟨z _ h.1,s.1 _ _ h.1 h.2⟩
 |d=>exact⟨h.1,g _ _ h.1 h.2⟩
 |o m=>exact⟨h.1,g _ _ h.1 h.2⟩
mutual
theorem Rep.keep (s:Stay Z H H')(z:∀a,Z a->Z' a):∀{m:Md} {t:T} {v:V} {G:Fp},(∀a o,G a->H a=Y o->H' a=Y o)->Rep K Z H m t v G->Rep K Z' H' m t v G
|_,.non,_,_,_,h=>h
|_,.bl _,_,_,_,h=>h
|_,.int _,_,_,_,h=>h
|_,.str _,_,_,_,h=>h
|m,.tup ts,v,G,g,⟨a,xs,e,q,l,r⟩=>⟨a,xs,e,s.sqt q,l,RepL.keep s z g r⟩
|m,.lst ts,v,G,g,⟨a,xs,e,l,q,r⟩=>⟨a,xs,e,l,q.keep s z g,RepL.keep s z (λb o hb=>g b o hb.1) r⟩
|m,.dct ks vs,v,G,g,⟨a,xs,e,l,q,n,hl,r⟩=>⟨a,xs,e,l,q.keep s z g,n,hl,RepL.keep s z (λ_ _ hb=>hb.elim) r⟩
|_,.dtt _ _,_,_,_,⟨ne,a,ys,xs,e,z1,h1,n,l,hl,kr,r⟩=>⟨ne,a,ys,xs,e,z _ z1,s.1 _ _ z1 h1,n,l,hl,kr.keep λb xs q=>s.sqt q,RepL.keep s z (λ_ _ hb=>hb.elim) r⟩
|_,.ins _ _ _,_,_,_,⟨ne,a,dx,C,xs,e,z1,z2,h1,h2,l,n,r⟩=>⟨ne,a,dx,C,xs,e,z _ z1,z _ z2,s.1 _ _ z1 h1,s.1 _ _ z2 h2,l,n,RepL.keep s z (λ_ _ hb=>hb.elim) r⟩
|_,.obj _ _ _,_,_,g,⟨ne,a,dx,xs,e,q,n,l,r⟩=>⟨ne,a,dx,xs,e,q.keep s z g,n,l,RepL.keep s z (λ_ _ hb=>hb.elim) r⟩
|_,.gone,_,_,_,h=>h
|_,.scr _,_,_,_,⟨a,e,l,q⟩=>⟨a,e,l,q.keep s.2.2⟩
theorem RepL.keep (s:Stay Z H H')(z:∀a,Z a->Z' a):∀{m:Md} {ts:U T} {xs:U V} {G:Fp},(∀a o,G a->H a=Y o->H' a=Y o)->RepL K Z H m ts xs G->RepL K Z' H' m ts xs G
|_,[],_,_,_,h=>h
|m,t::ts,xs,G,g,⟨x,r,G1,G2,e,h1,h2,hd,p,q⟩=>⟨x,r,G1,G2,e,h1,h2,hd,Rep.keep s z (λa o ha=>g a o<|h1 a ha) p,RepL.keep s z (λa o ha=>g a o<|h2 a ha) q⟩
end
theorem ei (Z:Fp)(H:Hp):Stay Z H H:=⟨λ_ _ _ h=>h,λ_ _ h=>h,λ_ _ _ h=>h⟩
theorem Rep.zmono (z:∀a,Z a->Z' a)(h:Rep K Z H m t v G):Rep K Z' H m t v G:=h.keep (ei Z H) z λ_ _ _ q=>q
theorem RepL.zmono (z:∀a,Z a->Z' a)(h:RepL K Z H m ts xs G):RepL K Z' H m ts xs G:=h.keep (ei Z H) z λ_ _ _ q=>q
theorem RepL.length:∀{ts:U T} {xs:U V} {G:Fp},RepL K Z H m ts xs G->xs.length=ts.length
|[],_,_,h=>by rw[show _=[] from h];rfl
|_::_,_,_,⟨x,r,a,b,e,_,_,_,_,q⟩=>by rw[e,Lk,Lk,RepL.length q]
theorem RepL.get:∀{ts:U T} {xs:U V} {G:Fp} {i:O} {t:T},RepL K Z H m ts xs G->ts[i]?=Y t->∃x,xs[i]?=Y x/\Rep K Z H m t x G
|[],_,_,_,_,_,e=>by simp at e
|_::_,_,_,0,_,⟨x,r,a,b,e,c,_,_,p,_⟩,e2=>by rw[NN] at e2;cases e2;exact⟨x,by rw[e];rfl,p.mono c⟩
|_::_,_,_,i+1,_,⟨x,r,a,b,e,_,d,_,_,q⟩,e2=>by rw[L6] at e2;obtain⟨y,f,p⟩:=RepL.get q e2;exact⟨y,by rw[e,L6];exact f,p.mono d⟩
theorem RepL.append:∀{ts g:U T} {xs f:U V} {G1 G2 G:Fp},(∀a,G1 a->G a)->(∀a,G2 a->G a)->(∀a,G1 a->¬G2 a)->RepL K Z H m ts xs G1->RepL K Z H m g f G2->RepL K Z H m (ts++g) (xs++f) G
|[],g,xs,f,G1,G2,G,i,j,d,h,k=>by rw[show xs=[] from h];exact k.mono j
|t::ts,g,xs,f,G1,G2,G,i,j,d,⟨x,r,A,b,e,l,n,hd,p,q⟩,k=>by rw[e];refine⟨x,r++f,A,λa=>b a\/G2 a,rfl,λa c=>i a<|l a c,λa c=>c.elim (λz=>i a<|n a z)<|j a,λa c o=>o.elim (hd a c)<|d a<|l a c,p,?_⟩;exact RepL.append (λa z=>.inl z) (λa z=>.inr z) (λa c=>d a<|n a c) q k
theorem RepL.one {x:V}(p:Rep K Z H m t x G):RepL K Z H m [t] [x] G:=⟨x,[],G,λ_=>Q6,rfl,λ_ h=>h,λ_ h=>h.elim,λ_ _ h=>h,p,rfl⟩
theorem RepL.take:∀{ts:U T} {xs:U V} {G:Fp} (n:O),RepL K Z H m ts xs G->RepL K Z H m (ts.take n) (xs.take n) G
|[],_,_,n,h=>by rw[show _=[] from h,P7,P7];rfl
|_::_,_,_,0,h=>rfl
|_::_,_,_,n+1,⟨x,r,A,a,e,b,c,hd,p,q⟩=>by rw[e];exact⟨x,r.take n,A,a,rfl,b,c,hd,p,RepL.take n q⟩
theorem RepL.drop:∀{ts:U T} {xs:U V} {G:Fp} (n:O),RepL K Z H m ts xs G->RepL K Z H m (ts.drop n) (xs.drop n) G
|[],_,_,n,h=>by rw[show _=[] from h,P6,P6];rfl
|_::_,_,_,0,h=>h
|_::_,_,_,n+1,⟨x,r,A,a,e,c,b,hd,p,q⟩=>by rw[e];exact(RepL.drop n q).mono b
theorem Rep.leaf {m':Md}(c:∀a o u,H a=Y (.frz o u)->H' a=Y (.frz o u))(b:t.leaf=K1)(h:Rep K Z H m t v G):Rep K Z' H' m' t v G':=by
 cases t with
 |non=>exact h
 |bl _=>exact h
 |int _=>exact h
 |str _=>exact h
 |scr _=>obtain⟨a,e,l,q⟩:=h;exact⟨a,e,l,q.keep c⟩
 |_=>cases b
theorem RepL.leaves {m':Md}(d:∀a o u,H a=Y (.frz o u)->H' a=Y (.frz o u)):∀{ts:U T} {xs:U V} {G G':Fp},leaves ts=K1->RepL K Z H m ts xs G->RepL K Z' H' m' ts xs G'
|[],_,_,_,_,h=>h
|t::ts,_,_,G',f,⟨x,r,A,b,e,g,i,hd,p,q⟩=>by have c:(t.leaf&&ts.all T.leaf)=true:=f;rw[Li] at c;exact⟨x,r,λ_=>Q6,λ_=>Q6,e,λ_ z=>z.elim,λ_ z=>z.elim,λ_ z=>z.elim,p.leaf d c.1,RepL.leaves d c.2 q⟩
noncomputable def no:Fp:=λ_=>Q6
mutual
theorem Rep.sh:∀{m:Md} {t:T} {v:V} {G:Fp},Rep K Z H m t v G->Rep K (λa=>Z a\/G a) H .s t v no
|_,.non,_,_,h=>h
|_,.bl _,_,_,h=>h
|_,.int _,_,_,h=>h
|_,.str _,_,_,h=>h
|m,.tup ts,v,G,⟨a,xs,e,q,l,r⟩=>⟨a,xs,e,q,l,RepL.sh r⟩
| m,.lst ts,v,G,⟨a,xs,e,l,q,r⟩=>⟨a,xs,e,l,by
  cases m with
  |s=>exact⟨.inl q.1,q.2⟩
  |d=>exact⟨.inr q.1,q.2⟩
  |o m=>exact⟨.inr q.1,q.2⟩,(RepL.zmono (λb hb=>hb.elim .inl λz=>.inr z.1)<|RepL.sh r).mono λ_ z=>z.elim⟩
| m,.dct ks vs,v,G,⟨a,xs,e,l,q,n,hl,r⟩=>⟨a,xs,e,l,by
  cases m with
  |s=>exact⟨.inl q.1,q.2⟩
  |d=>exact⟨.inr q.1,q.2⟩
  |o m=>exact⟨.inr q.1,q.2⟩,n,hl,RepL.zmono (λb hb=>hb.elim .inl λz=>z.elim)<|RepL.sh r⟩
|_,.dtt _ _,_,_,⟨ne,a,ys,xs,e,z1,h1,n,l,hl,kr,r⟩=>⟨(λz=>by cases z),a,ys,xs,e,.inl z1,h1,n,l,hl,kr,RepL.zmono (λb hb=>hb.elim .inl λz=>z.elim)<|RepL.sh r⟩
|_,.ins _ _ _,_,_,⟨ne,a,dx,C,xs,e,z1,z2,h1,h2,l,n,r⟩=>⟨(λz=>by cases z),a,dx,C,xs,e,.inl z1,.inl z2,h1,h2,l,n,RepL.zmono (λb hb=>hb.elim .inl λz=>z.elim)<|RepL.sh r⟩
|_,.obj _ _ _,_,_,⟨ne,a,dx,xs,e,q,n,l,r⟩=>⟨(λz=>by cases z),a,dx,xs,e,q.sh,n,l,RepL.zmono (λb hb=>hb.elim .inl λz=>z.elim)<|RepL.sh r⟩
|_,.gone,_,_,h=>h
|_,.scr _,_,_,h=>h
theorem RepL.sh:∀{m:Md} {ts:U T} {xs:U V} {G:Fp},RepL K Z H m ts xs G->RepL K (λa=>Z a\/G a) H .s ts xs no
|_,[],_,_,h=>h
|m,t::ts,xs,G,⟨x,r,G1,G2,e,h1,h2,hd,p,q⟩=>⟨x,r,no,no,e,λ_ z=>z,λ_ z=>z,λ_ z _=>z,Rep.zmono (λb hb=>hb.imp id (h1 b))<|Rep.sh p,RepL.zmono (λb hb=>hb.imp id (h2 b))<|RepL.sh q⟩
end
theorem JZ:∀a:Md,a.le .d=K1
|.s=>rfl | .d=>rfl | .o _=>rfl
theorem jV:∀a:Md,a.le a=K1
|.s=>rfl | .d=>rfl | .o a=>jV a
theorem kS:∀{a b c:Md},a.le b=K1->b.le c=K1->a.le c=K1
|.s,_,.s,_,_=>rfl
|.s,_,.d,_,_=>rfl
|.s,_,.o _,_,_=>rfl
|.o a,.o b,.o c,h,k=>kS (a:=a) (b:=b) (c:=c) h k
|.o a,.o b,.d,h,k=>rfl
|.o a,.d,.d,h,k=>rfl
|.d,.d,.d,_,_=>rfl
|.d,.s,_,h,_=>by cases h
|.d,.o _,_,h,_=>by cases h
|.o _,.s,_,h,_=>by cases h
|.o _,.o _,.s,_,k=>by cases k
|.o _,.d,.s,_,k=>by cases k
|.o _,.d,.o _,_,k=>by cases k
|.d,.d,.s,_,k=>by cases k
|.d,.d,.o _,_,k=>by cases k
theorem dB:∀a b:Md,(a.meet b).le a=K1/\(a.meet b).le b=K1
|.s,.s=>⟨rfl,rfl⟩
|.s,.d=>⟨rfl,rfl⟩
|.s,.o _=>⟨rfl,rfl⟩
|.d,.s=>⟨rfl,rfl⟩
|.d,.d=>⟨rfl,rfl⟩
|.d,.o b=>⟨rfl,jV b⟩
|.o _,.s=>⟨rfl,rfl⟩
|.o a,.d=>⟨jV a,rfl⟩
|.o a,.o b=>dB a b
theorem rV:∀{a b:Md},a.le b=K1->a.kid.le b.kid=K1
|.s,.s,_=>rfl
|.s,.d,_=>rfl
|.s,.o _,_=>by first|rfl|exact(by cases ‹Md›<;>rfl)
|.o a,.o b,h=>h
|.o a,.d,_=>JZ a
|.d,.d,_=>rfl
|.d,.s,h=>by cases h
|.d,.o _,h=>by cases h
|.o _,.s,h=>by cases h
theorem eW:∀a:Md,a.up.kid=a
|.s=>rfl | .d=>rfl | .o _=>rfl
theorem dm (a:Md):a.up≠.s:=by cases a<;>intro h<;>cases h
theorem LstR.own {a:QS}(b:m≠.s):LstR K Z H G a xs m ↔ G a/\H a=Y (.lst xs):=by
 cases m with
 |s=>exact QW rfl b
 |d=>exact Iff.rfl
 |o m=>exact Iff.rfl
abbrev cU (Z G G':Fp):Fp:=λa=>Z a\/(G a/\¬G' a)
mutual
theorem Rep.weak:∀{m m':Md} {t:T} {v:V} {G:Fp},m'.le m=K1->Rep K Z H m t v G->∃G',(∀a,G' a->G a)/\Rep K (cU Z G G') H m' t v G'
|m,m',.non,_,G,_,h=>⟨G,λ_ z=>z,h⟩
|m,m',.bl _,_,G,_,h=>⟨G,λ_ z=>z,h⟩
|m,m',.int _,_,G,_,h=>⟨G,λ_ z=>z,h⟩
|m,m',.str _,_,G,_,h=>⟨G,λ_ z=>z,h⟩
|m,m',.scr _,_,G,_,h=>⟨G,λ_ z=>z,h⟩
|m,m',.tup ts,v,G,hm,⟨a,xs,e,q,l,r⟩=>by obtain⟨G',h1,h2⟩:=RepL.weak (rV hm) r;exact⟨G',h1,a,xs,e,q,l,h2⟩
| m,m',.lst ts,v,G,hm,h=>by
 cases m' with
 |s=>exact⟨no,λ_ z=>z.elim,(Rep.sh h).zmono λa ha=>ha.imp id λz=>⟨z,λq=>q⟩⟩
 |d=>
  cases m with
  |s=>cases hm
  |o _=>cases hm
  |d=>exact⟨G,λ_ z=>z,h.zmono λ_ z=>.inl z⟩
 |o k=>
  have hne:m≠.s:=by rintro rfl;cases hm
  obtain⟨a,xs,e,l,q,r⟩:=h;rw[LstR.own hne] at q;obtain⟨G',h1,h2⟩:=RepL.weak (rV hm) r;refine⟨λb=>G' b\/b=a,λb hb=>hb.elim (λz=>(h1 b z).1) λz=>z ▸ q.1,a,xs,e,l,⟨.inr rfl,q.2⟩,?_⟩;refine(h2.zmono λb hb=>?_).mono λb hb=>⟨.inl hb,(h1 b hb).2⟩;rcases hb with z|⟨⟨z1,z2⟩,z3⟩
  .exact .inl z
  .exact .inr ⟨z1,λq=>q.elim z3 z2⟩
| m,m',.dct ks vs,v,G,hm,h=>by
 cases m' with
 |s=>exact⟨no,λ_ z=>z.elim,(Rep.sh h).zmono λa ha=>ha.imp id λz=>⟨z,λq=>q⟩⟩
 |d=>
  cases m with
  |s=>cases hm
  |o _=>cases hm
  |d=>exact⟨G,λ_ z=>z,h.zmono λ_ z=>.inl z⟩
 |o k=>
  obtain⟨a,xs,e,l,q,n,hl,r⟩:=h;cases m with
  |s=>cases hm
  |d=>exact⟨G,λ_ z=>z,a,xs,e,l,q,n,hl,RepL.zmono (λb hb=>hb.elim .inl λz=>z.elim)<|RepL.sh r⟩
  |o k'=>exact⟨G,λ_ z=>z,a,xs,e,l,q,n,hl,RepL.zmono (λb hb=>.inl hb) r⟩
|m,m',.dtt _ _,v,G,hm,⟨ne,a,ys,xs,e,z1,h1,n,l,hl,kr,r⟩=>⟨G,λ_ z=>z,(λz=>ne<|by subst z;cases m<;>first|rfl|cases hm),a,ys,xs,e,.inl z1,h1,n,l,hl,kr,RepL.zmono (λb hb=>.inl hb) r⟩
|m,m',.ins _ _ _,v,G,hm,⟨ne,a,dx,C,xs,e,z1,z2,h1,h2,l,n,r⟩=>⟨G,λ_ z=>z,(λz=>ne<|by subst z;cases m<;>first|rfl|cases hm),a,dx,C,xs,e,.inl z1,.inl z2,h1,h2,l,n,RepL.zmono (λb hb=>.inl hb) r⟩
| m,m',.obj c fs vs,v,G,hm,h=>by
 cases m' with
 |s=>exact⟨no,λ_ z=>z.elim,(Rep.sh h).zmono λa ha=>ha.imp id λz=>⟨z,λq=>q⟩⟩
 |d=>
  cases m with
  |s=>cases hm
  |o _=>cases hm
  |d=>exact QW rfl h.1
 |o k=>
  obtain⟨ne,a,dx,xs,e,q,n,l,r⟩:=h;cases m with
  |s=>cases hm
  |d=>exact QW rfl ne
  |o k'=>exact⟨G,λ_ z=>z,(λz=>by cases z),a,dx,xs,e,q,n,l,RepL.zmono (λb hb=>.inl hb) r⟩
|m,m',.gone,_,G,_,h=>⟨G,λ_ z=>z,h⟩
theorem RepL.weak:∀{m m':Md} {ts:U T} {xs:U V} {G:Fp},m'.le m=K1->RepL K Z H m ts xs G->∃G',(∀a,G' a->G a)/\RepL K (cU Z G G') H m' ts xs G'
|m,m',[],_,G,_,h=>⟨G,λ_ z=>z,h⟩
|m,m',t::ts,xs,G,hm,⟨x,r,G1,G2,e,h1,h2,hd,p,q⟩=>by
 obtain⟨A,a1,a2⟩:=Rep.weak hm p;obtain⟨B,b1,b2⟩:=RepL.weak hm q;refine⟨λb=>A b\/B b,λb hb=>hb.elim (λz=>h1 b<|a1 b z) λz=>h2 b<|b1 b z,x,r,A,B,e,λ_ z=>.inl z,λ_ z=>.inr z,λb za zb=>hd b (a1 b za)<|b1 b zb,?_,?_⟩
 .refine a2.zmono λb hb=>hb.imp id λz=>⟨h1 b z.1,λq=>q.elim z.2 λw=>hd b z.1<|b1 b w⟩
 .refine b2.zmono λb hb=>hb.imp id λz=>⟨h2 b z.1,λq=>q.elim (λw=>hd b (a1 b w) z.1) z.2⟩
end
def RepW (K:K3)(Z:Fp)(H:Hp):U W->U V->Fp->Prop
|[],xs,_=>xs=[]
|w::d,xs,G=>∃x r b c,xs=x::r/\(∀a,b a->G a)/\(∀a,c a->G a)/\(∀a,b a->¬c a)/\Rep K Z H w.1 w.2 x b/\RepW K Z H d r c
theorem RepW.length:∀{a:U W} {xs:U V} {G:Fp},RepW K Z H a xs G->xs.length=a.length
|[],_,_,h=>by rw[show _=[] from h];rfl
|_::_,_,_,⟨x,r,b,c,e,_,_,_,_,q⟩=>by rw[e,Lk,Lk,RepW.length q]
theorem RepW.mono:∀{c:U W} {xs:U V} {G G':Fp},(∀a,G a->G' a)->RepW K Z H c xs G->RepW K Z H c xs G'
|[],_,_,_,_,h=>h
|_::_,_,_,_,w,⟨x,r,d,f,e,g,i,hd,p,q⟩=>⟨x,r,d,f,e,λa b=>w a<|g a b,λa b=>w a<|i a b,hd,p,q⟩
theorem RepW.keep (s:Stay Z H H')(z:∀a,Z a->Z' a):∀{f:U W} {xs:U V} {G:Fp},(∀a o,G a->H a=Y o->H' a=Y o)->RepW K Z H f xs G->RepW K Z' H' f xs G
|[],_,_,_,h=>h
|_::_,_,_,g,⟨x,r,i,j,e,c,d,hd,p,q⟩=>⟨x,r,i,j,e,c,d,hd,p.keep s z λa o b=>g a o<|c a b,RepW.keep s z (λa o b=>g a o<|d a b) q⟩
theorem RepW.append:∀{o g:U W} {xs f:U V} {G1 G2 G:Fp},(∀a,G1 a->G a)->(∀a,G2 a->G a)->(∀a,G1 a->¬G2 a)->RepW K Z H o xs G1->RepW K Z H g f G2->RepW K Z H (o++g) (xs++f) G
|[],g,xs,f,G1,G2,G,i,j,d,h,k=>by rw[show xs=[] from h];exact k.mono j
|t::ts,g,xs,f,G1,G2,G,i,j,d,⟨x,r,A,b,e,l,n,hd,p,q⟩,k=>by rw[e];refine⟨x,r++f,A,λa=>b a\/G2 a,rfl,λa c=>i a<|l a c,λa c=>c.elim (λz=>i a<|n a z)<|j a,λa c s=>s.elim (hd a c)<|d a<|l a c,p,?_⟩;exact RepW.append (λa z=>.inl z) (λa z=>.inr z) (λa c=>d a<|n a c) q k
theorem RepW.one {w:W}{x:V}(p:Rep K Z H w.1 w.2 x G):RepW K Z H [w] [x] G:=⟨x,[],G,no,rfl,λ_ h=>h,λ_ h=>h.elim,λ_ _ h=>h,p,rfl⟩
theorem gZ:∀{a:U W} {w:W},w∈a->(gM a).le (lf w.1 w.2)=K1
|u::a,w,h=>by
 rcases Lm.mp h with z|z
 .subst z;exact(dB _ _).1
 .exact kS (dB _ _).2 (gZ z)
theorem Rep.lf (h:Rep K Z H m t v G):Rep K Z H (M.lf m t) t v G:=by
 unfold M.lf;split
 .rename_i a;exact h.leaf (λ_ _ _ q=>q) a
 .exact h
theorem RepW.to {N:Md}:∀{f:U W} {xs:U V} {G:Fp},(∀w∈f,N.le (M.lf w.1 w.2)=K1)->RepW K Z H f xs G->∃G',(∀a,G' a->G a)/\RepL K (cU Z G G') H N (trees f) xs G'
|[],_,G,_,h=>⟨G,λ_ z=>z,h⟩
|w::f,xs,G,l,⟨x,r,F,P,e,j,k,hd,p,q⟩=>by
 obtain⟨A,g,n⟩:=Rep.weak (l w Lg) p.lf;obtain⟨c,i,o⟩:=RepW.to (λu s=>l u<|Lr _ s) q;refine⟨λb=>A b\/c b,λb d=>d.elim (λz=>j b<|g b z) λz=>k b<|i b z,x,r,A,c,e,λ_ z=>.inl z,λ_ z=>.inr z,λb y D=>hd b (g b y)<|i b D,?_,?_⟩
 .refine n.zmono λb d=>d.imp id λz=>⟨j b z.1,λq=>q.elim z.2 λw=>hd b z.1<|i b w⟩
 .refine o.zmono λb d=>d.imp id λz=>⟨k b z.1,λq=>q.elim (λw=>hd b (g b w) z.1) z.2⟩
end
inductive OO where
 |inl (xs:U V)|inr (kvs:U (Key×V))|ins (C dx:QS) (fs:U (Str×V))|own (x:QS)
def OO.ho:OO->HO
|.inl c=>.lst c
|.inr a=>.dK a
|.ins C b fs=>.ins C b fs
|.own x=>.own x
def Own (Z:Fp)(H:Hp)(F:Fp):Prop:=∀a,F a->¬Z a/\∃b:OO,H a=Y b.ho
theorem m8 {b:U V}{a:OO}(e:Y (HO.tup b)=Y a.ho):Q6:=by cases a<;>cases e
theorem kD {o:PySem.Obj}{u:HO}{a:OO}(e:Y (HO.frz o u)=Y a.ho):Q6:=by cases a<;>cases e
structure Step (Z:Fp)(H:Hp)(F:Fp)(Z':Fp)(H':Hp)(F':Fp):Prop where
 keep:∀a o,H a=Y o->¬F a->H' a=Y o
 zm:∀a,Z a->Z' a
 zn:∀a,Z' a->Z a\/F a\/H a=J
 fn:∀a,F' a->F a\/H a=J
 al:∀a,H a≠J->H' a≠J
 za:(∀a,Z a->H a≠J)->∀a,Z' a->H' a≠J
section
variable {K:K3}{Z Z1 Z2 Z':Fp}{H H1 H2 H':Hp}{F F1 F2 F' R G:Fp}
theorem Step.refl (Z:Fp)(H:Hp)(F:Fp):Step Z H F Z H F:=⟨λ_ _ h _=>h,λ_ h=>h,λ_ h=>.inl h,λ_ h=>.inl h,λ_ h=>h,λz=>z⟩
theorem Step.trans (s:Step Z H F Z1 H1 F1)(t:Step Z1 H1 F1 Z2 H2 F2):Step Z H F Z2 H2 F2 where
 keep:=λa o h n=>t.keep a o (s.keep a o h n) λq=>(s.fn a q).elim n λz=>by rw[h] at z;cases z
 zm:=λa h=>t.zm a<|s.zm a h
 zn:=λa h=>by
  rcases t.zn a h with q|q|q
  .exact s.zn a q
  .exact .inr (s.fn a q)
  .exact .inr (.inr (by
    cases e:H a with
    |none=>rfl
    |some o=>exact QW q<|s.al a<|by rw[e];simp))
 fn:=λa h=>by
  rcases t.fn a h with q|q
  .exact s.fn a q
  .exact .inr (by
    cases e:H a with
    |none=>rfl
    |some o=>exact QW q<|s.al a<|by rw[e];simp)
 al:=λa h=>t.al a<|s.al a h
 za:=λz=>t.za<|s.za z
theorem Step.frame (R:Fp)(s:Step Z H F Z' H' F'):Step Z H (λa=>F a\/R a) Z' H' (λa=>F' a\/R a) where
 keep:=λa o h n=>s.keep a o h λq=>n<|.inl q
 zm:=s.zm
 zn:=λa h=>(s.zn a h).imp id λq=>q.imp .inl id
 fn:=λa h=>h.elim (λq=>(s.fn a q).imp .inl id) λq=>.inl<|.inr q
 al:=s.al
 za:=s.za
theorem Step.mono (s:Step Z H F Z' H' F')(b:∀a,F a->F1 a)(c:∀a,F2 a->F' a):Step Z H F1 Z' H' F2 where
 keep:=λa o h n=>s.keep a o h λq=>n<|b a q
 zm:=s.zm
 zn:=λa h=>(s.zn a h).imp id λq=>q.imp (b a) id
 fn:=λa h=>(s.fn a<|c a h).imp (b a) id
 al:=s.al
 za:=s.za
theorem Own.stay (o:Own Z H F)(s:Step Z H F Z' H' F'):Stay Z H H':=by
 refine⟨λa u c h=>s.keep a u h λq=>(o a q).1 c,λa d h=>?_,λa u v h=>s.keep a _ h λq=>?_⟩
 .rcases h with h | ⟨u,h⟩
  .refine .inl (s.keep a _ h fun q=>?_);obtain⟨_,b,e⟩:=o a q;rw[h] at e;exact m8 e
  .refine .inr ⟨u,s.keep a _ h fun q=>?_⟩;obtain⟨_,b,e⟩:=o a q;rw[h] at e;exact kD e
 .obtain ⟨_,b,e⟩:=o a q;rw[h] at e;exact kD e
theorem Rep.frame {m:Md}{t:T}{v:V}(o:Own Z H F)(s:Step Z H F Z' H' F')(d:∀a,G a->¬F a)(h:Rep K Z H m t v G):Rep K Z' H' m t v G:=h.keep (o.stay s) s.zm λa u b e=>s.keep a u e<|d a b
theorem RepW.frame {b:U W}{c:U V}(o:Own Z H F)(s:Step Z H F Z' H' F')(d:∀a,G a->¬F a)(h:RepW K Z H b c G):RepW K Z' H' b c G:=h.keep (o.stay s) s.zm λa u f e=>s.keep a u e<|d a f
theorem Own.frame (o:Own Z H G)(s:Step Z H F Z' H' F')(d:∀a,G a->¬F a):Own Z' H' G/\∀a,G a->¬F' a:=by
 refine⟨λa b=>?_,λa b q=>?_⟩
 .obtain ⟨c,f,e⟩:=o a b;refine⟨λq=>?_,f,s.keep a _ e (d a b)⟩;rcases s.zn a q with z|z|z
  .exact c z
  .exact d a b z
  .rw[e] at z;cases z
 .obtain ⟨c,f,e⟩:=o a b;rcases s.fn a q with z|z
  .exact d a b z
  .rw[e] at z;cases z
end
abbrev Fps:=O->Fp
def tot (b:Fps):Fp:=λa=>∃i,b i a
structure Gd (Z:Fp)(H:Hp)(Fs:Fps):Prop where
 own:Own Z H (tot Fs)
 dis:∀i j a,Fs i a->Fs j a->i=j
 zal:∀a,Z a->H a≠J
structure Cf where
 sl:O->B O
 pv:O->B V
def JE (K:K3)(a:Cf)(Z:Fp)(H:Hp)(c:Env)(d:L2.St)(b:Fps):Prop:=
 ∀i m t,rd c i=Y (m,t)->∃v,Rep K Z H m t v (b i)/\(∀j,a.sl i=Y j->d[j]?=Y (Y v))/\∀u,a.pv i=Y u->v=u
structure At (K:K3)(sl:Cf)(σ:L2.St)(Z:Fp)(H:Hp)(Fs:Fps)(η:Env)(G:Fp):Prop where
 gd:Gd Z H Fs
 env:JE K sl Z H η σ Fs
 own:Own Z H G
 dis:∀a,G a->¬tot Fs a
 lk:∀i u j,sl.pv i=Y u->sl.sl i=Y j->σ[j]?=Y (Y u)
 ln:∀i j,sl.sl i=Y j->j < σ.length
section
variable {K:K3}{sl:Cf}{σ:L2.St}{Z Z':Fp}{H H':Hp}{Fs Fs':Fps}{η η':Env}{G G' R:Fp}
theorem At.frame (a:At K sl σ Z H Fs η R)(b:At K sl σ Z' H' Fs' η' G)(s:Step Z H (tot Fs) Z' H' λc=>tot Fs' c\/G c):
  At K sl σ Z' H' Fs' η' (λc=>R c\/G c)/\Step Z H (λc=>tot Fs c\/R c) Z' H' (λc=>tot Fs' c\/(R c\/G c))/\∀c,R c->¬G c:=by
 have o:=a.own.frame s a.dis;refine⟨⟨b.gd,b.env,λc d=>d.elim (o.1 c)<|b.own c,λc d=>d.elim (λz q=>o.2 c z<|.inl q)<|b.dis c,b.lk,b.ln⟩,(s.frame R).mono (λ_ z=>z) λc d=>?_,λc z q=>o.2 c z<|.inr q⟩;rcases d with z|z|z
 .exact .inl (.inl z)
 .exact .inr z
 .exact .inl (.inr z)
end
section
variable {K:K3}{sl:Cf}{sf:O->B O}{C:Call}{σ:L2.St}{Z Z' Z1:Fp}{H H' H1:Hp}{Fs Fs' Fs1:Fps}{η η' η1:Env}{G G' R F:Fp}
theorem At.mono (a:At K sl σ Z H Fs η G)(h:∀c,G' c->G c):At K sl σ Z H Fs η G':=⟨a.gd,a.env,λc b=>a.own c<|h c b,λc b=>a.dis c<|h c b,a.lk,a.ln⟩
theorem At.bare (a:At K sl σ Z H Fs η G):At K sl σ Z H Fs η no:=a.mono λ_ z=>z.elim
def wE (K:K3)(sl:O->B O)(C:Call)(e:E):TE:=λσ H Q=>∃pv Z Fs η w η',At K ⟨sl,pv⟩ σ Z H Fs η no/\evE C e η=.ok (w,η') /\
 ∀v Z' H' Fs' G,At K ⟨sl,pv⟩ σ Z' H' Fs' η' G->Rep K Z' H' w.1 w.2 v G->Step Z H (tot Fs) Z' H' (λa=>tot Fs' a\/G a)->Q v H'
def wL (K:K3)(sl:O->B O)(C:Call)(d:U E):TA:=λσ H Q=>∃pv Z Fs η c η',At K ⟨sl,pv⟩ σ Z H Fs η no/\evL C d η=.ok (c,η') /\
 ∀b Z' H' Fs' G,At K ⟨sl,pv⟩ σ Z' H' Fs' η' G->RepW K Z' H' c b G->Step Z H (tot Fs) Z' H' (λa=>tot Fs' a\/G a)->Q b H'
theorem i4 {e:E}{w:W}{Q:VK}(A:At K sl σ Z H Fs η R)(ev:evE C e η=.ok (w,η'))
  (k:∀ v Z' H' Fs' G,At K sl σ Z' H' Fs' η' (fun c=>R c\/G c)->Rep K Z' H' w.1 w.2 v G->(∀ c,R c->¬ G c)->Step Z H (tot Fs) Z' H' (fun a=>tot Fs' a\/G a) ->
   Step Z H (λc=>tot Fs c\/R c) Z' H' (λc=>tot Fs' c\/(R c\/G c))->Q v H'):wE K sl.sl C e σ H Q:=
 ⟨sl.pv,Z,Fs,η,w,η',A.bare,ev,fun v Z' H' Fs' G b r s=>by
  obtain⟨d,f,g⟩:=A.frame b s;exact k v Z' H' Fs' G d r g s f⟩
theorem FV {e:U E}{d:U W}{Q:U V->Hp->Prop}(A:At K sl σ Z H Fs η R)(ev:evL C e η=.ok (d,η'))
  (k:∀ f Z' H' Fs' G,At K sl σ Z' H' Fs' η' (fun c=>R c\/G c)->RepW K Z' H' d f G->(∀ c,R c->¬ G c)->Step Z H (tot Fs) Z' H' (fun a=>tot Fs' a\/G a) ->
   Step Z H (λc=>tot Fs c\/R c) Z' H' (λc=>tot Fs' c\/(R c\/G c))->Q f H'):wL K sl.sl C e σ H Q:=
 ⟨sl.pv,Z,Fs,η,d,η',A.bare,ev,fun v Z' H' Fs' G b r s=>by
  obtain⟨g,h,i⟩:=A.frame b s;exact k v Z' H' Fs' G g r i s h⟩
theorem aa {c d:Type}{r:Res c}{f:c->Res d}{b:d}(h:r.bind f=.ok b):∃a,r=.ok a/\f a=.ok b:=by
 cases r with
 |ok a=>exact⟨a,rfl,h⟩
 |ex t=>cases h
 |no=>cases h
theorem aI {c:Type}{η:Env}{o:B c}{b:c×Env}(h:ret η o=.ok b):∃a,o=Y a/\b=(a,η):=by
 cases o with
 |none=>cases h
 |some a=>exact⟨a,rfl,by cases h;rfl⟩
theorem cO {c:Type}{o:B c}{b:c}(h:ofO o=.ok b):o=Y b:=by
 cases o with
 |none=>cases h
 |some a=>cases h;rfl
theorem az {e:E}{a:U E}{c:U W}(h:evL C (e::a) η=.ok (c,η')):∃w η1 b,evE C e η=.ok (w,η1)/\evL C a η1=.ok (b,η')/\c=w::b:=by obtain⟨⟨w,η1⟩,d,f⟩:=aa<|show(evE C e η).bind (a0<|evL C a)=_ from h;obtain⟨⟨b,j⟩,g,i⟩:=aa<|show(evL C a η1).bind (oF w)=_ from f;cases i;exact⟨w,η1,b,d,g,rfl⟩
theorem iO {e:E}{b:U E}{c:U W}(k:∀i,e≠.io i)(h:evA C (e::b) η=.ok (c,η')):∃w η1 a,evE C e η=.ok (w,η1)/\evA C b η1=.ok (a,η')/\c=w::a:=by rw[C4 k] at h;obtain⟨⟨w,η1⟩,d,f⟩:=aa h;obtain⟨⟨a,l⟩,g,j⟩:=aa<|show(evA C b η1).bind (oF w)=_ from f;cases j;exact⟨w,η1,a,d,g,rfl⟩
theorem ku {i:O}{b:U E}{c:U W}(h:evA C (.io i::b) η=.ok (c,η')):∃a η1 w,evA C b η=.ok (a,η1)/\rd η1 i=Y w/\c=w::a/\η'=del η1 i:=by obtain⟨⟨a,η1⟩,d,e⟩:=aa<|show(evA C b η).bind (kIo i)=_ from h;obtain⟨w,f,g⟩:=aa<|show(ofO<|rd η1 i).bind (λw=>.ok (w::a,del η1 i))=_ from e;cases g;exact⟨a,η1,w,d,cO f,rfl,rfl⟩
theorem FW (e:E):(∃i,e=.io i)\/∀i,e≠.io i:=by
 cases e with
 |io i=>exact .inl ⟨i,rfl⟩
 |_=>exact .inr λ_ z=>by cases z
theorem xF {e:E}{f:U E}(σ:L2.St)(H:Hp)(Q:U V->Hp->Prop)(h:wL K sf C (e::f) σ H Q):gc (wE K sf C e) (wL K sf C f) σ H Q:=by obtain⟨pv,Z,Fs,η,u,η',A,ev,k⟩:=h;obtain⟨w,η1,t,o,p,rfl⟩:=az ev;refine i4 A o λx Z1 H1 Fs1 d c r1 _ r _=>?_;have a:=c.mono (G':=d) λ_ z=>.inr z;refine FV a p λg m l b j i r2 n s t2=>?_;refine k (x::g) m l b _ i ⟨x,g,d,j,rfl,λ_ z=>.inl z,λ_ z=>.inr z,n,r1.frame c.gd.own s a.dis,r2⟩ ?_;exact r.trans t2
theorem Ed (σ:L2.St)(H:Hp)(Q:U V->Hp->Prop)(h:wL K sf C [] σ H Q):nQ σ H Q:=by obtain⟨pv,Z,Fs,η,c,η',A,ev,k⟩:=h;cases ev;exact k [] Z H Fs no A rfl ((Step.refl _ _ _).mono (λ_ z=>z) λa b=>b.elim id λz=>z.elim)
def Out (K:K3)(Z:Fp)(H:Hp)(G:Fp)(w:W)(Q:VK):Prop:=∀v Z' H' G',Rep K Z' H' w.1 w.2 v G'->Own Z' H' G'->Step Z H G Z' H' G'->Q v H'
theorem At.op (A:At K sl σ Z H Fs η G)(o:Own Z' H' G')(s:Step Z H G Z' H' G'):At K sl σ Z' H' Fs η G'/\Step Z H (λc=>tot Fs c\/G c) Z' H' (λc=>tot Fs c\/G' c):=by
 have d:∀a,tot Fs a->¬G a:=λa h q=>A.dis a q h;have f:=A.gd.own.frame s d;refine⟨⟨⟨f.1,A.gd.dis,s.za A.gd.zal⟩,λi m t e=>?_,o,λa b q=>f.2 a q b,A.lk,A.ln⟩,?_⟩
 .obtain ⟨v,r,g⟩:=A.env i m t e;exact⟨v,r.frame A.own s λa b=>d a ⟨i,b⟩,g⟩
 .refine(s.frame<|tot Fs).mono (λ_ z=>z.symm) λ_ z=>z.symm
theorem bE {w:W}{Q:VK}(A:At K sl σ Z1 H1 Fs1 η1 G)(s:Step Z H F Z1 H1 λa=>tot Fs1 a\/G a)
  (k:∀v Z' H' Fs' G,At K sl σ Z' H' Fs' η1 G->Rep K Z' H' w.1 w.2 v G->Step Z H F Z' H' (λa=>tot Fs' a\/G a)->Q v H'):Out K Z1 H1 G w Q:=λv Z' H' G' r o t=>by
 obtain⟨b,u⟩:=A.op o t;exact k v Z' H' Fs1 G' b r<|s.trans u
def Loc (K:K3)(n:O)(o:Op)(h:QT)(r:U V->Hp->VK->Prop):Prop:=∀(b:U W) (w:W) (c:U V) (Z:Fp) (H:Hp) (G:Fp) (Q:VK),b.length=n->oSem o h b=Y w->RepW K Z H b c G->Own Z H G->(∀a,Z a->H a≠J)->Out K Z H G w Q->r c H Q
theorem cD {o:Op}{h:QT}{c:U E}{w:W}(e:evE C (.op o h c) η=.ok (w,η')):∃b,evL C c η=.ok (b,η')/\oSem o h b=Y w:=by obtain⟨⟨b,η1⟩,d,f⟩:=aa<|show(evL C c η).bind (kOp o h)=_ from e;obtain⟨a,g,i⟩:=aI<|show ret η1 (oSem o h b)=_ from f;cases i;exact⟨b,d,g⟩
theorem gA:∀{a:U E} {η η':Env} {b:U W},evL C a η=.ok (b,η')->b.length=a.length
|[],_,_,_,h=>by cases h;rfl
|e::a,_,_,_,h=>by obtain⟨w,η1,d,_,c,rfl⟩:=az h;rw[Lk,Lk,gA c]
theorem iI {n:O}{o:Op}{h:QT}{b:U E}{r:U V->Hp->VK->Prop}(l:Loc K n o h r)(f:b.length=n)(σ:L2.St)(H:Hp)(Q:VK)(g:wE K sf C (.op o h b) σ H Q):tCB r (wL K sf C b) σ H Q:=by obtain⟨pv,Z,Fs,η,w,η',A,ev,k⟩:=g;obtain⟨d,c,e⟩:=cD ev;exact⟨pv,Z,Fs,η,d,η',A,c,λi Z' H' Fs' G a r s=>l d w i Z' H' G Q ((gA c).trans f) e r a.own a.gd.zal<|bE a s k⟩
theorem aK {o:Op}{h:QT}{a b:E}{r:R2}(l:Loc K 2 o h λxs H Q=>∀x y,xs=[x,y]->r x y H Q)(σ:L2.St)(H:Hp)(Q:VK)(u:wE K sf C (.op o h [a,b]) σ H Q):tOp r (wE K sf C a) (wE K sf C b) σ H Q:=by obtain⟨pv,Z,Fs,η,w,η',A,ev,k⟩:=u;obtain⟨ws,s,t⟩:=cD ev;obtain⟨N,η1,M,e1,e2,rfl⟩:=az s;obtain⟨P,η2,M,e3,p,rfl⟩:=az e2;cases p;refine i4 A e1 λx Z1 H1 Fs1 f e r1 _ v _=>?_;have c:=e.mono (G':=f) λ_ z=>.inr z;refine i4 c e3 λy m j g i d r2 n D t2=>?_;exact l [N,P] w [x,y] m j _ Q rfl t ⟨x,[y],f,i,rfl,λ_ z=>.inl z,λ_ z=>.inr z,n,r1.frame e.gd.own D c.dis,RepW.one r2⟩ d.own d.gd.zal (bE d (v.trans t2) k) x y rfl
theorem b7:Own Z H no:=λ_ z=>z.elim
theorem Step.drop:Step Z H G Z H no:=(Step.refl Z H G).mono (λ_ z=>z) λ_ z=>z.elim
section
variable {Q:VK}{m:Md}{ts:U T}{xs:U V}
theorem a9 {i:I}(k:Out K Z H G (m,.int i) Q):Q (.int i) H:=k _ Z H no rfl b7 .drop
theorem bS {b:QT}(k:Out K Z H G (m,.bl b) Q):Q (.bl b) H:=k _ Z H no rfl b7 .drop
theorem ko {x:Str}(k:Out K Z H G (m,.str x) Q)(h:sOk x=K1):Q (.str x) H:=k _ Z H no ⟨rfl,h⟩ b7 .drop
theorem cH {t:T}{v:V}(o:Own Z H G)(k:Out K Z H G (m,t) Q)(r:Rep K Z H m t v G):Q v H:=k v Z H G r o<|.refl _ _ _
theorem fH {p:QS}{o:HO}(hp:H p=J):Stay Z H (upd H p o):=by
 have b:∀{a u},H a=Y u->a≠p:=λ{a u} e z=>by subst z;rw[hp] at e;cases e
 refine⟨λa u _ e=>?_,λa xs e=>?_,λa u v e=>?_⟩
 .rw[ag<|b e];exact e
 .rcases e with e | ⟨u,e⟩
  .exact .inl (by rw[ag<|b e];exact e)
  .exact .inr ⟨u,by rw[ag<|b e];exact e⟩
 .rw[ag<|b e];exact e
theorem d9 {p:QS}{o:HO}(hp:H p=J)(j:Own Z H G)(f:∀a,G' a->G a\/a=p)(z:Fp)(g:∀a,Z a->z a)(b:∀a,z a->Z a\/G a):Step Z H G z (upd H p o) G':=by
 have i:∀{a u},H a=Y u->a≠p:=λ{a u} e q=>by subst q;rw[hp] at e;cases e
 have d:∀a,H a≠J->upd H p o a≠none:=λa h=>by
  by_cases e:a=p
  .rw[e,af];simp
  .rw[ag e];exact h
 refine⟨λa u e _=>by rw[ag<|i e];exact e,g,λa h=>(b a h).imp id .inl,λa h=>(f a h).imp id λe=>by rw[e];exact hp,d,λq a h=>d a ?_⟩;rcases b a h with c|c
 .exact q a c
 .obtain ⟨_,xs,e⟩:=j a c;rw[e];simp
theorem bV {p:QS}(b:Own Z H G)(n:∀a,Z a->H a≠J)(c:∀a,G' a->G a)(g:xs.length<=LIM)(r:RepL K (cU Z G G') H m.kid ts xs G')(i:m≠.s)(k:Out K Z H G (m,.lst ts) Q)(hp:H p=J):Q (.ref p) (upd H p<|.lst xs):=by
 have d:∀{a u},H a=Y u->a≠p:=λ{a u} e q=>by subst q;rw[hp] at e;cases e
 have j:∀a,G' a->a≠p:=λa h=>by obtain⟨_,f,e⟩:=b a<|c a h;exact d e
 refine k _ (cU Z G G') _ (λa=>G' a\/a=p) ⟨p,xs,rfl,g,(LstR.own i).mpr ⟨.inr rfl,af⟩,?_⟩ ?_<|d9 hp b (λa h=>h.imp (c a) id) _ (λa h=>.inl h) λa h=>h.imp id Nj
 .refine(r.keep (fH hp) (λ_ z=>z) λa u _ e=>by rw[ag<|d e];exact e).mono λa h=>⟨.inl h,j a h⟩
 .rintro a (h | h)
  .obtain ⟨l,f,e⟩:=b a<|c a h;exact⟨λz=>z.elim l λq=>q.2 h,f,by rw[ag<|d e];exact e⟩
  .subst h;refine⟨λz=>z.elim (λq=>n a q hp) λq=>?_,.inl xs,af⟩;obtain⟨_,f,e⟩:=b a q.1;rw[hp] at e;cases e
theorem ot {p:QS}(d:Own Z H G)(b:∀a,G' a->G a)(f:xs.length<=LIM)(r:RepL K (cU Z G G') H m.kid ts xs G')(k:Out K Z H G (m,.tup ts) Q)(hp:H p=J):Q (.ref p) (upd H p<|.tup xs):=by
 have c:∀{a u},H a=Y u->a≠p:=λ{a u} e q=>by subst q;rw[hp] at e;cases e
 refine k _ (cU Z G G') _ G' ⟨p,xs,rfl,.inl<|.inl af,f,?_⟩ ?_<|d9 hp d (λa h=>.inl<|b a h) _ (λa h=>.inl h) λa h=>h.imp id Nj
 .exact r.keep (fH hp) (λ_ z=>z) λa u _ e=>by rw[ag<|c e];exact e
 .intro a h;obtain⟨g,i,e⟩:=d a<|b a h;exact⟨λz=>z.elim g λq=>q.2 h,i,by rw[ag<|c e];exact e⟩
theorem fB {v:V}{H':Hp}(i:Own Z H G)(g:∀a,G' a->G a)(j:xs.length<=LIM)(r:RepL K (cU Z G G') H m.kid ts xs G')(k:Out K Z H G (m,.tup ts) Q)(same:∀b o,H b=Y o->H' b=Y o)(n:∃c,v=.ref c/\SqT K H' c xs):Q v H':=by
 obtain⟨c,rfl,l⟩:=n
 have f:∀a,H a≠J->H' a≠none:=λa h=>by
  cases e:H a with
  |none=>exact QW e h
  |some o=>rw[same a o e];simp
 refine k _ (cU Z G G') _ G' ⟨c,xs,rfl,l,j,?_⟩ (λa h=>?_) ⟨λa o e _=>same a o e,λa h=>.inl h,λa h=>h.imp id λq=>.inl q.1,λa h=>.inl<|g a h,f,λq a h=>f a ?_⟩
 .refine r.keep ⟨fun a o _ e=>same a o e,fun a d e=>?_,fun a o u e=>same a _ e⟩ (fun _ z=>z) fun a u _ e=>same a u e;rcases e with e|⟨u,e⟩
  .exact .inl (same a _ e)
  .exact .inr ⟨u,same a _ e⟩
 .obtain ⟨p,d,e⟩:=i a<|g a h;exact⟨λz=>z.elim p λq=>q.2 h,d,same a _ e⟩
 .rcases h with h | h
  .exact q a h
  .obtain ⟨_,d,e⟩:=i a h.1;rw[e];simp
theorem dN {p:QS}{h:QT}{w:W}(g:Own Z H G)(i:∀a,Z a->H a≠J)(f:xs.length<=LIM)(r:∃G',(∀a,G' a->G a)/\RepL K (cU Z G G') H m ts xs G')(b:newL h m ts=Y w)(k:Out K Z H G w Q)(hp:H p=J):Q (.ref p) (upd H p<|.lst xs):=by
 obtain⟨G',j,r⟩:=r;unfold newL at b;split at b
 .split at b
  .rename_i c;cases b;refine bV (m:=.d) (G':=no) g i (λ_ z=>z.elim) f ?_ (by simp) k hp;exact r.leaves (λ_ _ _ e=>e) c
  .cases b
 .cases b;exact bV (m:=m.up) g i j f (by rw[eW];exact r) (dm m) k hp
end
end
section
variable {K:K3}{h:QT}
theorem cW {d f:Type}{c:U d}{x y:f}(e:c.length=[x,y].length):∃a b,c=[a,b]:=by
 match c,e with
 |[a,b],_=>exact⟨a,b,rfl⟩
theorem KS {c d:Type}{b:U c}{x:d}(e:b.length=[x].length):∃a,b=[a]:=by
 match b,e with
 |[a],_=>exact⟨a,rfl⟩
theorem bA {Z:Fp}{H:Hp}{G:Fp}{u w:W}{x y:V}(r:RepW K Z H [u,w] [x,y] G):∃b c,(∀a,b a->G a)/\(∀a,c a->G a)/\(∀a,b a->¬c a)/\Rep K Z H u.1 u.2 x b/\Rep K Z H w.1 w.2 y c:=by obtain⟨t,s,b,c,e,j,k,d,p,v,r2,i,m,e2,g,o,n,q,z⟩:=r;cases e;cases e2;exact⟨b,i,j,λa f=>k a<|g a f,λa f l=>d a f<|g a l,p,q⟩
theorem Io {Z:Fp}{H:Hp}{G:Fp}{w:W}{x:V}(r:RepW K Z H [w] [x] G):Rep K Z H w.1 w.2 x G:=by obtain⟨i,g,b,c,e,a,f,d,p,z⟩:=r;cases e;exact p.mono a
theorem bC {b:U W}{a:U V}{Z:Fp}{H:Hp}{G:Fp}{w:W}(c:b=[w])(r:RepW K Z H b a G):∃x,a=[x]/\Rep K Z H w.1 w.2 x G:=by subst c;obtain⟨x,hx⟩:=KS (x:=())<|show a.length=[()].length from r.length;subst hx;exact⟨x,rfl,Io r⟩
theorem iU {n:O}(h:n<=LIM):n<sizeLine:=O3 h<|by decide
theorem LIM_le {n:O}(h:n<=LIM):n<=sizeLine:=NY<|iU h
theorem cM {n:O}(h:fits n=K1):n<=LIM:=QU h
theorem BI {o:Op}{C:I->I->Prop}{g:I->I->T}(a:∀{u v w:W},oSem o h [u,v]=Y w->∃m n i j,u=(m,.int i)/\v=(n,.int j)/\C i j/\w=(.d,g i j))(b:I->I->V)(l:∀{Z:Fp} {H:Hp} {G:Fp} {Q:VK} {i j:I},Out K Z H G (.d,g i j) Q->Q (b i j) H):
  Loc K 2 o h λf H Q=>∀x y,f=[x,y]->rI C b x y H Q:=by
 intro A w f Z H G Q t e r z D k x y hx;subst hx;obtain⟨u,v,rfl⟩:=cW r.length.symm;obtain⟨m,n,i,j,rfl,rfl,c,rfl⟩:=a e;obtain⟨p,s,_,_,_,r1,r2⟩:=bA r;exact⟨i,j,r1,r2,c,l k⟩
theorem j8 {o:Op}{g:I->I->T}(a:∀{u v w:W},oSem o h [u,v]=Y w->∃m n i j,u=(m,.int i)/\v=(n,.int j)/\w=(.d,g i j))(b:I->I->V)(f:∀{Z:Fp} {H:Hp} {G:Fp} {Q:VK} {i j:I},Out K Z H G (.d,g i j) Q->Q (b i j) H):
  Loc K 2 o h λc H Q=>∀x y,c=[x,y]->rI0 b x y H Q:=by
 intro z w c Z H G Q s e r t A k x y hx;subst hx;obtain⟨u,v,rfl⟩:=cW r.length.symm;obtain⟨m,n,i,j,rfl,rfl,rfl⟩:=a e;obtain⟨l,p,_,_,_,r1,r2⟩:=bA r;exact⟨i,j,r1,r2,f k⟩
theorem Au {u v w:W}(e:oSem .sub h [u,v]=Y w):∃m n i j,u=(m,.int i)/\v=(n,.int j)/\w=(.d,.int<|i-j):=by obtain⟨m,a⟩:=u;obtain⟨n,b⟩:=v;cases a<;>first|(cases e;done)|(cases b<;>first|(cases e;exact⟨_,_,_,_,rfl,rfl,rfl⟩)|cases e)
theorem sD {u v w:W}(e:oSem .lt h [u,v]=Y w):∃m n i j,u=(m,.int i)/\v=(n,.int j)/\w=(.d,.bl<|decide (i<j)):=by obtain⟨m,a⟩:=u;obtain⟨n,b⟩:=v;cases a<;>first|(cases e;done)|(cases b<;>first|(cases e;exact⟨_,_,_,_,rfl,rfl,rfl⟩)|cases e)
theorem vK {u v w:W}(e:oSem .gt h [u,v]=Y w):∃m n i j,u=(m,.int i)/\v=(n,.int j)/\w=(.d,.bl<|decide (j<i)):=by obtain⟨m,a⟩:=u;obtain⟨n,b⟩:=v;cases a<;>first|(cases e;done)|(cases b<;>first|(cases e;exact⟨_,_,_,_,rfl,rfl,rfl⟩)|cases e)
theorem vc {u v w:W}(e:oSem .ge h [u,v]=Y w):∃m n i j,u=(m,.int i)/\v=(n,.int j)/\w=(.d,.bl<|decide (j<=i)):=by obtain⟨m,a⟩:=u;obtain⟨n,b⟩:=v;cases a<;>first|(cases e;done)|(cases b<;>first|(cases e;exact⟨_,_,_,_,rfl,rfl,rfl⟩)|cases e)
theorem Av {u v w:W}(e:oSem .mod h [u,v]=Y w):∃m n i j,u=(m,.int i)/\v=(n,.int j)/\(0<j)/\w=(.d,.int<|i % j):=by
 obtain⟨m,a⟩:=u;obtain⟨n,b⟩:=v;cases a<;>first|(cases e;done)|(cases b<;>try (cases e;done))
 rename_i i j;rw[BJ] at e;split at e
 .rename_i c;rw[Q3] at c;cases e;exact⟨_,_,_,_,rfl,rfl,c,rfl⟩
 .cases e
theorem AU {u v w:W}(e:oSem .pow h [u,v]=Y w):∃m n i j,u=(m,.int i)/\v=(n,.int j)/\DL i j/\w=(.d,.int<|i ^ j.toNat):=by
 obtain⟨m,a⟩:=u;obtain⟨n,b⟩:=v;cases a<;>first|(cases e;done)|(cases b<;>try (cases e;done))
 rename_i i j;rw[Hx] at e;split at e
 .rename_i c;rw[Li,Li,Q3,Q3,Q3] at c;cases e;exact⟨_,_,_,_,rfl,rfl,⟨c.1.1,c.1.2,c.2⟩,rfl⟩
 .cases e
theorem AD:Loc K 2 .sub h λa H Q=>∀x y,a=[x,y]->rI0 (λi j=>.int<|i-j) x y H Q:=j8 Au _ λk=>a9 k
theorem DJ:Loc K 2 .lt h λa H Q=>∀x y,a=[x,y]->rI0 (λi j=>.bl<|decide (i<j)) x y H Q:=j8 sD _ λk=>bS k
theorem Ce:Loc K 2 .gt h λa H Q=>∀x y,a=[x,y]->rI0 (λi j=>.bl<|decide (j<i)) x y H Q:=j8 vK _ λk=>bS k
theorem DV:Loc K 2 .ge h λa H Q=>∀x y,a=[x,y]->rI0 (λi j=>.bl<|decide (j<=i)) x y H Q:=j8 vc _ λk=>bS k
theorem zW:Loc K 2 .mod h λa H Q=>∀x y,a=[x,y]->rI (λ_ j=>0<j) (λi j=>.int<|i % j) x y H Q:=BI Av _ λk=>a9 k
theorem yp:Loc K 2 .pow h λa H Q=>∀x y,a=[x,y]->rI DL (λi j=>.int<|i ^ j.toNat) x y H Q:=BI AU _ λk=>a9 k
theorem bH {Z:Fp}{H:Hp}{G:Fp}{m:Md}{c:U T}{v:V}(r:Rep K Z H m (.lst c) v G):∃a b,v=.ref a/\H a=Y (.lst b)/\b.length<=LIM/\RepL K Z H m.kid c b G:=by obtain⟨a,b,e,l,q,p⟩:=r;exact⟨a,b,e,by cases m<;>exact q.2,l,p.mono λ_ z=>z.1⟩
theorem cF {Z:Fp}{H:Hp}{G:Fp}{m:Md}{c:U T}{v:V}(r:Rep K Z H m (.tup c) v G):∃a b,v=.ref a/\SqT K H a b/\b.length<=LIM/\RepL K Z H m.kid c b G:=r
theorem gP {Z:Fp}{H:Hp}{G g i:Fp}{m n:Md}{l o:U T}{s t:U V}(p:∀a,g a->G a)(r:∀a,i a->G a)(d:∀a,g a->¬i a)(r1:RepL K Z H m l s g)(r2:RepL K Z H n o t i):
  ∃f,(∀a,f a->G a)/\RepL K (cU Z G f) H (m.meet n) (l++o) (s++t) f:=by
 obtain⟨A,j,u⟩:=RepL.weak (dB m n).1 r1;obtain⟨c,k,v⟩:=RepL.weak (dB m n).2 r2;refine⟨λb=>A b\/c b,λb e=>e.elim (λz=>p b<|j b z) λz=>r b<|k b z,RepL.append (λ_ z=>.inl z) (λ_ z=>.inr z) (λb x y=>d b (j b x)<|k b y) (u.zmono λb e=>?_)<|v.zmono λb e=>?_⟩
 .exact e.imp id λz=>⟨p b z.1,λq=>q.elim z.2 λw=>d b z.1<|k b w⟩
 .exact e.imp id λz=>⟨r b z.1,λq=>q.elim (λw=>d b (j b w) z.1) z.2⟩
theorem AJ {p q:Str}(a:sOk p=K1)(b:sOk q=K1)(c:p.cps.size+q.cps.size<=LIM):sOk (p++q)=true:=by
 unfold sOk at *;rw[Li] at *;refine⟨?_,QV ?_⟩
 .show Array.all (p.cps++q.cps) _=K1;rw[Array.all_append,Li];exact⟨a.1,b.1⟩
 .show (p.cps++q.cps).size<=LIM;rw[Array.size_append];exact c
theorem yh (P:R2)(hT:∀{Z:Fp} {H:Hp} {G:Fp} {Q:VK} {a b:QS} {c l:U V} {u:U T},SqT K H a c->SqT K H b l->c≠[]->c.length+l.length<=LIM->Own Z H G->(∃v,(∀a,v a->G a)/\RepL K (cU Z G v) H .s u (c++l) v)->Out K Z H G (.s,.tup u) Q->P (.ref a) (.ref b) H Q):
  Loc K 2 .add h λc H Q=>∀x y,c=[x,y]->rI0 (λi j=>.int<|i+j) x y H Q\/(∃i j,x=.str i/\y=.str j/\i.length+j.length<=sizeLine/\Q (.str<|i++j) H)\/DX x y H Q\/P x y H Q:=by
 intro ws w c Z H G Q hn e r N za k x y hx;subst hx;obtain⟨⟨m,a⟩,⟨n,b⟩,rfl⟩:=cW r.length.symm;obtain⟨G1,G2,w1,w2,d,r1,r2⟩:=bA r;cases a<;>first|(cases e;done)|(cases b<;>try (cases e;done))
 .cases e;exact .inl ⟨_,_,r1,r2,a9 k⟩
 .rename_i p q;rw[w8] at e;split at e
  .rename_i f;cases e;refine .inr<|.inl ⟨p,q,r1.1,r2.1,LIM_le<|cM f,ko k ?_⟩;exact AJ r1.2 r2.2<|cM f
  .cases e
 .rename_i u us;rw[sP] at e;split at e
  .rename_i f;cases e;rw[Li] at f;obtain⟨a,c,rfl,M,hl,p⟩:=cF r1;obtain⟨b,l,rfl,g,D,t⟩:=cF r2;have o:=cM f.1;have e1:=p.length;have e2:=t.length;refine .inr (.inr (.inr (hT M g ?_ (by lia) N ?_ k)))
   .rintro rfl;cases u with
    |nil=>simp at f
    |cons _ _=>simp at e1
   .refine ⟨no,fun _ z=>z.elim,RepL.append (G1:=no) (G2:=no) (fun _ z=>z) (fun _ z=>z) (fun _ z _=>z) ((RepL.sh p).zmono fun b A=>?_) ((RepL.sh t).zmono fun b A=>?_)⟩
    .exact A.imp id λz=>⟨w1 b z,λq=>q⟩
    .exact A.imp id λz=>⟨w2 b z,λq=>q⟩
  .cases e
 .rename_i u us;rw[uX] at e;split at e
  .rename_i f;obtain⟨a,c,rfl,M,hl,p⟩:=bH r1;obtain⟨b,l,rfl,g,D,t⟩:=bH r2;have o:=cM f;have e1:=p.length;have e2:=t.length;have F:(c++l).length<=LIM:=by rw[K8];lia
   refine .inr<|.inr<|.inl ⟨a,b,c,l,rfl,rfl,M,g,LIM_le<|by lia,λq hq=>?_⟩;exact dN N za F (gP w1 w2 d p t) e k hq
  .cases e
theorem AS:Loc K 2 .mul h λg H Q=>∀x y,g=[x,y]->rI CMul (λi j=>.int<|i * j) x y H Q\/Ih x y H Q:=by
 intro ws w g Z H G Q hn e r N za k x y hx;subst hx;obtain⟨⟨m,a⟩,⟨n,b⟩,rfl⟩:=cW r.length.symm;obtain⟨G1,G2,P,w2,d,r1,r2⟩:=bA r;cases a<;>first|(cases e;done)|(cases b<;>try (cases e;done))
 .rename_i i j;rw[uG] at e;split at e
  .rename_i l;cases e;refine .inl ⟨i,j,r1,r2,?_,a9 k⟩;rw[Qg,Q3,Q3] at l;have t:(2:I) ^ 64=18446744073709551616:=by decide
   unfold CMul;rw[t];lia
  .cases e
 .rename_i v j;have o:(if decide (j.natAbs<4611686018427387904)&&fits (v.length * j.toNat) then newL h .s (Lo j.toNat v).flatten else J)=Y w:=e;split at o
  .rename_i l;rw[Li,Q3] at l;obtain⟨a,g,rfl,F,hl,p⟩:=bH r1;have f:=cM l.2;have e1:=p.length;have u:((Lo j.toNat g).flatten).length<=LIM:=by rw[List.length_flatten,List.map_replicate,List.sum_replicate_nat,e1,PY];exact f
   refine .inr ⟨a,j,g,rfl,r2,F,by lia,by lia,LIM_le<|by rw[e1];exact f,λq D=>?_⟩;refine dN N za u ⟨no,λ_ z=>z.elim,?_⟩ o k D;have ps:=(RepL.sh p).zmono (Z':=cU Z G no) λb A=>A.imp id λz=>⟨P b z,λq=>q⟩;generalize j.toNat=c;induction c with
   |zero=>exact rfl
   |succ c M=>exact RepL.append (λ_ z=>z) (λ_ z=>z) (λ_ z _=>z) ps M
  .cases o
theorem nR {Z:Fp}{H:Hp}{G:Fp}{m:Md}{a:U T}{b:U V}{i:I}{t:T}(p:RepL K Z H m a b G)(e:M.atI a i=Y t):∃x,L2.atI b i=Y x/\Rep K Z H m t x G:=by
 unfold M.atI at e;have c:M.ixN a.length i=L2.ixN b.length i:=by rw[p.length];rfl
 cases e1:M.ixN a.length i with
 |none=>rw[e1] at e;cases e
 |some j=>rw[e1] at e;obtain⟨x,hx,r⟩:=p.get<|show a[j]?=Y t from e;refine⟨x,?_,r⟩;unfold L2.atI;rw[<- c,e1];exact hx
theorem zB {x:Str}{c:O}(h:sOk x=K1)(d:c∈x.cps.toList):sOk ⟨#[c]⟩=true:=by
 unfold sOk at *;rw[Li] at *;refine⟨?_,rfl⟩;have a:=h.1;rw[OH] at a;have b:=a c<|Array.mem_def.mpr d;rw[OH];intro y e;have:y=c:=by simpa using e
 rw[this];exact b
theorem jZ {x:Str}(h:sOk x=K1):x.cps.size<=LIM:=by unfold sOk at h;rw[Li,Q3] at h;exact h.2
theorem Cm:Loc K 2 .ix h λg H Q=>∀x y,g=[x,y]->(∃p g i v,x=.ref p/\y=.int i/\(SqL K H p g\/SqT K H p g)/\L2.atI g i=Y v/\Q v H)\/(∃z i c,x=.str z/\y=.int i/\z.length<=sizeLine/\L2.atI z.cps.toList i=Y c/\Q (.str ⟨#[c]⟩) H):=by
 intro ws w g Z H G Q hn e r D za k x y hx;subst hx;obtain⟨⟨m,a⟩,⟨n,b⟩,rfl⟩:=cW r.length.symm;obtain⟨P,G2,F,w2,d,r1,r2⟩:=bA r;obtain⟨i,rfl⟩:∃i,b=.int i:=by cases b<;>first|exact⟨_,rfl⟩|(cases e;done)|(cases a<;>cases e)
 cases a with
 | lst s =>
  obtain⟨a,g,rfl,o,N,p⟩:=bH r1;have f:(M.atI s i).map (λt=>(m.kid,t))=Y w:=e;cases e1:M.atI s i with
  |none=>rw[e1] at f;cases f
  |some t=>rw[e1] at f;cases f;obtain⟨v,u,A⟩:=nR p e1;exact .inl ⟨a,g,i,v,rfl,r2,.inl<|.inl<|.inl o,u,cH D k<|A.mono F⟩
 | tup s =>
  obtain⟨a,g,rfl,o,N,p⟩:=cF r1;have f:(M.atI s i).map (λt=>(m.kid,t))=Y w:=e;cases e1:M.atI s i with
  |none=>rw[e1] at f;cases f
  |some t=>rw[e1] at f;cases f;obtain⟨v,u,A⟩:=nR p e1;exact .inl ⟨a,g,i,v,rfl,r2,.inr o,u,cH D k<|A.mono F⟩
 | str z =>
  have f:(M.atI z.cps.toList i).map (λc=>((.d,.str ⟨#[c]⟩):W))=Y w:=e;cases e1:M.atI z.cps.toList i with
  |none=>rw[e1] at f;cases f
  |some c=>
   rw[e1] at f;cases f;refine .inr ⟨z,i,c,r1.1,r2,LIM_le<|jZ r1.2,e1,ko k<|zB r1.2 ?_⟩;unfold M.atI at e1;cases e2:M.ixN z.cps.toList.length i with
   |none=>rw[e2] at e1;cases e1
   |some j=>rw[e2] at e1;exact ME e1
 | scr l =>
  obtain⟨a,rfl,hL,o⟩:=r1;have f:(M.atI l i).map (λn=>((.d,.int n):W))=Y w:=e;cases e1:M.atI l i with
  |none=>rw[e1] at f;cases f
  | some n =>
   rw[e1] at f;cases f;refine .inl ⟨a,_,i,.int n,rfl,r2,.inl o.sq,?_,a9 k⟩;unfold M.atI at e1;unfold L2.atI;rw[K9];cases e2:M.ixN l.length i with
   |none=>rw[e2] at e1;cases e1
   |some j=>rw[e2] at e1;rw[show L2.ixN l.length i=Y j from e2];show(l.map V.int)[j]?=_;rw[LQ,show l[j]?=Y n from e1];rfl
 |_=>cases e
theorem zp:Loc K 1 .len h λb H Q=>∃x n,b=[x]/\(match x with
  |.str y=>y.length<=sizeLine/\n=y.length
  |.byt y=>y.size<=sizeLine/\n=y.size
  |.ref p=>(∃b,SqL K H p b/\n=b.length)\/∃b,SqT K H p b/\n=b.length
  |_=>Q6)/\Q (.int (n:O)) H:=by
 intro j w b Z H G Q g e r o s k
 match j,g with
 | [(m,a)],_ =>
  obtain⟨x,rfl,r1⟩:=bC rfl r;cases a with
  |lst d=>obtain⟨a,b,hx,c,f,p⟩:=bH r1;cases e;refine⟨x,d.length,rfl,?_,a9 k⟩;rw[show x=.ref a from hx];exact .inl ⟨b,.inl<|.inl c,p.length.symm⟩
  |tup d=>obtain⟨a,b,hx,c,f,p⟩:=cF r1;cases e;refine⟨x,d.length,rfl,?_,a9 k⟩;rw[show x=.ref a from hx];exact .inr ⟨b,c,p.length.symm⟩
  |str z=>cases e;refine⟨x,z.length,rfl,?_,a9 k⟩;rw[show x=.str z from r1.1];exact⟨LIM_le<|jZ r1.2,rfl⟩
  |scr i=>obtain⟨a,hx,l,c⟩:=r1;cases e;refine⟨x,i.length,rfl,?_,a9 k⟩;rw[show x=.ref a from hx];exact .inl ⟨_,c.sq,by rw[K9]⟩
  |_=>cases e
theorem mH {Z:Fp}{H:Hp}{G:Fp}{m:Md}:∀a:U I,RepL K Z H m (a.map T.int) (a.map V.int) G
|[]=>rfl
|n::a=>⟨.int n,a.map V.int,no,no,rfl,λ_ z=>z.elim,λ_ z=>z.elim,λ_ z=>z.elim,rfl,mH a⟩
theorem sG:Loc K 1 .list h λb H Q=>∃p i,b=[.ref p]/\(SqL K H p i\/SqT K H p i)/\∀l,H l=J->Q (.ref l) (upd H l<|.lst i):=by
 intro u w b Z H G Q o e r g j k
 match u,o with
 | [(m,a)],_ =>
  obtain⟨x,rfl,r1⟩:=bC rfl r;cases a with
  |lst t=>obtain⟨a,b,hx,d,f,p⟩:=bH r1;refine⟨a,b,by rw[hx],.inl<|.inl<|.inl d,λq c=>dN g j f ⟨G,λ_ z=>z,p.zmono λ_ z=>.inl z⟩ e k c⟩
  |tup t=>obtain⟨a,b,hx,d,f,p⟩:=cF r1;refine⟨a,b,by rw[hx],.inr d,λq c=>dN g j f ⟨G,λ_ z=>z,p.zmono λ_ z=>.inl z⟩ e k c⟩
  |scr s=>obtain⟨a,hx,n,d⟩:=r1;cases e;refine⟨a,_,by rw[hx],.inl d.sq,λq c=>bV (G':=no) g j (λ_ z=>z.elim) (by rw[K9];exact n) (mH s) (by simp) k c⟩
  |_=>cases e
theorem rG {Z:Fp}{H:Hp}{G:Fp}{m:Md}:∀{a:U T} {b:U QT} {c:U V},bq a=Y b->RepL K Z H m a c G->c=b.map V.bl:=by
 intro a;induction a generalizing G with
 |nil=>intro b c e r;cases e;exact r
 | cons t a d =>
  intro b c e r;obtain⟨x,k,g,j,rfl,_,_,_,p,q⟩:=r;cases t with
  | bl i =>
   cases e1:bq a with
   |none=>simp[bq,e1] at e
   |some f=>
    have:b=i::f:=by simpa[bq,e1] using e.symm
    subst this;rw[Ln,<- d e1 q,show x=.bl i from p]
  |_=>cases e
theorem yw:Loc K 1 .all h λf H Q=>∃(a:QS) (bs:U QT),f=[.ref a]/\SqL K H a (bs.map V.bl)/\Q (.bl<|bs.all id) H:=by
 intro l w f Z H G Q j e r o s k
 match l,j with
 | [(m,a)],_ =>
  obtain⟨x,rfl,r1⟩:=bC rfl r;cases a with
  | lst i =>
   obtain⟨a,f,hx,g,n,p⟩:=bH r1;have b:(bq i).map (λc=>((.d,.bl (c.all id)):W))=Y w:=e;cases e1:bq i with
   |none=>rw[e1] at b;cases b
   |some c=>rw[e1] at b;cases b;rw[rG e1 p] at g;exact⟨a,c,by rw[hx],.inl<|.inl g,bS k⟩
  |_=>cases e
end
section
variable {K:K3}{sl:Cf}{sf:O->B O}{C:Call}{σ:L2.St}{Z Z' Z1:Fp}{H H' H1:Hp}{Fs Fs' Fs1:Fps}{η η' η1:Env}{G G' R F:Fp}
mutual
theorem Rep.sany:∀{t:T} {v:V} {G G':Fp},Rep K Z H .s t v G->Rep K Z H .s t v G'
|.non,_,_,_,h=>h
|.bl _,_,_,_,h=>h
|.int _,_,_,_,h=>h
|.str _,_,_,_,h=>h
|.scr _,_,_,_,h=>h
|.tup ts,_,_,_,⟨a,xs,e,q,l,r⟩=>⟨a,xs,e,q,l,RepL.sany r⟩
|.lst ts,_,_,_,⟨a,xs,e,l,q,r⟩=>⟨a,xs,e,l,q,RepL.sany r⟩
|.dct _ _,_,_,_,⟨a,xs,e,l,q,n,hl,r⟩=>⟨a,xs,e,l,q,n,hl,r⟩
|.ins _ _ _,_,_,_,h=>h
|.dtt _ _,_,_,_,h=>h
|.obj _ _ _,_,_,_,h=>h
|.gone,_,_,_,h=>h
theorem RepL.sany:∀{ts:U T} {xs:U V} {G G':Fp},RepL K Z H .s ts xs G->RepL K Z H .s ts xs G'
|[],_,_,_,h=>h
|t::ts,xs,_,_,⟨x,r,G1,G2,e,h1,h2,hd,p,q⟩=>⟨x,r,no,no,e,λ_ z=>z.elim,λ_ z=>z.elim,λ_ z=>z.elim,Rep.sany p,RepL.sany q⟩
end
theorem bB:∀(η:Env) (i j:O) (o:B W),rd (wr η i o) j=if j=i/\i < η.length then o else rd η j
|[],i,j,o=>by simp[wr,rd]
|p::η,0,0,o=>by simp[wr,rd]
|p::η,0,j+1,o=>by simp[wr,rd]
|p::η,i+1,0,o=>by simp[wr,rd]
|p::η,i+1,j+1,o=>by show rd (wr η i o) j=_;rw[bB η i j o];simp[rd]
theorem dH:∀{η:Env} {i:O} {w:W},rd η i=Y w->i < η.length
|[],_,_,h=>by cases h
|_::_,0,_,_=>by simp
|_::η,i+1,_,h=>by have:=dH (η:=η) (i:=i) h;simp;exact this
theorem fN (h:∀a,F a->G a):Step Z H G Z H F:=(Step.refl Z H G).mono (λ_ z=>z) h
theorem B8 {i j:O}(f:sf i=Y j)(σ:L2.St)(H:Hp)(Q:VK)(h:wE K sf C (.var i) σ H Q):bJ j σ H Q:=by
 obtain⟨pv,Z,Fs,η,w,η',A,ev,k⟩:=h;obtain⟨l,e1,e2⟩:=aI<|show ret η ((rd η i).bind look)=_ from ev;cases e2;cases e3:rd η i with
 |none=>rw[e3] at e1;cases e1
 | some u =>
  rw[e3] at e1;obtain⟨m,t⟩:=u;obtain⟨v,r,g⟩:=A.env i m t e3;refine⟨v,g.1 j f,k v Z H Fs no A ?_<|fN λa e=>e.elim id λz=>z.elim⟩;cases m with
  |s=>cases e1;exact r.sany
  |d=>
   have b:(if t.leaf=K1 then Y (Md.d,t) else J)=Y w:=e1;split at b
   .rename_i c;cases b;exact r.leaf (λ_ _ _ q=>q) c
   .cases b
  |o m=>
   have b:(if t.leaf=K1 then Y (Md.d,t) else J)=Y w:=e1;split at b
   .rename_i c;cases b;exact r.leaf (λ_ _ _ q=>q) c
   .cases b
def tZ (Fs:Fps)(i:O):Fps:=λj a=>j≠i/\Fs j a
theorem EE {e:E}{i j:O}(o:∀η,evE C e η=ret (del η i) (rd η i))(p:sf i=Y j)(σ:L2.St)(H:Hp)(Q:VK)(h:wE K sf C e σ H Q):bJ j σ H Q:=by
 obtain⟨pv,Z,Fs,η,w,η',A,ev,k⟩:=h;rw[o] at ev;obtain⟨N,e1,e2⟩:=aI ev;cases e2;obtain⟨m,t⟩:=w;obtain⟨v,r,s⟩:=A.env i m t e1;refine⟨v,s.1 j p,k v Z H (tZ Fs i) (Fs i) ⟨⟨λa ⟨l,d,b⟩=>A.gd.own a ⟨l,b⟩,λl u a d b=>A.gd.dis l u a d.2 b.2,A.gd.zal⟩,λl x D e=>?_,λa c=>A.gd.own a ⟨i,c⟩,λa c ⟨l,d,b⟩=>d<|A.gd.dis l i a b c,A.lk,A.ln⟩ r<|fN λa c=>c.elim (λ⟨l,d,b⟩=>⟨l,b⟩) λz=>⟨i,z⟩⟩;rw[bB] at e;split at e
 .cases e
 .rename_i g;obtain⟨M,y,n⟩:=A.env l x D e;have f:l≠i:=λz=>g ⟨z,dH e1⟩;exact⟨M,y.mono λa c=>⟨f,c⟩,n⟩
theorem ia {t:T}{v:V}(c:∀{Z:Fp} {H:Hp},Rep K Z H .d t v no)(σ:L2.St)(H:Hp)(Q:VK)(h:wE K sf C (.cst t) σ H Q):tC v σ H Q:=by obtain⟨pv,Z,Fs,η,w,η',A,ev,k⟩:=h;cases ev;exact k v Z H Fs no A c<|fN λa b=>b.elim id λz=>z.elim
theorem C7 {b:U E}(j:b.length<=LIM)(σ:L2.St)(H:Hp)(Q:VK)(h:wE K sf C (.tup b) σ H Q):Hy (wL K sf C b) σ H Q:=by
 obtain⟨pv,Z,Fs,η,w,η',A,ev,k⟩:=h;obtain⟨⟨e,η1⟩,c,i⟩:=aa<|show(evL C b η).bind xB=_ from ev;cases i;refine⟨pv,Z,Fs,η,e,_,A,c,λn Z' H' Fs' G a r s=>?_⟩;have d:n.length<=LIM:=by rw[r.length,gA c];exact j
 obtain⟨G',f,g⟩:=RepW.to (λu l=>gZ l) r;refine⟨LIM_le d,λp hp=>ot (m:=(gM e).up) a.own f d (by rw[eW];exact g) (bE a s k) hp⟩
theorem Eu {b:QT}{c:U E}(n:c.length<=LIM)(σ:L2.St)(H:Hp)(Q:VK)(h:wE K sf C (.lst b c) σ H Q):Ho (wL K sf C c) σ H Q:=by
 obtain⟨pv,Z,Fs,η,w,η',A,ev,k⟩:=h;obtain⟨⟨j,η1⟩,g,l⟩:=aa<|show(evL C c η).bind (xk b)=_ from ev;cases l;refine⟨pv,Z,Fs,η,j,_,A,g,λt Z' H' Fs' G a r s=>?_⟩;have f:t.length<=LIM:=by rw[r.length,gA g];exact n
 refine⟨LIM_le f,λp hp=>?_⟩;cases b with
 |true=>obtain⟨G',d,e⟩:=RepW.to (λu i=>gZ i) r;exact bV (m:=(gM j).up) a.own a.gd.zal d f (by rw[eW];exact e) (dm _) (bE a s k) hp
 |false=>obtain⟨G',d,e⟩:=RepW.to (N:=.s) (λu i=>by cases lf u.1 u.2<;>rfl) r;exact bV (m:=.o .s) a.own a.gd.zal d f e (by simp) (bE a s k) hp
theorem H9 {e:E}{m:Md}(σ:L2.St)(H:Hp)(Q:VK)(h:wE K sf C (.wk m e) σ H Q):wE K sf C e σ H Q:=by
 obtain⟨pv,Z,Fs,η,w,η',A,ev,k⟩:=h;obtain⟨⟨u,η1⟩,j,l⟩:=aa<|show(evE C e η).bind (kWk m)=_ from ev;obtain⟨o,e1,e2⟩:=aI<|show ret η1 (if m.le u.1 then Y (m,u.2) else J)=_ from l;cases e2;split at e1
 .rename_i c;cases e1;refine⟨pv,Z,Fs,η,u,_,A,j,λv Z' H' Fs' G b r s=>?_⟩;obtain⟨G',d,i⟩:=r.weak c;refine bE b s k v (cU Z' G G') H' G' i (λa f=>?_) ⟨λ_ _ e _=>e,λa h=>.inl h,λa h=>h.imp id λq=>.inl q.1,λa h=>.inl (d a h),λ_ h=>h,λq a h=>?_⟩
  .obtain ⟨n,g,e⟩:=b.own a<|d a f;exact⟨λz=>z.elim n λq=>q.2 f,g,e⟩
  .rcases h with h | h
   .exact q a h
   .obtain ⟨_,g,e⟩:=b.own a h.1;rw[e];simp
 .cases e1
def wT (K:K3)(sl:O->B O)(C:Call)(e:E):TT:=λσ H Q=>∃pv Z Fs η w η' b,At K ⟨sl,pv⟩ σ Z H Fs η no/\evE C e η=.ok (w,η')/\truth w.2=Y b /\
 ∀Z' H' Fs',At K ⟨sl,pv⟩ σ Z' H' Fs' η' no->Step Z H (tot Fs) Z' H' (tot Fs')->Q b H'
def TrV (K:K3)(x:V)(H:Hp)(k:QT):Prop:=
 match x with
 |.non=>k=K0
 |.bl b=>k=b
 |.int i=>k=(i != 0)
 |.str y=>y.length<=sizeLine/\k=((y.length:I) != 0)
 |.ref p=>(∃a,SqL K H p a/\k=!a.isEmpty)\/(∃a,SqT K H p a/\k=!a.isEmpty)
 |_=>Q6
theorem dU {c d:Type}{a:U c}{b:U d}(h:a.length=b.length):a.isEmpty=b.isEmpty:=by cases a<;>cases b<;>first|rfl|simp at h
theorem rA {m:Md}{t:T}{v:V}{b:QT}(e:truth t=Y b)(r:Rep K Z H m t v G):TrV K v H b:=by
 cases t with
 |non=>cases e;rw[show v=_ from r];rfl
 |bl c=>cases e;rw[show v=_ from r];rfl
 |int i=>cases e;rw[show v=_ from r];rfl
 |str x=>
  cases e;rw[show v=_ from r.1];refine⟨LIM_le<|jZ r.2,?_⟩;show(x.cps.size != 0)=(((x.cps.size:O):I) != 0);cases x.cps.size with
  |zero=>rfl
  |succ n=>simp;lia
 |tup h=>obtain⟨a,f,rfl,d,g,p⟩:=cF r;cases e;exact .inr ⟨f,d,by rw[dU p.length]⟩
 |lst h=>obtain⟨a,f,rfl,d,g,p⟩:=bH r;cases e;exact .inl ⟨f,.inl<|.inl d,by rw[dU p.length]⟩
 |scr k=>obtain⟨a,rfl,j,d⟩:=r;cases e;exact .inl ⟨_,d.sq,by rw[dU<|K9 ..]⟩
 |dct _ _=>cases e
 |ins _ _ _=>cases e
 |obj _ _ _=>cases e
 |dtt _ _=>cases e
 |gone=>cases e
theorem nH {e:E}{w:W}{b:QT}{Q:QT->Hp->Prop}(A:At K sl σ Z H Fs η no)(ev:evE C e η=.ok (w,η'))(a:truth w.2=Y b)(k:∀Z' H' Fs',At K sl σ Z' H' Fs' η' no->Step Z H (tot Fs) Z' H' (tot Fs')->Q b H'):wT K sl.sl C e σ H Q:=⟨sl.pv,Z,Fs,η,w,η',b,A,ev,a,k⟩
theorem cc {a:Type}{f g:Env->Res a}{p:W×Env}{r:a}(h:onT f g p=.ok r):∃b,truth p.1.2=Y b/\(if b=K1 then f p.2 else g p.2)=.ok r:=by
 unfold onT at h;split at h
 .rename_i e;exact⟨K1,e,h⟩
 .rename_i e;exact⟨K0,e,h⟩
 .cases h
theorem BZ {e:E}(σ:L2.St)(H:Hp)(Q:QT->Hp->Prop)(h:wT K sf C (.not e) σ H Q):II (wT K sf C e) σ H Q:=by
 obtain⟨pv,Z,Fs,η,w,η',b,A,ev,g,k⟩:=h;obtain⟨⟨u,η1⟩,a,f⟩:=aa<|show(evE C e η).bind uK=_ from ev;obtain⟨i,e1,e2⟩:=aI<|show ret η1 ((truth u.2).map λb=>((.d,.bl<|!b):W))=_ from f;cases e2;cases e3:truth u.2 with
 |none=>rw[e3] at e1;cases e1
 |some c=>
  rw[e3] at e1;cases e1;have:b=!c:=by cases g;rfl
  subst this;exact nH A a e3 k
theorem Cn {a b:E}(σ:L2.St)(H:Hp)(Q:QT->Hp->Prop)(h:wT K sf C (.and a b) σ H Q):Ja (wT K sf C a) (wT K sf C b) σ H Q:=by
 obtain⟨pv,Z,Fs,η,w,η',c,A,ev,j,k⟩:=h;obtain⟨⟨u,η1⟩,p,r⟩:=aa<|show(evE C a η).bind (uA<|evE C b)=_ from ev;obtain⟨d,i,e⟩:=cc<|show onT (evE C b) (okW u) (u,η1)=_ from r;refine nH A p i λZ1 H1 Fs1 g l=>?_;cases d with
 |true=>rw[QY rfl] at e ⊢;exact nH g e j λo n f m s=>k o n f m<|l.trans s
 |false=>rw[Q0 LA] at e ⊢;cases e;cases(i.symm.trans j);exact k Z1 H1 Fs1 g l
theorem Hl {a b:E}(σ:L2.St)(H:Hp)(Q:QT->Hp->Prop)(h:wT K sf C (.or a b) σ H Q):tOr (wT K sf C a) (wT K sf C b) σ H Q:=by
 obtain⟨pv,Z,Fs,η,w,η',c,A,ev,j,k⟩:=h;obtain⟨⟨u,η1⟩,p,r⟩:=aa<|show(evE C a η).bind (kOr<|evE C b)=_ from ev;obtain⟨d,i,e⟩:=cc<|show onT (okW u) (evE C b) (u,η1)=_ from r;refine nH A p i λZ1 H1 Fs1 g l=>?_;cases d with
 |false=>rw[Q0 LA] at e ⊢;exact nH g e j λo n f m s=>k o n f m<|l.trans s
 |true=>rw[QY rfl] at e ⊢;cases e;cases(i.symm.trans j);exact k Z1 H1 Fs1 g l
theorem Ck {c a b:E}(σ:L2.St)(H:Hp)(Q:VK)(h:wE K sf C (.ifx c a b) σ H Q):tIf (wT K sf C c) (wE K sf C a) (wE K sf C b) σ H Q:=by
 obtain⟨pv,Z,Fs,η,w,η',A,ev,k⟩:=h;obtain⟨⟨u,η1⟩,j,l⟩:=aa<|show(evE C c η).bind (onT (evE C a)<|evE C b)=_ from ev;obtain⟨d,m,f⟩:=cc l;refine nH A j m λZ1 H1 Fs1 g i=>?_;cases d with
 |true=>rw[QY rfl] at f ⊢;exact⟨pv,Z1,Fs1,η1,w,η',g,f,λv Z' H' Fs' G e r s=>k v Z' H' Fs' G e r<|i.trans s⟩
 |false=>rw[Q0 LA] at f ⊢;exact⟨pv,Z1,Fs1,η1,w,η',g,f,λv Z' H' Fs' G e r s=>k v Z' H' Fs' G e r<|i.trans s⟩
end
section
variable {K:K3}{sl:Cf}{sf:O->B O}{C:Call}{σ:L2.St}{Z Z' Z1:Fp}{H H' H1:Hp}{Fs Fs' Fs1:Fps}{η η' η1:Env}{G G' R F:Fp}
structure Wk (K:K3)(J:It)(Z:Fp)(H0:Hp)(ts:U (U W)):Prop where
 go:∀H i,Stay Z H0 H->i<ts.length->J.go i H
 stop:∀H i,Stay Z H0 H->ts.length<=i->J.stop i H
 len:ts.length<=LIM
def vw (K:K3)(a:It)(Z:Fp)(c:Hp)(b:U<|U W):Prop:=
 ∀H i x H',Stay Z c H->i<b.length->a.yld i H x H'->H'=H/\∃w,b[i]?=Y [w]/\Rep K Z H w.1 w.2 x no
def Ki (K:K3)(a:It)(Z:Fp)(d:Hp)(c:U<|U W):Prop:=
 ∀H i x H',Stay Z d H->i<c.length->a.yld i H x H'->∃p y z u w,x=.ref p/\(∀b o,H b=Y o->H' b=Y o)/\SqT K H' p [y,z]/\c[i]?=Y [u,w]/\Rep K Z H u.1 u.2 y no/\Rep K Z H w.1 w.2 z no
theorem lY (same:∀b o,H b=Y o->H' b=Y o):Stay Z H H':=by
 refine⟨λa o _ e=>same a o e,λa c e=>?_,λa o u e=>same a _ e⟩;rcases e with e|⟨u,e⟩
 .exact .inl (same a _ e)
 .exact .inr ⟨u,same a _ e⟩
theorem gI (same:∀a o,H a=Y o->H' a=Y o):Step Z H G Z H' G:=by
 have b:∀a,H a≠J->H' a≠none:=λa h=>by
  cases e:H a with
  |none=>exact QW e h
  |some o=>rw[same a o e];simp
 exact⟨λa o h _=>same a o h,λ_ h=>h,λ_ h=>.inl h,λ_ h=>.inl h,b,λz a h=>b a<|z a h⟩
theorem vU {p:QS}{o:HO}(hp:H p=J):∀b u,H b=Y u->upd H p o b=Y u:=λa u e=>by
 have:a≠p:=λq=>by subst q;rw[hp] at e;cases e
 rw[ag this];exact e
def Yld (K:K3)(a:It)(Z:Fp)(b:Hp)(c:U<|U W):O->Prop
|1=>vw K a Z b c
|2=>Ki K a Z b c
|_=>Q6
def wI (K:K3)(sl:O->B O)(C:Call)(n:O)(k:Ik)(b:U E):TI:=λσ H R=>∃pv Z Fs η d η' c,At K ⟨sl,pv⟩ σ Z H Fs η no/\evL C b η=.ok (d,η')/\bb k d=Y c /\
 ∀a Z' H' Fs',At K ⟨sl,pv⟩ σ Z' H' Fs' η' no->Step Z H (tot Fs) Z' H' (tot Fs')->Wk K a Z' H' c->Yld K a Z' H' c n->R a H'
theorem At.freeze (A:At K sl σ Z H Fs η G):At K sl σ (λa=>Z a\/G a) H Fs η no:=by
 refine⟨⟨λa b=>⟨λz=>z.elim (A.gd.own a b).1 λq=>A.dis a q b,(A.gd.own a b).2⟩,A.gd.dis,λa h=>h.elim (A.gd.zal a) λq=>?_⟩,λi m t e=>?_,b7,λ_ z=>z.elim,A.lk,A.ln⟩
 .obtain ⟨_,c,e⟩:=A.own a q;rw[e];simp
 .obtain ⟨v,r,h⟩:=A.env i m t e;exact⟨v,r.zmono λa h=>.inl h,h⟩
theorem bg (o:Own Z' H' G)(s:Step Z H F Z' H' λa=>F' a\/G a):Step Z H F (λa=>Z' a\/G a) H' F' where
 keep:=s.keep
 zm:=λa h=>.inl<|s.zm a h
 zn:=λa h=>h.elim (s.zn a) λq=>.inr<|s.fn a<|.inr q
 fn:=λa h=>s.fn a<|.inl h
 al:=s.al
 za:=λz a h=>h.elim (s.za z a) λq=>by obtain⟨_,b,e⟩:=o a q;rw[e];simp
theorem gE {a:QS}{c:U V}{b:Hp}(s:Stay Z b H)(d:Z a)(h:b a=Y (.lst c)):SqL K H a c:=.inl<|.inl<|s.1 a _ d h
theorem xD {a:QS}{c:U V}{b:U T}(k:c.length<=LIM)(f:Z a)(h:H a=Y (.lst c))(r:RepL K Z H .s b c no):Wk K (Itl K a) Z H (b.map λt=>[(.s,t)])/\vw K (Itl K a) Z H (b.map λt=>[(.s,t)]):=by
 have l:=r.length;refine⟨⟨λH' i s d=>?_,λH' i s d=>?_,by rw[K9];lia⟩,λH' i x g s d y=>?_⟩
 .rw [K9] at d;exact⟨c,c[i]'(by lia),gE s f h,by simp⟩
 .rw [K9] at d;exact⟨c,gE s f h,by lia⟩
 .rw [K9] at d;obtain⟨rfl,y⟩:=y;have hx:=y c<|gE s f h;obtain⟨m,e,j⟩:=r.get (show b[i]?=Y b[i] by simp);rw[hx] at e;cases e;refine⟨rfl,(.s,b[i]),by rw[LQ,show b[i]?=Y b[i] by simp];rfl,j.keep s (λ_ z=>z) λ_ _ z=>z.elim⟩
theorem CY {a:QS}{c:U V}{b:U T}(j:c.length<=LIM)(h:SqT K H a c)(r:RepL K Z H .s b c no):Wk K (Itt K a) Z H (b.map λt=>[(.s,t)])/\vw K (Itt K a) Z H (b.map λt=>[(.s,t)]):=by
 have k:=r.length;refine⟨⟨λH' i s d=>?_,λH' i s d=>?_,by rw[K9];lia⟩,λH' i x f s d y=>?_⟩
 .rw [K9] at d;exact⟨c,c[i]'(by lia),s.sqt h,by simp⟩
 .rw [K9] at d;exact⟨c,s.sqt h,by lia⟩
 .rw [K9] at d;obtain⟨rfl,y⟩:=y;have hx:=y c<|s.sqt h;obtain⟨l,e,g⟩:=r.get (show b[i]?=Y b[i] by simp);rw[hx] at e;cases e;refine⟨rfl,(.s,b[i]),by rw[LQ,show b[i]?=Y b[i] by simp];rfl,g.keep s (λ_ z=>z) λ_ _ z=>z.elim⟩
theorem CJ {lo:I}{n:O}(c:n<=LIM):Wk K (Itr lo n) Z H ((Lx n).map λ(k:O)=>[(.d,.int<|lo+k)])/\vw K (Itr lo n) Z H ((Lx n).map λ(k:O)=>[(.d,.int<|lo+k)]):=by refine⟨⟨λH' i s a=>by show i<n;simpa using a,λH' i s a=>by show n<=i;simpa using a,by simpa using c⟩,λH' i x b s a y=>?_⟩;obtain⟨rfl,rfl⟩:=y;refine⟨rfl,(.d,.int<|lo+i),?_,rfl⟩;rw[K9,List.length_range] at a;rw[LQ,List.getElem?_range a];rfl
theorem m6 {a:QS}{c:U I}{b:Hp}(s:Stay Z b H)(h:ScrR K b a c):SqL K H a (c.map V.int):=(h.keep s.2.2).sq
theorem Dd {a:QS}{b:U I}(f:b.length<=LIM)(h:ScrR K H a b):Wk K (Itl K a) Z H (b.map λn=>[(.d,.int n)])/\vw K (Itl K a) Z H (b.map λn=>[(.d,.int n)]):=by
 refine⟨⟨λH' i s c=>?_,λH' i s c=>?_,by rw[K9];exact f⟩,λH' i x e s c y=>?_⟩
 .rw [K9] at c;exact⟨_,(b.map V.int)[i]'(by rw[K9];exact c),m6 s h,by simp⟩
 .rw [K9] at c;exact⟨_,m6 s h,by rw[K9];exact c⟩
 .rw [K9] at c;obtain⟨rfl,y⟩:=y;have hx:=y _<|m6 s h;refine⟨rfl,(.d,.int b[i]),by rw[LQ,show b[i]?=Y b[i] by simp];rfl,?_⟩;rw[LQ,show b[i]?=Y b[i] by simp] at hx;exact(LG hx).symm
theorem CF {e:E}(σ:L2.St)(H:Hp)(R:It->Hp->Prop)(h:wI K sf C 1 .seq [e] σ H R):dI K (wE K sf C e) σ H R\/Dq K (wE K sf C e) σ H R:=by
 obtain⟨pv,Z,Fs,η,u,η',o,A,ev,f,k⟩:=h;obtain⟨⟨m,a⟩,η1,t,e1,e2,rfl⟩:=az ev;cases e2;cases a with
 |lst g=>cases f;refine .inl ⟨pv,Z,Fs,η,_,_,A,e1,λv Z' H' Fs' G b r s=>?_⟩;obtain⟨a,i,rfl,l,q,p⟩:=Rep.sh r;obtain⟨c,d⟩:=xD l q.1 q.2 p.sany;exact⟨a,rfl,⟨i,.inl<|.inl q.2⟩,k _ _ H' Fs' b.freeze (bg b.own s) c d⟩
 |tup g=>cases f;refine .inr ⟨pv,Z,Fs,η,_,_,A,e1,λv Z' H' Fs' G b r s=>?_⟩;obtain⟨a,i,rfl,q,l,p⟩:=Rep.sh r;obtain⟨c,d⟩:=CY l q p.sany;exact⟨a,rfl,⟨i,q⟩,k _ _ H' Fs' b.freeze (bg b.own s) c d⟩
 |scr n=>cases f;refine .inl ⟨pv,Z,Fs,η,_,_,A,e1,λv Z' H' Fs' G b r s=>?_⟩;obtain⟨a,rfl,j,q⟩:=r;obtain⟨c,d⟩:=Dd (Z:=λa=>Z' a\/G a) j q;exact⟨a,rfl,⟨_,q.sq⟩,k _ _ H' Fs' b.freeze (bg b.own s) c d⟩
 |_=>cases f
theorem p62:(2:I) ^ 62=4611686018427387904:=by decide
theorem zV {e:E}(σ:L2.St)(H:Hp)(R:It->Hp->Prop)(h:wI K sf C 1 .rng [e] σ H R):Bl (wL K sf C [e]) σ H R:=by
 obtain⟨pv,Z,Fs,η,j,η',l,A,ev,c,k⟩:=h;refine⟨pv,Z,Fs,η,j,η',A,ev,λp Z' H' Fs' G b r s=>?_⟩;obtain⟨⟨m,a⟩,η1,o,e1,e2,rfl⟩:=az ev;cases e2;obtain⟨x,rfl,r1⟩:=bC rfl r;cases a with
 | int n =>
  rw[tf] at c;split at c
  .rename_i d;rw[Li,Q3] at d;cases c;refine⟨n,by rw[show x=_ from r1],by rw[p62];lia,by rw[p62];lia,?_⟩;obtain⟨f,g⟩:=CJ (K:=K) (Z:=λa=>Z' a\/G a) (H:=H') (lo:=0) (n:=n.toNat) (cM d.2);have i:∀k:O,(0:I)+(k:I)=k:=λk=>by lia
   simp only[i] at f g;exact k _ _ H' Fs' b.freeze (bg b.own s) f g
  .cases c
 |_=>cases c
theorem BA {m:Md}{t:T}{v:V}{c:U T}(e:elems (m,t)=Y c)(r:Rep K Z H m t v G):∃k a b,v=.ref a/\b.length<=LIM/\RepL K (λa=>Z a\/G a) H .s c b no/\∀H',Stay (λa=>Z a\/G a) H H'->Sq K H' k a b:=by
 cases t with
 |lst d=>cases e;obtain⟨a,b,rfl,l,q,p⟩:=Rep.sh r;exact⟨K0,a,b,rfl,l,p.sany,λH' s=>gE s q.1 q.2⟩
 |tup d=>cases e;obtain⟨a,b,rfl,q,l,p⟩:=Rep.sh r;exact⟨K1,a,b,rfl,l,p.sany,λH' s=>s.sqt q⟩
 |_=>cases e
theorem k9 {m n:Md}:∀{ts us:U T} {i:O} {t u:T},ts[i]?=Y t->us[i]?=Y u->(fF m n ts us)[i]?=Y [(m,t),(n,u)]
|t::ts,u::us,0,_,_,h,a=>by cases h;cases a;rfl
|t::ts,u::us,i+1,_,_,h,a=>k9 (ts:=ts) (us:=us) (i:=i) h a
|[],_,_,_,_,h,_=>by simp at h
|_::_,[],_,_,_,_,a=>by simp at a
theorem dQ {m n:Md}:∀{a b:U T},(fF m n a b).length=min a.length b.length
|[],_=>by simp[fF]
|_::_,[]=>by simp[fF]
|t::a,u::b=>by show(fF m n a b).length+1=_;rw[dQ];simp
theorem DA {e e':E}(σ:L2.St)(H:Hp)(R:It->Hp->Prop)(h:wI K sf C 2 .zip [e,e'] σ H R):Ir K (wL K sf C [e,e']) σ H R:=by
 obtain⟨pv,Z,Fs,η,ws,η',Q,A,ev,ht,k⟩:=h;refine⟨pv,Z,Fs,η,ws,η',A,ev,λvs Z' H' Fs' G d r s=>?_⟩;obtain⟨⟨m,a⟩,η1,us,e1,e2,rfl⟩:=az ev;obtain⟨⟨n,b⟩,η2,us,e3,e4,rfl⟩:=az e2;cases e4;obtain⟨x,y,hx⟩:∃x y,vs=[x,y]:=cW (x:=()) (y:=())<|show vs.length=[(),()].length from r.length;subst hx;obtain⟨G1,G2,g1,g2,_,r1,r2⟩:=bA r;have f:((elems (m,a)).bind λQ=>(elems (n,b)).bind λus=>Y (fF .s .s Q us))=Y Q:=ht;cases M:elems (m,a) with
 |none=>rw[M] at f;cases f
 | some t1 =>
  cases N:elems (n,b) with
  |none=>rw[M,N] at f;cases f
  | some t2 =>
   rw[M,N] at f;cases f;obtain⟨k1,a1,t,rfl,L1,p1,q1⟩:=BA M r1;obtain⟨k2,a2,u,rfl,L2',p2,q2⟩:=BA N r2;have z1:∀c,(Z' c\/G1 c)->(Z' c\/G c):=λc h=>h.imp id (g1 c);have z2:∀c,(Z' c\/G2 c)->(Z' c\/G c):=λc h=>h.imp id (g2 c);have j:∀g,Stay (λc=>Z' c\/G c) H' g->Sq K g k1 a1 t:=λg s=>q1 g ⟨λc o P=>s.1 c o<|z1 c P,s.2⟩;have l:∀g,Stay (λc=>Z' c\/G c) H' g->Sq K g k2 a2 u:=λg s=>q2 g ⟨λc o P=>s.1 c o<|z2 c P,s.2⟩;have l1:=p1.length;have l2:=p2.length;refine⟨k1,k2,a1,a2,rfl,⟨t,j _<|ei _ _⟩,⟨u,l _<|ei _ _⟩,k _ _ H' Fs' d.freeze (bg d.own s) ⟨λg i s v=>?_,λg i s v=>?_,by rw[dQ];lia⟩ λg i x H1 s v y=>?_⟩
   .rw [dQ] at v;exact⟨t,u,t[i]'(by lia),u[i]'(by lia),j _ s,l _ s,by simp,by simp⟩
   .rw [dQ] at v;exact⟨t,u,j _ s,l _ s,by lia⟩
   .rw [dQ] at v;obtain⟨p,x1,y1,rfl,hp,rfl,hx,hy⟩:=y;have hi1:i<t1.length:=by lia
    have hi2:i<t2.length:=by lia
    obtain⟨x',w,rx⟩:=p1.get (show t1[i]?=Y t1[i] by simp);obtain⟨y',D,ry⟩:=p2.get (show t2[i]?=Y t2[i] by simp);rw[hx t<|j _ s] at w;cases w;rw[hy u<|l _ s] at D;cases D;exact⟨p,x1,y1,(.s,t1[i]),(.s,t2[i]),rfl,vU hp,.inl<|.inl af,k9 (by simp)<|by simp,(rx.zmono z1).keep s (λ_ z=>z) λ_ _ z=>z.elim,(ry.zmono z2).keep s (λ_ z=>z) λ_ _ z=>z.elim⟩
theorem jB {m:Md}:∀{ts:U T} {n i:O} {t:T},ts[i]?=Y t->(ie m n ts)[i]?=Y [(.d,.int ((n+i:O):I)),(m,t)]
|t::ts,n,0,_,h=>by cases h;rfl
|t::ts,n,i+1,_,h=>by have:=jB (m:=m) (ts:=ts) (n:=n+1) (i:=i) h;rw[show n+1+i=n+(i+1) by lia] at this;exact this
|[],_,_,_,h=>by simp at h
theorem dj {m:Md}:∀{a:U T} {n:O},(ie m n a).length=a.length
|[],_=>rfl
|t::a,n=>by show(ie m (n+1) a).length+1=a.length+1;rw[dj]
theorem iF:∀{ts:U T} {ps:U<|U W} {i:O} {t:T},pairsT ts=Y ps->ts[i]?=Y t->∃x y,t=.tup [x,y]/\ps[i]?=Y [(.s,x),(.s,y)]
|[],_,_,_,_,h=>by simp at h
| u::ts,ps,i,t,e,h=>by
 match u,e with
 | .tup [x,y],e =>
  have a:(pairsT ts).map ([(.s,x),(.s,y)]::·)=Y ps:=e;cases e1:pairsT ts with
  |none=>rw[e1] at a;cases a
  |some b=>
   rw[e1] at a;cases a;cases i with
   |zero=>cases h;exact⟨x,y,rfl,rfl⟩
   |succ i=>exact iF (ts:=ts) (ps:=b) (i:=i) e1 h
theorem iJ:∀{a:U T} {ps:U<|U W},pairsT a=Y ps->ps.length=a.length
|[],_,e=>by cases e;rfl
| u::a,ps,e=>by
 match u,e with
 | .tup [x,y],e =>
  have b:(pairsT a).map ([(.s,x),(.s,y)]::·)=Y ps:=e;cases e1:pairsT a with
  |none=>rw[e1] at b;cases b
  |some c=>rw[e1] at b;cases b;rw[Lk,Lk,iJ e1]
end
section
variable {K:K3}{sl:Cf}{sf sg:O->B O}{C:Call}{σ σ2:L2.St}{Z Z' Z1:Fp}{H H' H1:Hp}{Fs Fs' Fs1:Fps}{η η' η1:Env}{G G' R F:Fp}{tg is:U O}{pv val:O->B V}
theorem aP:∀(tg:U O) (η:Env) (i:O),rd (aB tg η) i=if i∈tg then J else rd η i
|[],η,i=>by simp[aB]
| t::tg,η,i=>by
 show rd (aB tg<|wr η t J) i=_;rw[aP tg,bB];by_cases a:i∈tg
 .simp[a]
 .by_cases b:i=t
  .subst b;rw[Q0 a,QY Lg];split
   .rfl
   .rename_i c;cases e:rd η i with
    |none=>rfl
    |some w=>exact QW ⟨rfl,dH e⟩ c
  .rw[Q0 a,Q0 (show¬i∈t::tg by simp[a,b]),Q0<|show¬(i=t/\t < η.length) fromλh=>b h.1]
def Nn (η η':Env):Prop:=∀i,rd η i=J->rd η' i=J
theorem Nn.refl (η:Env):Nn η η:=λ_ h=>h
theorem Nn.trans {a b c:Env}(h:Nn a b)(k:Nn b c):Nn a c:=λi e=>k i<|h i e
theorem mz (η:Env)(j:O):Nn η (del η j):=λi e=>by
 rw[bB];split
 .rfl
 .exact e
theorem wJ {η:Env}{j:O}{w:W}(h:rd η j≠J):Nn η (put η j w):=λi e=>by
 rw[bB];split
 .rename_i a;rw[<- a.1] at h;exact QW e h
 .exact e
theorem jg:∀{is:U O} {b:U W} {a η:Env},(∀i∈is,rd a i≠J)->Nn a η->Nn a (putAll is b η)
|[],_,_,_,_,h=>h
|_::_,[],_,_,_,h=>h
|i::is,w::b,a,η,c,h=>by
 show Nn a<|putAll is b<|put η i w;refine jg (λj f=>c j<|Lr _ f) λj e=>?_;rw[bB];split
 .rename_i d;rw[d.1] at e;exact QW e<|c i Lg
 .exact h j e
theorem iQ {f:Env->Res (B W×Env)}(l:∀{η o η'},f η=.ok (o,η')->Nn η η'):∀{g:U<|U W} {η η':Env} {a k:U W},(∀i∈tg,rd η i=J)->ba tg f g η a=.ok (k,η')->Nn η η'
|[],η,η',a,k,_,h=>by cases h;exact Nn.refl _
| t::g,η,η',a,k,x,h=>by
 obtain⟨η1,m,n⟩:=aa<|show(ofO<|bf tg t η).bind (λη1=>(f η1).bind λp=>ba tg f g (aB tg p.2)<|a++p.1.toList)=_ from h;obtain⟨⟨o,d⟩,r,s⟩:=aa n
 have u:∀{tg:U O} {t:U W} {η η1:Env},bf tg t η=Y η1->∀i,i ∉ tg->rd η1 i=rd η i:=λ{tg}=>by
  induction tg with
  |nil=>intro t η η1 h i c;cases t with
   |nil=>cases h;rfl
   |cons _ _=>cases h
  | cons j tg v=>intro t η η1 h i c; cases t with
   |nil=>cases h
   |cons w t=>have:=v (show bf tg t (put η j w)=Y η1 from h) i λz=>c<|Lr _ z;rw[this,bB,Q0 λz=>c<|by rw[z.1];exact Lg]
 have e1:=u<|cO m
 have hd:∀i,rd η i=J->rd (aB tg d) i=none:=λi e=>by
  rw[aP];split
  .rfl
  .rename_i c;exact l r i<|by rw[e1 i c];exact e
 exact Nn.trans (b:=aB tg d) hd<|iQ l (λi c=>by rw[aP,QY c]) s
def iy (sf sg:O->B O)(tg:U O)(is:U O):Prop:=
 ∀i j,sg i=Y j->(∃k:O,tg[k]?=Y i/\j=k)\/(i ∉ tg/\∃(k a:O),j=tg.length+k/\is[k]?=Y a/\sf i=Y a)
theorem At.pin (A:At K ⟨sf,pv⟩ σ Z H Fs η G):∃val,(∀i u,pv i=Y u->val i=Y u)/\At K ⟨sf,val⟩ σ Z H Fs η G/\∀i m t,rd η i=Y (m,t)->val i≠none:=by
 have ch:∀i,∃o:B V,(∀u,pv i=Y u->o=Y u)/\(∀u j,o=Y u->sf i=Y j->σ[j]?=Y (Y u))/\∀m t,rd η i=Y (m,t)->∃v,o=Y v/\Rep K Z H m t v (Fs i)/\(∀j,sf i=Y j->σ[j]?=Y (Y v)):=λi=>by
  cases e:rd η i with
  |none=>exact⟨pv i,λ_ h=>h,λu j h c=>A.lk i u j h c,λ_ _ h=>by cases h⟩
  |some w=>obtain⟨m,t⟩:=w;obtain⟨v,r,b,d⟩:=A.env i m t e;refine⟨Y v,λu h=>by rw[d u h],λu j h c=>?_,λg k h=>by cases h;exact⟨v,rfl,r,b⟩⟩;cases h;exact b j c
 obtain⟨val,a⟩:=Classical.axiomOfChoice ch;refine⟨val,λi u h=>(a i).1 u h,⟨A.gd,λi m t e=>?_,A.own,A.dis,λi u j h c=>(a i).2.1 u j h c,A.ln⟩,λi m t e=>?_⟩
 .obtain ⟨v,b,r,d⟩:=(a i).2.2 m t e;exact⟨v,r,d,λu f=>by rw[show val i=Y u from f] at b;cases b;rfl⟩
 .obtain ⟨v,b,r,d⟩:=(a i).2.2 m t e;rw[b];simp
theorem At.unpin (h:∀i u,pv i=Y u->val i=Y u)(A:At K ⟨sf,val⟩ σ Z H Fs η G):At K ⟨sf,pv⟩ σ Z H Fs η G:=
 ⟨A.gd,λi m t e=>let ⟨v,r,b,c⟩:=A.env i m t e;⟨v,r,b,λu a=>c u<|h i u a⟩,A.own,A.dis,λi u j a d=>A.lk i u j (h i u a) d,A.ln⟩
noncomputable def inV (val:O->B V)(tg:U O):O->B V:=λi=>if i∈tg then J else val i
theorem At.into (a:iy sf sg tg is)(x:∀i∈tg,rd η i=J)(l:∀(k c:O) (v:V),is[k]?=Y c->σ[c]?=Y (Y v)->σ2[tg.length+k]?=Y (Y v))(w:∀i j,sg i=Y j->j < σ2.length)(A:At K ⟨sf,val⟩ σ Z H Fs η G):At K ⟨sg,inV val tg⟩ σ2 Z H Fs η G:=by
 refine⟨A.gd,λi m t e=>?_,A.own,A.dis,λi u j n g=>?_,w⟩
 .have f:i ∉ tg:=fun h=>by rw [x i h] at e; cases e
  obtain⟨v,r,o,p⟩:=A.env i m t e;refine⟨v,r,λj s=>?_,λu n=>p u (by have d:inV val tg i=Y u:=n;unfold inV at d;rw[Q0 f] at d;exact d)⟩;rcases a i j s with⟨k,hk,_⟩|⟨_,k,c,rfl,hk,g⟩
  .exact QW (ME hk) f
  .exact l k c v hk (o c g)
 .have f:i ∉ tg:=fun h=>by have b:inV val tg i=Y u:=n;unfold inV at b;rw[QY h] at b;cases b
  have b:val i=Y u:=by have d:inV val tg i=Y u:=n;unfold inV at d;rw[Q0 f] at d;exact d
  rcases a i j g with⟨k,hk,_⟩|⟨_,k,c,rfl,hk,g⟩
  .exact QW (ME hk) f
  .exact l k c u hk (A.lk i u c b g)
theorem At.outof (g:∀i∈tg,rd η i=J)(k:∀i m t,rd η i=Y (m,t)->val i≠J)(lk:∀i u j,val i=Y u->sf i=Y j->σ[j]?=Y (Y u))(l:∀i j,sf i=Y j->j < σ.length)(A:At K ⟨sg,inV val tg⟩ σ2 Z H Fs η G):At K ⟨sf,val⟩ σ Z H Fs η G:=by
 refine⟨A.gd,λi m t e=>?_,A.own,A.dis,lk,l⟩;have d:i ∉ tg:=λh=>by rw[g i h] at e;cases e
 obtain⟨v,r,o,c⟩:=A.env i m t e;cases a:val i with
 |none=>exact QW a<|k i m t e
 |some u=>have:v=u:=c u (by show inV val tg i=Y u;unfold inV;rw[Q0 d];exact a);subst this;exact⟨v,r,λj f=>lk i v j a f,λn b=>by rw[show val i=Y n from b] at a;cases a;rfl⟩
end
section
variable {C:Call}
theorem lp {b:Type}{tab:U<|Str×b}{f:b->Env->RE}{p:W×Env}{r:W×Env}(h:kTab tab f p=.ok r):∃x a,p.1.2=.str x/\tab.lookup x=Y a/\f a p.2=.ok r:=by
 unfold kTab at h;split at h
 .rename_i x hx;split at h
  .rename_i a c;exact⟨x,a,hx,c,h⟩
  .cases h
 .cases h
theorem kn {a:QT}{b:U Str}{p r:W×Env}(h:kIn a b p=.ok r):∃x,p.1.2=.str x/\r.2=p.2/\r.1=(.d,.bl<|b.contains x != a):=by
 unfold kIn at h;split at h
 .rename_i x hx;cases h;exact⟨x,hx,rfl,rfl⟩
 .cases h
theorem mr {tab:U<|Str×T}{p r:W×Env}(h:kGet tab p=.ok r):∃x,p.1.2=.str x/\r.2=p.2/\r.1=(.s,(tab.lookup x).getD .non):=by
 unfold kGet at h;split at h
 .rename_i x hx;cases h;exact⟨x,hx,rfl,rfl⟩
 .cases h
mutual
theorem aG:∀(e:E) {η η':Env} {w:W},evE C e η=.ok (w,η')->Nn η η'
|.var i,η,η',w,h=>by obtain⟨_,_,e⟩:=aI<|show ret η ((rd η i).bind look)=_ from h;cases e;exact Nn.refl _
|.mv i,η,η',w,h=>by obtain⟨_,_,e⟩:=aI<|show ret (del η i) (rd η i)=_ from h;cases e;exact mz _ _
|.io i,η,η',w,h=>by obtain⟨_,_,e⟩:=aI<|show ret (del η i) (rd η i)=_ from h;cases e;exact mz _ _
|.cst t,η,η',w,h=>by cases h;exact Nn.refl _
|.tup es,η,η',w,h=>by obtain⟨⟨ws,η1⟩,h1,h2⟩:=aa<|show(evL C es η).bind xB=_ from h;cases h2;exact eY es h1
|.lst b es,η,η',w,h=>by obtain⟨⟨ws,η1⟩,h1,h2⟩:=aa<|show(evL C es η).bind (xk b)=_ from h;cases h2;exact eY es h1
|.wk m e,η,η',w,h=>by obtain⟨⟨u,η1⟩,h1,h2⟩:=aa<|show(evE C e η).bind (kWk m)=_ from h;obtain⟨_,_,e3⟩:=aI<|show ret η1 _=_ from h2;cases e3;exact aG e h1
|.op o b es,η,η',w,h=>by obtain⟨ws,h1,h2⟩:=cD h;exact eY es h1
|.and a b,η,η',w,h=>by
 obtain⟨⟨u,η1⟩,h1,h2⟩:=aa<|show(evE C a η).bind (uA<|evE C b)=_ from h;obtain⟨d,h3,h4⟩:=cc<|show onT (evE C b) (okW u) (u,η1)=_ from h2;cases d with
 |true=>rw[QY rfl] at h4;exact(aG a h1).trans<|aG b h4
 |false=>rw[Q0 LA] at h4;cases h4;exact aG a h1
|.or a b,η,η',w,h=>by
 obtain⟨⟨u,η1⟩,h1,h2⟩:=aa<|show(evE C a η).bind (kOr<|evE C b)=_ from h;obtain⟨d,h3,h4⟩:=cc<|show onT (okW u) (evE C b) (u,η1)=_ from h2;cases d with
 |false=>rw[Q0 LA] at h4;exact(aG a h1).trans<|aG b h4
 |true=>rw[QY rfl] at h4;cases h4;exact aG a h1
|.not a,η,η',w,h=>by obtain⟨⟨u,η1⟩,h1,h2⟩:=aa<|show(evE C a η).bind uK=_ from h;obtain⟨_,_,e3⟩:=aI<|show ret η1 _=_ from h2;cases e3;exact aG a h1
|.ifx c a b,η,η',w,h=>by
 obtain⟨⟨u,η1⟩,h1,h2⟩:=aa<|show(evE C c η).bind (onT (evE C a)<|evE C b)=_ from h;obtain⟨d,h3,h4⟩:=cc h2;cases d with
 |true=>rw[QY rfl] at h4;exact(aG c h1).trans<|aG a h4
 |false=>rw[Q0 LA] at h4;exact(aG c h1).trans<|aG b h4
|.call f es,η,η',w,h=>by obtain⟨⟨ws,η1⟩,h1,h2⟩:=aa<|show(evA C es η).bind (ly C f<|ios es)=_ from h;obtain⟨⟨u,us⟩,h3,h4⟩:=aa<|show(C f ws).bind (pd (ios es) η1)=_ from h2;cases h4;exact jg (kl es h1)<|iE es h1
|.comp b k src tg J elt,η,η',w,h=>by obtain⟨⟨ws,η1⟩,h1,h2⟩:=aa<|show(evL C src η).bind (fh b k tg<|fO<|evE C elt)=_ from h;obtain⟨⟨ts,η2⟩,h3,h4⟩:=aa<|show(ret (aB tg η1)<|bb k ws).bind (λt=>(ba tg (fO<|evE C elt) t.1 t.2 []).bind<|lD b)=_ from h2;obtain⟨_,_,e3⟩:=aI h3;have e4:η2=aB tg η1:=Q8 Ni e3;subst e4;obtain⟨⟨us,η3⟩,h5,h6⟩:=aa<|show(ba tg (fO<|evE C elt) ts (aB tg η1) []).bind (lD b)=_ from h4;obtain⟨_,_,e6⟩:=aI<|show ret η3 _=_ from h6;have e7:η'=η3:=Q8 Ni e6;subst e7;refine(eY src h1).trans<|Nn.trans (b:=aB tg η1) (λi e=>by rw[aP];split<;>first|rfl|exact e)<|iQ (λ{η o η'} hf=>?_) (λi hi=>by rw[aP,QY hi]) h5;obtain⟨⟨u,η4⟩,h7,h8⟩:=aa<|show(evE C elt η).bind gh=_ from hf;cases h8;exact aG elt h7
| .comp b k src tg (Y c) elt,η,η',w,h=>by
 obtain⟨⟨ws,η1⟩,h1,h2⟩:=aa<|show(evL C src η).bind (fh b k tg<|mY (evE C c)<|evE C elt)=_ from h;obtain⟨⟨ts,η2⟩,h3,h4⟩:=aa<|show(ret (aB tg η1)<|bb k ws).bind (λt=>(ba tg (mY (evE C c)<|evE C elt) t.1 t.2 []).bind<|lD b)=_ from h2;obtain⟨_,_,e3⟩:=aI h3;have e4:η2=aB tg η1:=Q8 Ni e3;subst e4;obtain⟨⟨us,η3⟩,h5,h6⟩:=aa<|show(ba tg (mY (evE C c)<|evE C elt) ts (aB tg η1) []).bind (lD b)=_ from h4;obtain⟨_,_,e6⟩:=aI<|show ret η3 _=_ from h6;have e7:η'=η3:=Q8 Ni e6;subst e7;refine(eY src h1).trans<|Nn.trans (b:=aB tg η1) (λi e=>by rw[aP];split<;>first|rfl|exact e)<|iQ (λ{η o η'} hf=>?_) (λi hi=>by rw[aP,QY hi]) h5;obtain⟨⟨u,η4⟩,h7,h8⟩:=aa<|show(evE C c η).bind (onT (fO<|evE C elt)<|okW J)=_ from hf;obtain⟨d,h9,h10⟩:=cc h8;cases d with
 |true=>rw[QY rfl] at h10;obtain⟨⟨u2,η5⟩,h11,h12⟩:=aa<|show(evE C elt η4).bind gh=_ from h10;cases h12;exact(aG c h7).trans<|aG elt h11
 |false=>rw[Q0 LA] at h10;cases h10;exact aG c h7
|.pop i es,η,η',w,h=>by obtain⟨_,_,h0⟩:=aa<|show(chkL<|rd η i).bind (l9 (evL C es) η<|qZ i)=_ from h;obtain⟨⟨ws,η1⟩,h1,h2⟩:=aa<|show(evL C es η).bind (qZ i)=_ from h0;obtain⟨r,h3,h4⟩:=aa<|show(ofO<|(rd η1 i).bind λw=>k7 w ws).bind (λr=>.ok (r.1,put η1 i r.2))=_ from h2;cases h4;refine(eY es h1).trans<|wJ ?_;have:=cO h3;intro e;rw[e] at this;cases this
|.ixQ i e,η,η',w,h=>by obtain⟨_,_,h0⟩:=aa<|show(chkL<|rd η i).bind (kPopN0 (evE C e) η<|kIxQ i)=_ from h;obtain⟨⟨u,η1⟩,h1,h2⟩:=aa<|show(evE C e η).bind (kIxQ i)=_ from h0;obtain⟨_,_,e2⟩:=aI<|show ret η1 (ixVT (rd η1 i)<|Y u)=_ from h2;cases e2;exact aG e h1
|.sdf i j k,η,η',w,h=>by obtain⟨r,h1,h2⟩:=aa<|show(ofO<|sdfT (rd η i) (rd η j)<|rd η k).bind (kSdf i η)=_ from h;cases h2;refine wJ λe=>?_;have:=cO h1;rw[e] at this;cases this
|.inT neg ks e,η,η',w,h=>by obtain⟨⟨u,η1⟩,h1,h2⟩:=aa<|show(evE C e η).bind (kIn neg ks)=_ from h;obtain⟨x,_,e2,_⟩:=kn h2;cases e2;exact aG e h1
|.ixT tab e,η,η',w,h=>by obtain⟨⟨u,η1⟩,h1,h2⟩:=aa<|show(evE C e η).bind (kTab tab okS)=_ from h;obtain⟨x,j,_,_,h3⟩:=lp h2;cases h3;exact aG e h1
|.getT tab e,η,η',w,h=>by obtain⟨⟨u,η1⟩,h1,h2⟩:=aa<|show(evE C e η).bind (kGet tab)=_ from h;obtain⟨x,_,e2,_⟩:=mr h2;cases e2;exact aG e h1
theorem eY:∀(es:U E) {η η':Env} {ws:U W},evL C es η=.ok (ws,η')->Nn η η'
|[],η,η',ws,h=>by cases h;exact Nn.refl _
|e::es,η,η',ws,h=>by obtain⟨w,η1,us,h1,h2,_⟩:=az h;exact(aG e h1).trans<|eY es h2
theorem iE:∀(es:U E) {η η':Env} {ws:U W},evA C es η=.ok (ws,η')->Nn η η'
|[],η,η',ws,h=>by cases h;exact Nn.refl _
| e::es,η,η',ws,h=>by
 rcases FW e with⟨i,hi⟩|he
 .subst hi;obtain⟨us,η1,w,h1,_,_,h4⟩:=ku h;rw[h4];exact(iE es h1).trans<|mz _ _
 .obtain ⟨w,η1,us,h1,h2,_⟩:=iO he h;exact(aG e h1).trans<|iE es h2
theorem kl:∀(es:U E) {η η':Env} {ws:U W},evA C es η=.ok (ws,η')->∀i∈ios es,rd η i≠J
|[],_,_,_,_,i,hi=>by simp[ios] at hi
| e::es,η,η',ws,h,i,hi=>by
 rcases FW e with⟨j,hj⟩|he
 .subst hj;obtain⟨us,η1,w,h1,h2,_,_⟩:=ku h;rcases Lm.mp (show i∈j::ios es from hi) with z|z
  .subst z;exactλz=>by rw[iE es h1 i z] at h2;cases h2
  .exact kl es h1 i z
 .obtain ⟨w,η1,us,h1,h2,_⟩:=iO he h
  have hi':i∈ios es:=by
   cases e with
   |io j=>exact QW rfl (he j)
   |_=>exact hi
  exactλz=>kl es h2 i hi'<|aG e h1 i z
end
end
section
variable {K:K3}{sl:Cf}{sf sg:O->B O}{C:Call}{σ σ2:L2.St}{Z Z' Z1:Fp}{H H' H1:Hp}{Fs Fs' Fs1:Fps}{η η' η1 ηb:Env}{G G' R F:Fp}{tg is:U O}{pv val:O->B V}
def gT (K:K3):O->TG
|1=>bO 0
|2=>AI K 2<|gf (bO 0)<|gf (bO 1) zU
|_=>λ_ _ _ _=>Q6
theorem At.put1 {i:O}{w:W}{x:V}(A:At K sl σ Z H Fs η G)(r:Rep K Z H w.1 w.2 x<|Fs i)(c:∀j,sl.sl i=Y j->σ[j]?=Y (Y x))(hp:sl.pv i=J):At K sl σ Z H Fs (put η i w) G:=by
 refine⟨A.gd,λj m t e=>?_,A.own,A.dis,A.lk,A.ln⟩;rw[bB] at e;split at e
 .rename_i b;cases e;obtain⟨rfl,_⟩:=b;exact⟨x,r,c,λu a=>by rw[hp] at a;cases a⟩
 .exact A.env j m t e
theorem lM {k a:O}{v:V}(b:is[k]?=Y a)(c:σ[a]?=Y (Y v)):(cY σ is)[k]?=Y (Y v):=by unfold cY;rw[LQ,b];show Y ((σ[a]?).join)=_;rw[c];rfl
theorem jm (a:iy sf sg tg is)(h:σ2.length=tg.length+is.length):∀i j,sg i=Y j->j < σ2.length:=λi j b=>by
 rcases a i j b with⟨k,hk,rfl⟩|⟨_,k,c,rfl,hk,_⟩
 .have:=(L8.mp hk).1;lia
 .have:=(L8.mp hk).1;lia
theorem qu {n i:O}{d:It}{ts:U<|U W}{ws:U W}{x:V}{Q:L2.St->Hp->Prop}(hn:tg.length=n)(nd:tg.Nodup)(c:iy sf sg tg is)(hz:∀a,Z1 a->Z a)(st:Stay Z1 H1 H)(s:Yld K d Z1 H1 ts n)(A:At K ⟨sf,val⟩ σ Z H Fs η G)
  (ht:∀i∈tg,rd η i=J) (hw:ts[i]?=Y ws) (hb:bf tg ws η=Y ηb) (y:d.yld i H x H')
  (k:∀σ2 N,At K ⟨sg,inV val tg⟩ σ2 Z N Fs ηb G->Step Z H no Z N no->(σ2.length=n+(cY σ is).length/\σ2.drop n=cY σ is)->Q σ2 N):gT K n x (Lo n J++cY σ is) H' Q:=by
 have hi:i<ts.length:=(L8.mp hw).1;have g:∀{t:O},t∈tg->inV val tg t=none:=λ{t} h=>QY h
 match n,s with
 | 1,s =>
  obtain⟨e0,w,f,r⟩:=s H i x H' st hi y;rw[e0];rw[hw] at f;cases f
  match tg,hn with
  | [t],_ =>
   cases hb;have r':Rep K Z H w.1 w.2 x (Fs t):=(r.zmono hz).mono λ_ z=>z.elim;refine k _ H ?_ (Step.refl _ _ _) ⟨by simp[Ow],rfl⟩;refine(A.into (σ2:=Y x::cY σ is) c ht (λk j0 v P h2=>?_)<|jm c<|by simp[cY,Ow]).put1 r' (λj l=>?_)<|g<|by simp
   .rw[Mi,Ow,L6];exact lM P h2
   .rcases c t j l with ⟨k,hk,rfl⟩ | ⟨h,_⟩
    .cases j with
     |zero=>rfl
     |succ _=>simp at hk
    .exact QW (Lv.mpr rfl) h
 | 2,s =>
  obtain⟨p,o,z1,u,w,rfl,D,hq,f,r1,r2⟩:=s H i x H' st hi y;rw[hw] at f;cases f
  match tg,hn with
  | [t,M],_ =>
   cases hb;have m:t≠M:=λz=>by simp[z] at nd
   have s1:Step Z H G Z H' G:=gI D;have o1:Own Z H' G:=λa ha=>by obtain⟨nz,ys,e⟩:=A.own a ha;exact⟨nz,ys,D _ _ e⟩
   obtain⟨A1,_⟩:=A.op o1 s1;have sn:Stay Z H H':=lY D;have r1':Rep K Z H' u.1 u.2 o (Fs t):=((r1.zmono hz).keep sn (λ_ z=>z) λ_ _ z=>z.elim).mono λ_ z=>z.elim;have r2':Rep K Z H' w.1 w.2 z1 (Fs M):=((r2.zmono hz).keep sn (λ_ z=>z) λ_ _ z=>z.elim).mono λ_ z=>z.elim;have s0:Step Z H no Z H' no:=gI D;refine⟨p,[o,z1],rfl,hq,rfl,o,[z1],rfl,z1,[],rfl,rfl,k (Y o::Y z1::cY σ is) _ ?_ s0 ⟨by simp;lia,rfl⟩⟩;refine((A1.into (σ2:=Y o::Y z1::cY σ is) c ht (λk j0 v P h2=>?_)<|jm c<|by simp[cY];lia).put1 r1' (λj l=>?_)<|g<|by simp).put1 r2' (λj l=>?_)<|g<|by simp
   .rw[show[t,M].length+k=k+1+1 by simp;lia,L6,L6];exact lM P h2
   .rcases c t j l with ⟨k,hk,rfl⟩ | ⟨h,_⟩
    .match j,hk with
     |0,_=>rfl
     |1,hk=>exact QW (LG hk).symm m
    .exact QW (by simp) h
   .rcases c M j l with ⟨k,hk,rfl⟩ | ⟨h,_⟩
    .match j,hk with
     |0,hk=>exact QW (LG hk) m
     |1,_=>rfl
    .exact QW (by simp) h
def gq (Fs:Fps)(tg:U O):Fps:=λj a=>j ∉ tg/\Fs j a
theorem dt {a:QS}(h:tot (gq Fs tg) a):tot Fs a:=let ⟨j,_,b⟩:=h;⟨j,b⟩
theorem At.dels (A:At K sl σ Z H Fs η G):At K sl σ Z H (gq Fs tg) (aB tg η) G:=by
 refine⟨⟨λa h=>A.gd.own a<|dt h,λi j a b c=>A.gd.dis i j a b.2 c.2,A.gd.zal⟩,λi m t e=>?_,A.own,λa h q=>A.dis a h<|dt q,A.lk,A.ln⟩;rw[aP] at e;split at e
 .cases e
 .rename_i f;obtain⟨v,r,h⟩:=A.env i m t e;exact⟨v,r.mono λa d=>⟨f,d⟩,h⟩
theorem iC:∀{tg:U O} {t:U W} {η η1:Env},bf tg t η=Y η1->∀i,i ∉ tg->rd η1 i=rd η i
|[],[],η,η1,h,i,_=>by cases h;rfl
|[],_::_,_,_,h,_,_=>by cases h
|_::_,[],_,_,h,_,_=>by cases h
|j::tg,w::t,η,η1,h,i,a=>by rw[iC (show bf tg t (put η j w)=Y η1 from h) i λz=>a<|Lr _ z,bB,Q0 λz=>a<|by rw[z.1];exact Lg]
structure CSt (K:K3)(sf:O->B O)(val:O->B V)(σ:L2.St)(tg:U O)(f:Env->Res (B W×Env))(ts:U (U W))(η0:Env)(us:U W)(η3:Env)(Z1:Fp)(H1:Hp)(F1:Fp)(i:O)(ys:U V)(H:Hp):Prop where
 ex:∃(Z:Fp) (Fs:Fps) (η:Env) (acc:U W) (G:Fp),At K ⟨sf,val⟩ σ Z H Fs η G/\RepW K Z H acc ys G/\ba tg f (ts.drop i) η acc=.ok (us,η3)/\(∀j∈tg,rd η j=J)/\(∀j∈tg,∀a,¬Fs j a)/\Nn η0 η/\Step Z1 H1 F1 Z H (λa=>tot Fs a\/G a)
 len:ys.length<=i
theorem sC {h:QT}{c:U W}{i:U V}{w:W}{Q:VK}(o:Own Z H G)(t:∀a,Z a->H a≠J)(r:RepW K Z H c i G)(l:i.length<=LIM)(b:(if h then(if c.all okD then Y ((.d,.lst<|trees c):W) else J) else Y (.o .s,.lst<|trees c))=Y w)(k:Out K Z H G w Q):∀p,H p=J->Q (.ref p) (upd H p<|.lst i):=by
 intro p hp;cases h with
 | true =>
  rw[QY rfl] at b;split at b
  .rename_i j;cases b;rw[MV] at j
   obtain⟨G',e,f⟩:=RepW.to (N:=.d) (λu n=>by
    have:=j u n;unfold okD at this;rw[Qg] at this;unfold M.lf;split
    .rfl
    .rename_i g;rcases this with z|z
     .rw[eq_of_beq z];rfl
     .exact QW z g) r
   exact bV (m:=.d) o t e l f (by simp) k hp
  .cases b
 |false=>rw[Q0 LA] at b;cases b;obtain⟨G',e,f⟩:=RepW.to (N:=.s) (λu n=>by cases M.lf u.1 u.2<;>rfl) r;exact bV (m:=.o .s) o t e l f (by simp) k hp
end
section
variable {K:K3}{sf sg:O->B O}{C:Call}{tg is:U O}
theorem jy {b:Type}{l:U b}{i:O}{a:b}(h:l[i]?=Y a):l.drop i=a::l.drop (i+1):=by obtain⟨c,d⟩:=L8.mp h;rw[Qr c,d]
theorem w9 {h:QT}{k:Ik}{f:Env->Res (B W×Env)}{p:U W×Env}{w:W}{b:Env}(e:fh h k tg f p=.ok (w,b)):∃c a,bb k p.1=Y c/\ba tg f c (aB tg p.2) []=.ok (a,b)/\(if h then(if a.all okD then Y ((.d,.lst<|trees a):W) else J) else Y (.o .s,.lst<|trees a))=Y w:=by obtain⟨⟨c,j⟩,u,v⟩:=aa<|show(ret (aB tg p.2)<|bb k p.1).bind (λt=>(ba tg f t.1 t.2 []).bind<|lD h)=_ from e;obtain⟨i,z,e3⟩:=aI u;have m:c=i:=Q8 LO e3;have e5:j=aB tg p.2:=Q8 Ni e3;subst m e5;obtain⟨⟨a,g⟩,x,y⟩:=aa<|show(ba tg f c (aB tg p.2) []).bind (lD h)=_ from v;obtain⟨D,A,l⟩:=aI<|show ret g (if h then(if a.all okD then Y ((.d,.lst<|trees a):W) else J) else Y (.o .s,.lst<|trees a))=_ from y;have n:w=D:=Q8 LO l;have r:b=g:=Q8 Ni l;subst n r;exact⟨c,a,z,x,A⟩
theorem mW {f:Env->Res (B W×Env)}{t:U W}{j:U<|U W}{k g:Env}{a m:U W}(e:ba tg f (t::j) k a=.ok (m,g)):∃h o i,bf tg t k=Y h/\f h=.ok (o,i)/\ba tg f j (aB tg i) (a++o.toList)=.ok (m,g):=by obtain⟨d,n,r⟩:=aa<|show(ofO<|bf tg t k).bind (λd=>(f d).bind λp=>ba tg f j (aB tg p.2)<|a++p.1.toList)=_ from e;obtain⟨⟨o,l⟩,s,u⟩:=aa r;exact⟨d,o,l,cO n,s,u⟩
theorem jA {n:O}{h:QT}{k:Ik}{src:U E}{f:Env->Res (B W×Env)}{te:L2.St->Hp->(B V->Hp->Prop)->Prop}(hn:tg.length=n)(nd:tg.Nodup)(d:iy sf sg tg is)
  (hf:∀{P o η'},f P=.ok (o,η')->Nn P η')
  (hte:∀ {val:O->B V} {l:L2.St} {Z:Fp} {H:Hp} {Fs:Fps} {P M:Env} {R:Fp} {o:B W} {Q:B V->Hp->Prop},At K ⟨sg,val⟩ l Z H Fs P R->f P=.ok (o,M) ->
   (∀oy Z' H' Fs' G,At K ⟨sg,val⟩ l Z' H' Fs' M (λc=>R c\/G c)->(match o,oy with|some w,Y y=>Rep K Z' H' w.1 w.2 y G|none,J=>RJ|_,_=>Q6)->(∀c,R c->¬G c)->Step Z H (tot Fs) Z' H' (λa=>tot Fs' a\/G a)->Q oy H')->te l H Q)
  {e:E} (he:∀P,evE C e P=(evL C src P).bind (fh h k tg f)) (σ:L2.St) (H:Hp) (Q:VK) (hw:wE K sf C e σ H Q):
  wI K sf C n k src σ H λg H1=>∃W:O->O->U V->Hp->Prop,(∃m,W 0 m [] H1)/\∀i m D H,W i m D H ->
   (g.stop i H/\D.length<=sizeLine/\∀p,H p=J->Q (.ref p) (upd H p<|.lst D)) \/
   (g.go i H/\D.length<sizeLine/\∀x H',g.yld i H x H'->gT K n x (Lo n J++cY σ is) H' λl H2=>(l.length=n+(cY σ is).length/\l.drop n=cY σ is)/\te l H2 λoy H3=>∃m',m'<m/\W (i+1) m' (D++oy.toList) H3):=by
 obtain⟨pv,Z,Fs,P,w,η',A,ev,kk⟩:=hw;rw[he] at ev;obtain⟨⟨ws,F⟩,h1,h2⟩:=aa ev;obtain⟨N,us,ht,h3,h4⟩:=w9 h2;refine⟨pv,Z,Fs,P,ws,F,N,A,h1,ht,λg Z1 H1 Fs1 A1 s1 wk yl=>?_⟩;obtain⟨val,v1,A2,v2⟩:=(A1.dels (tg:=tg)).pin;have s1':Step Z H (tot Fs) Z1 H1 (tot (gq Fs1 tg)):=s1.mono (λ_ z=>z) λ_ z=>dt z;refine⟨λi m D H=>m=N.length-i/\i<=N.length/\CSt K sf val σ tg f N (aB tg F) us η' Z1 H1 (tot<|gq Fs1 tg) i D H,⟨N.length,by simp,LH _,⟨⟨Z1,gq Fs1 tg,aB tg F,[],no,A2,rfl,h3,λj s=>by rw[aP,QY s],λj s a v=>v.1 s,Nn.refl _,(Step.refl _ _ _).mono (λ_ z=>z) λa v=>v.elim id λz=>z.elim⟩,La _⟩⟩,?_⟩;rintro i m D H0 ⟨rfl,hi,⟨⟨Zi,Fsi,ηi,acc,Ga,Ai,ra,hc,htg,hfp,hnn,si⟩,r⟩⟩;have st:Stay Z1 H1 H0:=A2.gd.own.stay si;have hL:=wk.len;by_cases hlt:i<N.length
 .right;refine⟨wk.go H0 i st hlt,O3 (Lf r hi) (iU hL),λx H2 y=>?_⟩;have hw:N[i]?=Y N[i]:=by simp[hlt]
  rw[jy hw] at hc;obtain⟨ηb,o,M,hb,hfe,hc2⟩:=mW hc;refine qu hn nd d si.zm st yl Ai htg hw hb y λl H3 A3 s3 hσ=>⟨hσ,?_⟩;refine hte A3 hfe λoy Z4 H4 Fs4 G4 A4 r4 d4 s4=>⟨N.length-(i+1),by lia,rfl,hlt,⟨?_,?_⟩⟩
  .have ra3:RepW K Zi H3 acc D Ga:=ra.frame b7 s3 fun _ _ z=>z;have ra4:RepW K Z4 H4 acc D Ga:=ra3.frame A3.gd.own s4 A3.dis
   have vv:∀j m t,rd (aB tg M) j=Y (m,t)->val j≠none:=λj m t e=>by
    rw[aP] at e;split at e
    .cases e
    .rename_i s;have n1:rd ηb j≠none:=λz=>by rw[hf hfe j z] at e;cases e
     rw[iC hb j s] at n1;have n2:rd (aB tg F) j≠none:=λz=>n1<|hnn j z;cases e2:rd (aB tg F) j with
     |none=>exact QW e2 n2
     |some u=>exact v2 j u.1 u.2 e2
   have A5:=(A4.dels (tg:=tg)).outof (sf:=sf) (σ:=σ) (val:=val) (λj s=>by rw[aP,QY s]) vv Ai.lk Ai.ln
   have s5:Step Z1 H1 (tot (gq Fs1 tg)) Z4 H4 (λa=>tot (gq Fs4 tg) a\/(Ga a\/G4 a)):=by
    refine(si.trans<|((s3.frame λa=>tot Fsi a\/Ga a).mono (λa v=>v.elim (λz=>z.elim) id) λa v=>.inr v).trans<|s4.frame Ga).mono (λ_ z=>z) λa v=>?_;rcases v with z|z|z
    .exact .inl (.inl<|dt z)
    .exact .inr z
    .exact .inl (.inr z)
   refine⟨Z4,gq Fs4 tg,aB tg M,acc++o.toList,λc=>Ga c\/G4 c,A5,?_,hc2,λj s=>by rw[aP,QY s],λj s a v=>v.1 s,λj e=>?_,s5⟩
   .cases o with
    |none=>
     cases oy with
     |none=>rw[O2,O2,LK,LK];exact ra4.mono λ_ z=>.inl z
     |some _=>exact r4.elim
    |some w4=>
     cases oy with
     |none=>exact r4.elim
     |some y4=>exact RepW.append (λ_ z=>.inl z) (λ_ z=>.inr z) d4 ra4<|RepW.one r4
   .have e':=hnn j e;rw[aP];split
    .rfl
    .rename_i s;exact hf hfe j<|by rw[iC hb j s];exact e'
  .have:D.length<=i:=r;cases oy<;>simp<;>lia
 .left;have hi':i=N.length:=by lia
  subst hi';rw[Py] at hc;cases hc;refine⟨wk.stop H0 _ st<|La _,LIM_le<|Lf r hL,sC Ai.own Ai.gd.zal ra (Lf r hL) h4<|bE (Ai.unpin v1) (s1'.trans si) kk⟩
theorem iG {n:O}{h:QT}{k:Ik}{f:U E}{e:E}(D:tg.length=n)(M:tg.Nodup)(b:iy sf sg tg is)(x:L2.St)(H:Hp)(Q:VK)(F:wE K sf C (.comp h k f tg J e) x H Q):b8 n (wI K sf C n k f) is (gT K n) (wE K sg C e) x H Q:=by
 refine jA (te:=λg H Q=>wE K sg C e g H λy l=>Q (Y y) l) D M b (λ{i o N} t=>?_) (λ{val g Z H Fs i P R o Q} A t k=>?_) (λi=>rfl) x H Q F
 .obtain ⟨⟨u,w⟩,m,p⟩:=aa<|show (evE C e i).bind gh=_ from t;cases p;exact aG e m
 .obtain ⟨⟨u,w⟩,m,p⟩:=aa<|show (evE C e i).bind gh=_ from t;cases p;exact i4 A m λv z l j G a r d s _=>k (Y v) z l j G a r d s
theorem xi {n:O}{h:QT}{k:Ik}{D:U E}{l t:E}(hn:tg.length=n)(nd:tg.Nodup)(g:iy sf sg tg is)(σ:L2.St)(H:Hp)(Q:VK)(hw:wE K sf C (.comp h k D tg (Y t) l) σ H Q):fZ n (wI K sf C n k D) is (gT K n) (wT K sg C t) (wE K sg C l) σ H Q:=by
 have main:=jA (te:=λσ2 H Q=>wT K sg C t σ2 H λok H2=>if ok=K1 then wE K sg C l σ2 H2 λy F=>Q (Y y) F else Q J H2) hn nd g (f:=mY (evE C t)<|evE C l) (λ{η o η'} hf=>by
  obtain⟨⟨u,η4⟩,h7,h8⟩:=aa<|show(evE C t η).bind (onT (fO<|evE C l)<|okW J)=_ from hf;obtain⟨d,h9,p⟩:=cc h8;cases d with
  |true=>rw[QY rfl] at p;obtain⟨⟨u2,η5⟩,N,P⟩:=aa<|show(evE C l η4).bind gh=_ from p;cases P;exact(aG t h7).trans<|aG l N
  |false=>rw[Q0 LA] at p;cases p;exact aG t h7) (λ{val σ2 Z H Fs η ηc R o Q} A hf k=>by
  obtain⟨⟨u,η4⟩,h7,h8⟩:=aa<|show(evE C t η).bind (onT (fO<|evE C l)<|okW J)=_ from hf;obtain⟨d,h9,p⟩:=cc h8;refine nH A.bare h7 h9 λZ1 H1 Fs1 A1 s1=>?_;have A1':=A.frame (A1.mono (G':=no) λ_ z=>z)<|s1.mono (λ_ z=>z) λa ha=>ha.elim id λz=>z.elim;have A2:=A1'.1.mono (G':=R) λ_ z=>.inl z;cases d with
  |true=>rw[QY rfl] at p ⊢;obtain⟨⟨u2,η5⟩,N,P⟩:=aa<|show(evE C l η4).bind gh=_ from p;cases P;exact i4 A2 N λv Z' F M G e r d s _=>k (Y v) Z' F M G e r d<|s1.trans s
  |false=>
   rw[Q0 LA] at p ⊢;cases p;exact k J Z1 H1 Fs1 no (A2.mono λ_ z=>z.elim id λq=>q.elim) trivial (λ_ _ z=>z) (s1.mono (λ_ z=>z) λa ha=>ha.elim id λz=>z.elim)) (λη=>rfl) σ H Q hw
 refine(?_:∀{a b:It->Hp->Prop},(∀j H1,a j H1->b j H1)->wI K sf C n k D σ H a->wI K sf C n k D σ H b) ?_ main
 .rintro a b hab ⟨pv,Z,Fs,η,ws,η',ts,A,ev,ht,kk⟩;exact⟨pv,Z,Fs,η,ws,η',ts,A,ev,ht,λj Z' F M A' s' w' y'=>hab j F<|kk j Z' F M A' s' w' y'⟩
 .rintro j H1 ⟨W,w0,turn⟩;refine⟨W,w0,λi m ys H w=>?_⟩;rcases turn i m ys H w with c|⟨go,hz,step⟩
  .exact .inl c
  .refine .inr ⟨go,hz,fun x F y=>?_⟩;have st:=step x F y;simp only[Option.toList_some,O2,LK] at st;exact st
end
section
variable {K:K3}{sl:Cf}{sf sg:O->B O}{C:Call}{σ σ2:L2.St}{Z Z' Z1:Fp}{H H' H1:Hp}{Fs Fs' Fs1:Fps}{η η' η1 ηb:Env}{G G' G1 R F:Fp}{tg is:U O}{pv val:O->B V}
noncomputable def lN (Fs:Fps)(i:O)(G:Fp):Fps:=λj a=>(j=i/\G a)\/(j≠i/\Fs j a)
theorem bz {i:O}{a:QS}(h:tot (lN Fs i G) a):tot Fs a\/G a:=by
 obtain⟨j,h|h⟩:=h
 .exact .inr h.2
 .exact .inl ⟨j,h.2⟩
theorem At.put {i:O}{w:W}{x:V}(A:At K sl σ Z H Fs η G)(r:Rep K Z H w.1 w.2 x G1)(c:∀a,G1 a->G a)(f:∀a,R a->G a)(hd:∀a,R a->¬G1 a)(l:∀j,sl.sl i=Y j->σ[j]?=Y (Y x))(hp:∀u,sl.pv i=Y u->x=u):
  At K sl σ Z H (lN Fs i G1) (M.put η i w) R:=by
 refine⟨⟨λa h=>(bz h).elim (A.gd.own a) λq=>A.own a<|c a q,λj k a b hk=>?_,A.gd.zal⟩,λj m t e=>?_,λa h=>A.own a<|f a h,λa h q=>(bz q).elim (A.dis a<|f a h)<|hd a h,A.lk,A.ln⟩
 .rcases b with ⟨rfl,b⟩ | ⟨p,b⟩
  .rcases hk with ⟨rfl,_⟩ | ⟨n,hk⟩
   .rfl
   .exact QW ⟨k,hk⟩ (A.dis a<|c a b)
  .rcases hk with ⟨rfl,hk⟩ | ⟨n,hk⟩
   .exact QW ⟨j,b⟩ (A.dis a<|c a hk)
   .exact A.gd.dis j k a b hk
 .rw [bB] at e;split at e
  .rename_i d;cases e;obtain⟨rfl,_⟩:=d;exact⟨x,r.mono λa h=>.inl ⟨rfl,h⟩,l,hp⟩
  .rename_i d;obtain⟨v,o,g⟩:=A.env j m t e;by_cases b:j=i
   .subst b;exact QW ⟨rfl,dH e⟩ d
   .exact⟨v,o.mono λa h=>.inr ⟨b,h⟩,g⟩
def wA (K:K3)(sl:O->B O)(C:Call)(c:U E):TA:=λσ H Q=>∃pv Z Fs η d η',At K ⟨sl,pv⟩ σ Z H Fs η no/\evA C c η=.ok (d,η') /\
 ∀b Z' H' Fs' G,At K ⟨sl,pv⟩ σ Z' H' Fs' η' G->RepW K Z' H' d b G->Step Z H (tot Fs) Z' H' (λa=>tot Fs' a\/G a)->(∀(k i:O) (u:V),c[k]?=Y (.io i)->pv i=Y u->b[k]?=Y u)->Q b H'
theorem DE (σ:L2.St)(H:Hp)(Q:U V->Hp->Prop)(h:wA K sf C [] σ H Q):nQ σ H Q:=by obtain⟨pv,Z,Fs,η,c,η',A,ev,k⟩:=h;cases ev;exact k [] Z H Fs no A rfl ((Step.refl _ _ _).mono (λ_ z=>z) λa b=>b.elim id λz=>z.elim) λk i u h _=>by simp at h
theorem Jr {d:U E}{g:U W}{Q:U V->Hp->Prop}(A:At K sl σ Z H Fs η R)(ev:evA C d η=.ok (g,η'))
  (k:∀ f Z' H' Fs' G,At K sl σ Z' H' Fs' η' (fun c=>R c\/G c)->RepW K Z' H' g f G->(∀ c,R c->¬ G c)->Step Z H (tot Fs) Z' H' (fun a=>tot Fs' a\/G a) ->
   Step Z H (λc=>tot Fs c\/R c) Z' H' (λc=>tot Fs' c\/(R c\/G c))->(∀(k i:O) (u:V),d[k]?=Y (.io i)->sl.pv i=Y u->f[k]?=Y u)->Q f H'):wA K sl.sl C d σ H Q:=
 ⟨sl.pv,Z,Fs,η,g,η',A.bare,ev,fun v Z' H' Fs' G b r s e=>by
  obtain⟨h,j,l⟩:=A.frame b s;exact k v Z' H' Fs' G h r l s j e⟩
theorem tQ {e:E}{f:U E}(g:∀i,e≠.io i)(σ:L2.St)(H:Hp)(Q:U V->Hp->Prop)(h:wA K sf C (e::f) σ H Q):gc (wE K sf C e) (wA K sf C f) σ H Q:=by
 obtain⟨pv,Z,Fs,η,M,η',A,ev,k⟩:=h;obtain⟨w,η1,D,r,s,rfl⟩:=iO g ev;refine i4 A r λx Z1 H1 Fs1 G1 d r1 _ v _=>?_;have a:=d.mono (G':=G1) λ_ z=>.inr z;refine Jr a s λj o n b m l r2 p y t2 c=>?_;refine k (x::j) o n b _ l ⟨x,j,G1,m,rfl,λ_ z=>.inl z,λ_ z=>.inr z,p,r1.frame d.gd.own y a.dis,r2⟩ (v.trans t2) λk i u h t=>?_;cases k with
 |zero=>exact QW (LG h)<|g i
 |succ k=>exact c k i u h t
theorem qG {i j:O}{p:U E}(N:sf i=Y j)(σ:L2.St)(H:Hp)(Q:U V->Hp->Prop)(h:wA K sf C (.io i::p) σ H Q):gc (bJ j) (wA K sf C p) σ H Q:=by
 obtain⟨pv,Z,Fs,η,ws,η',A,ev,k⟩:=h;obtain⟨us,η1,w,f,c,rfl,rfl⟩:=ku ev;obtain⟨m,t⟩:=w;cases e0:rd η i with
 |none=>rw[iE p f i e0] at c;cases c
 | some w0 =>
  obtain⟨v,_,hv⟩:=A.env i w0.1 w0.2 e0;refine⟨v,hv.1 j N,pv,Z,Fs,η,us,η1,A,f,λxs Z2 H2 d G2 b r2 s2 x=>?_⟩;obtain⟨P,r,n⟩:=b.env i m t c;have s:P=v:=by have e1:=hv.1 j N;rw[n.1 j N] at e1;exact LG<|LG e1
  subst s
  have A3:At K ⟨sf,pv⟩ σ Z2 H2 (tZ d i) (del η1 i) (λa=>d i a\/G2 a):=by
   refine⟨⟨λa ⟨l,f,c⟩=>b.gd.own a ⟨l,c⟩,λl l' a f c=>b.gd.dis l l' a f.2 c.2,b.gd.zal⟩,λl m' t' e=>?_,λa g=>g.elim (λz=>b.gd.own a ⟨i,z⟩)<|b.own a,λa g ⟨l,f,c⟩=>g.elim (λz=>f<|b.gd.dis l i a c z) λz=>b.dis a z ⟨l,c⟩,b.lk,b.ln⟩;rw[bB] at e;split at e
   .cases e
   .rename_i M;obtain⟨v'',r',o⟩:=b.env l m' t' e;have D:l≠i:=λz=>M ⟨z,dH c⟩;exact⟨v'',r'.mono λa g=>⟨D,g⟩,o⟩
  refine k (P::xs) Z2 H2 (tZ d i) _ A3 ⟨P,xs,d i,G2,rfl,λ_ z=>.inl z,λ_ z=>.inr z,λa z y=>b.dis a y ⟨i,z⟩,r,r2⟩ (s2.mono (λ_ z=>z) λa g=>?_) λk i' u h hu=>?_
  .rcases g with ⟨l,_,z⟩ | z | z
   .exact .inl ⟨l,z⟩
   .exact .inl ⟨i,z⟩
   .exact .inr z
  .cases k with
   |zero=>cases h;rw[<- n.2 u hu];rfl
   |succ k=>exact x k i' u h hu
def atV (a:U O)(b:U V):U V:=a.filterMap λi=>b[i]?
def spC (K:K3)(C:Call)(f:O)(e:U O):U V->Hp->VK->Prop:=λc H Q=>∃Z d G w bs,RepW K Z H d c G/\Own Z H G/\(∀a,Z a->H a≠J)/\C f d=.ok (w,bs) /\
 ∀v Z' H' G1 b,Rep K Z' H' w.1 w.2 v G1->RepW K Z' H' bs (atV e c) b->(∀a,G1 a->¬b a)->Own Z' H' (λa=>G1 a\/b a)->Step Z H G Z' H' (λa=>G1 a\/b a)->Q v H'
noncomputable def gU:U E->O->U O
|[],_=>[]
|.io _::a,n=>n::gU a (n+1)
|_::a,n=>gU a<|n+1
theorem Bt {vs:U V}:∀{es:U E} {n:O},(∀(k i:O) (u:V),es[k]?=Y (.io i)->pv i=Y u->vs[n+k]?=Y u)->(∀i∈ios es,pv i≠J)->(ios es).filterMap pv=atV (gU es n) vs
|[],_,_,_=>rfl
| e::es,n,h,c=>by
 have rest:(∀i∈ios es,pv i≠J)->(ios es).filterMap pv=atV (gU es (n+1)) vs:=λq=>Bt (λk i u hk a=>by have:=h (k+1) i u hk a;rw[show n+(k+1)=n+1+k by lia] at this;exact this) q;cases e with
 | io i =>
  cases a:pv i with
  |none=>exact QW a<|c i<|by simp[ios]
  |some u=>have d:=h 0 i u rfl a;rw[Nat.add_zero] at d;show(i::ios es).filterMap pv=(n::gU es (n+1)).filterMap λi=>vs[i]?;rw[Np,Np,a,d];exact Q8 (u::·)<|rest λj b=>c j<|by simp[ios,b]
 |_=>exact rest λj b=>c j b
theorem At.putAll:∀{is:U O} {bs:U W} {Fs:Fps} {η:Env} {d:Fp},At K ⟨sf,val⟩ σ Z H Fs η (λa=>R a\/d a)->(∀a,R a->¬d a)->RepW K Z H bs (is.filterMap val) d->(∀i∈is,val i≠J)->∃Fs',At K ⟨sf,val⟩ σ Z H Fs' (M.putAll is bs η) R/\∀a,tot Fs' a->tot Fs a\/d a
|[],bs,Fs,η,d,A,_,_,_=>⟨Fs,A.mono λ_ z=>.inl z,λ_ z=>.inl z⟩
|i::is,[],Fs,η,d,A,_,_,_=>⟨Fs,A.mono λ_ z=>.inl z,λ_ z=>.inl z⟩
| i::is,b::bs,Fs,η,d,A,hd,r,n=>by
 cases f:val i with
 |none=>exact QW f<|n i Lg
 |some u=>rw[Np,f] at r;obtain⟨x,y,o,s,e,g,k,ad,p,q⟩:=r;cases e;have c:=At.put (i:=i) (R:=λa=>R a\/s a) (G1:=o) A p (λa h=>.inr<|g a h) (λa h=>h.imp id (k a)) (λa h q=>h.elim (λz=>hd a z<|g a q) λz=>ad a q z) (λj l=>A.lk i u j f l) (λw m=>by rw[show val i=Y w from m] at f;cases f;rfl);obtain⟨Fs',t,v⟩:=At.putAll (is:=is) (bs:=bs) c (λa h q=>hd a h<|k a q) q λj l=>n j<|Lr _ l;exact⟨Fs',t,λa h=>(v a h).elim (λz=>(bz z).imp id (g a)) λz=>.inr<|k a z⟩
theorem yP {f:O}{es:U E}{y:U O}(j:gU es 0=y\/ios es=[])(σ:L2.St)(H:Hp)(Q:VK)(h:wE K sf C (.call f es) σ H Q):wA K sf C es σ H λvs H1=>spC K C f y vs H1 Q:=by
 obtain⟨pv,Z,Fs,η,w,η',A,ev,k⟩:=h;obtain⟨⟨l,η1⟩,x,h2⟩:=aa<|show(evA C es η).bind (ly C f<|ios es)=_ from ev;obtain⟨⟨u,bs⟩,h3,h4⟩:=aa<|show(C f l).bind (pd (ios es) η1)=_ from h2;cases h4;obtain⟨val,v1,D,v2⟩:=A.pin
 have c:∀i∈ios es,val i≠none:=λi hi=>by
  cases e:rd η i with
  |none=>exact QW e<|kl es x i hi
  |some q=>exact v2 i q.1 q.2 e
 refine⟨val,Z,Fs,η,l,η1,D,x,λvs Z1 H1 Fs1 G b r s hv=>?_⟩;refine⟨Z1,l,G,u,bs,r,b.own,b.gd.zal,h3,λv t p G1 P r1 r2 d o st=>?_⟩;obtain⟨m,s2⟩:=b.op o st
 have g:∃Fs',At K ⟨sf,val⟩ σ t p Fs' (M.putAll (ios es) bs η1) G1/\∀a,tot Fs' a->tot Fs1 a\/P a:=by
  rcases j with e|e
  .have e2:=Bt (pv:=val) (es:=es) (n:=0) (vs:=vs) (fun k i u' hk hu=>by rw [NK]; exact hv k i u' hk hu) c;rw[e] at e2;rw[<- e2] at r2;exact At.putAll m d r2 c
  .rw [e];exact⟨Fs1,m.mono λ_ z=>.inl z,λ_ z=>.inl z⟩
 obtain⟨Fs',N,hF⟩:=g;refine k v t p Fs' G1 (N.unpin v1) r1<|(s.trans s2).mono (λ_ z=>z) λa ha=>?_;rcases ha with z|z
 .exact(hF a z).imp id .inr
 .exact .inr (.inl z)
end
section
variable {K:K3}{sl:Cf}{sf sg:O->B O}{C:Call}{σ σ2:L2.St}{Z Z' Z1:Fp}{H H' H1:Hp}{Fs Fs' Fs1:Fps}{η η' η1 ηb:Env}{G G' G1 R F F':Fp}{tg is vs ls:U O}{pv val:O->B V}
theorem uH (o:B W):toS (toS o)=toS o:=by
 cases o with
 |none=>rfl
 |some w=>rfl
theorem gR:∀(vs:U O) (η:Env) (i:O),rd (share vs η) i=if i∈vs then toS (rd η i) else rd η i
|[],η,i=>by simp[share]
| v::vs,η,i=>by
 show rd (share vs<|wr η v<|toS<|rd η v) i=_;rw[gR vs,bB];by_cases b:i=v
 .subst b;rw[QY (show i∈i::vs from Lg)];by_cases c:i < η.length
  .rw [QY (show i=i/\i < η.length from ⟨rfl,c⟩)];split
   .exact uH _
   .rfl
  .have e:rd η i=none:=by
    cases e:rd η i with
    |none=>rfl
    |some w=>exact QW (dH e) c
   rw[Q0<|show¬(i=i/\i < η.length) fromλh=>c h.2,e];split<;>rfl
 .rw [Q0 (show ¬ (i=v/\v < η.length) from fun h=>b h.1)];by_cases a:i∈vs
  .rw[QY a,QY<|Lr _ a]
  .rw[Q0 a,Q0<|by simp[a,b]]
theorem kU:∀(η:Env) (i:O),rd (ib η) i=J
|[],_=>rfl
|_::_,0=>rfl
|_::η,i+1=>kU η i
theorem oU:∀(vs:U O) (a η:Env) (i:O) (w:W),rd (nW vs a η) i=Y w->rd η i=Y w\/(i∈vs/\toS (rd a i)=Y w)
|[],_,_,_,_,h=>.inl h
| v::vs,a,η,i,w,h=>by
 rcases oU vs a (wr η v<|toS<|rd a v) i w h with e|e
 .rw [bB] at e;split at e
  .rename_i b;obtain⟨rfl,_⟩:=b;exact .inr ⟨Lg,e⟩
  .exact .inl e
 .exact .inr ⟨Lr _ e.1,e.2⟩
theorem lq:∀(vs:U O) (a η:Env) (i:O) (w:W),rd (iL vs a η) i=Y w->rd η i=Y w\/lfO (rd a i)=Y w
|[],_,_,_,_,h=>.inl h
| v::vs,a,η,i,w,h=>by
 rcases lq vs a (wr η v<|lfO<|rd a v) i w h with e|e
 .rw [bB] at e;split at e
  .rename_i b;obtain⟨rfl,_⟩:=b;exact .inr e
  .exact .inl e
 .exact .inr e
theorem AY {i:O}{w:W}(h:rd (pick vs ls η) i=Y w):∃m t,rd η i=Y (m,t)/\((i∈vs/\w=(.s,t))\/(t.leaf=K1/\w=(.d,t))):=by
 rcases lq ls η _ i w h with e|e
 .rcases oU vs η _ i w e with e | ⟨hi,e⟩
  .rw[kU] at e;cases e
  .cases q:rd η i with
   |none=>rw[q] at e;cases e
   |some u=>rw[q] at e;cases e;exact⟨u.1,u.2,rfl,.inl ⟨hi,rfl⟩⟩
 .cases q:rd η i with
  |none=>rw[q] at e;cases e
  |some u=>
   rw[q] at e;obtain⟨m,t⟩:=u;have a:(if t.leaf=K1 then Y ((.d,t):W) else J)=Y w:=e;split at a
   .rename_i b;cases a;exact⟨m,t,rfl,.inr ⟨b,rfl⟩⟩
   .cases a
def dA (Fs:Fps)(vs:U O):Fp:=λa=>∃i,i∈vs/\Fs i a
def vn:Fps:=λ_ _=>Q6
theorem dh {a:QS}(h:dA Fs vs a):tot Fs a:=let ⟨i,_,h⟩:=h;⟨i,h⟩
theorem jO {a:QS}(h:tot vn a):Q6:=let ⟨_,h⟩:=h;h
theorem At.quiet (A:At K sl σ Z H Fs η no):At K sl σ (λa=>Z a\/dA Fs vs a) H vn (pick vs ls η) no:=by
 refine⟨⟨λa h=>(jO h).elim,λ_ _ _ h=>h.elim,λa h=>h.elim (A.gd.zal a) λq=>?_⟩,λi m t e=>?_,b7,λ_ z=>z.elim,A.lk,A.ln⟩
 .obtain ⟨_,g,e⟩:=A.gd.own a<|dh q;rw[e];simp
 .obtain ⟨d,f,e1,e2⟩:=AY e;obtain⟨v,r,h⟩:=A.env i d f e1;rcases e2 with⟨b,e2⟩|⟨c,e2⟩
  .cases e2;exact⟨v,(r.sh.zmono λa h=>h.imp id λq=>⟨i,b,q⟩).sany,h⟩
  .cases e2;exact⟨v,r.leaf (λ_ _ _ q=>q) c,h⟩
mutual
theorem Rep.dany:∀{t:T} {v:V} {G:Fp},Rep K Z H .d t v G->Rep K Z' H .d t v G
|.non,_,_,h=>h
|.bl _,_,_,h=>h
|.int _,_,_,h=>h
|.str _,_,_,h=>h
|.scr _,_,_,h=>h
|.tup ts,_,_,⟨a,xs,e,q,l,r⟩=>⟨a,xs,e,q,l,RepL.dany r⟩
|.lst ts,_,_,⟨a,xs,e,l,q,r⟩=>⟨a,xs,e,l,q,RepL.dany r⟩
|.dct _ _,_,_,⟨a,xs,e,l,q,n,hl,r⟩=>⟨a,xs,e,l,q,n,hl,RepL.dany r⟩
|.ins _ _ _,_,_,h=>QW rfl h.1
|.dtt _ _,_,_,h=>QW rfl h.1
|.obj _ _ _,_,_,h=>QW rfl h.1
|.gone,_,_,h=>h
theorem RepL.dany:∀{ts:U T} {xs:U V} {G:Fp},RepL K Z H .d ts xs G->RepL K Z' H .d ts xs G
|[],_,_,h=>h
|t::ts,xs,_,⟨x,r,G1,G2,e,h1,h2,hd,p,q⟩=>⟨x,r,G1,G2,e,h1,h2,hd,Rep.dany p,RepL.dany q⟩
end
theorem eS (A:At K sl σ Z H Fs η no)(b:Own Z' H' G)(d:∀a,Z' a->H' a≠J)(s:Step (λa=>Z a\/dA Fs vs a) H F Z' H' λa=>F' a\/G a)(c:∀a,¬F a):
  At K sl σ (λa=>Z' a/\¬dA Fs vs a) H' Fs η G/\Step Z H (tot Fs) (λa=>Z' a/\¬dA Fs vs a) H' (λa=>tot Fs a\/G a):=by
 have keep:∀a o,H a=Y o->H' a=Y o:=λa o e=>s.keep a o e<|c a;have j:∀a,Z a->Z' a/\¬dA Fs vs a:=λa h=>⟨s.zm a<|.inl h,λq=>(A.gd.own a<|dh q).1 h⟩
 have g:∀a,tot Fs a->¬(Z' a/\¬dA Fs vs a):=λa h q=>by
  obtain⟨g,f,e⟩:=A.gd.own a h;rcases s.zn a q.1 with z|z|z
  .exact z.elim g q.2
  .exact c a z
  .rw[e] at z;cases z
 have k:∀a,G a->¬tot Fs a:=λa h q=>by
  obtain⟨_,f,e⟩:=A.gd.own a q;rcases s.fn a (.inr h) with z|z
  .exact c a z
  .rw[e] at z;cases z
 refine⟨⟨⟨λa h=>?_,A.gd.dis,λa h=>d a h.1⟩,λi m t e=>?_,λa h=>⟨λq=>(b a h).1 q.1,(b a h).2⟩,k,A.lk,A.ln⟩,⟨λa o e _=>keep a o e,j,λa h=>?_,λa h=>?_,s.al,λ_ a h=>d a h.1⟩⟩
 .obtain ⟨_,f,e⟩:=A.gd.own a h;exact⟨g a h,f,keep a _ e⟩
 .obtain ⟨v,r,h⟩:=A.env i m t e;refine⟨v,r.keep ⟨λa o _ e=>keep a o e,λa f e=>?_,λa o u e=>keep a _ e⟩ j λa o _ e=>keep a o e,h⟩;rcases e with e|⟨u,e⟩
  .exact .inl (keep a _ e)
  .exact .inr ⟨u,keep a _ e⟩
 .rcases s.zn a h.1 with z | z | z
  .exact z.elim .inl λq=>QW q h.2
  .exact(c a z).elim
  .exact .inr (.inr z)
 .rcases h with h | h
  .exact .inl h
  .exact(s.fn a<|.inr h).elim (λz=>(c a z).elim) .inr
theorem At.share (A:At K sl σ Z H Fs η G):At K sl σ (λa=>Z a\/dA Fs vs a) H (gq Fs vs) (M.share vs η) G/\∀{f d c},Step f d c Z H (λa=>tot Fs a\/G a)->Step f d c (λa=>Z a\/dA Fs vs a) H (λa=>tot (gq Fs vs) a\/G a):=by
 refine⟨⟨⟨λa h=>?_,λi j a l n=>A.gd.dis i j a l.2 n.2,λa h=>h.elim (A.gd.zal a) λq=>?_⟩,λi m t e=>?_,λa h=>⟨λz=>z.elim (A.own a h).1 λq=>A.dis a h<|dh q,(A.own a h).2⟩,λa h q=>A.dis a h<|dt q,A.lk,A.ln⟩,λ{f d c} s=>⟨s.keep,λa h=>.inl<|s.zm a h,λa h=>h.elim (s.zn a) λq=>.inr<|s.fn a<|.inl<|dh q,λa h=>s.fn a<|h.imp dt id,s.al,λz a h=>h.elim (s.za z a) λq=>?_⟩⟩
 .obtain ⟨i,b,k⟩:=h;obtain⟨p,g,e⟩:=A.gd.own a ⟨i,k⟩;exact⟨λz=>z.elim p λ⟨j,o,q⟩=>b<|A.gd.dis i j a k q ▸ o,g,e⟩
 .obtain ⟨_,g,e⟩:=A.gd.own a<|dh q;rw[e];simp
 .rw [gR] at e;split at e
  .rename_i b;cases q:rd η i with
   |none=>rw[q] at e;cases e
   |some u=>rw[q] at e;cases e;obtain⟨v,r,h⟩:=A.env i u.1 u.2 q;exact⟨v,(r.sh.zmono λa h=>h.imp id λq=>⟨i,b,q⟩).sany,h⟩
  .rename_i b;obtain⟨v,r,h⟩:=A.env i m t e;exact⟨v,(r.zmono λa h=>.inl h).mono λa h=>⟨b,h⟩,h⟩
 .obtain ⟨_,g,e⟩:=A.gd.own a<|dh q;rw[e];simp
theorem gk {x:X}{e:E}{w:W}{Q:VK}(A:At K sl σ Z H Fs η no)(ev:evX C x e η=.ok (w,η'))(k:∀v Z' H' Fs' G,At K sl σ Z' H' Fs' η' G->Rep K Z' H' w.1 w.2 v G->Step Z H (tot Fs) Z' H' (λa=>tot Fs' a\/G a)->Q v H'):wE K sl.sl C e σ H Q:=by
 cases x with
 | q vs ls =>
  obtain⟨⟨u,n⟩,D,N⟩:=aa<|show(evE C e<|pick vs ls η).bind (kX vs η)=_ from ev;cases N;generalize i:M.lf u.1 u.2=m0 at k;refine⟨sl.pv,_,vn,_,_,n,A.quiet (vs:=vs) (ls:=ls),D,λv Z' H' Fs' G b r0 s=>?_⟩;have r:=r0.lf;rw[i] at r;obtain⟨p,f⟩:=eS A b.own b.gd.zal s λa h=>jO h
  have c:Q v H'\/m0=.d:=by
   by_cases hd:m0=.d
   .exact .inr hd
   .refine .inl ?_
    have g:after m0 vs η=share vs η:=by
     cases P:m0 with
     |d=>exact QW P hd
     |s=>rfl
     |o m=>rfl
    obtain⟨y,s2⟩:=p.share (vs:=vs);have zz:∀a,(Z' a/\¬dA Fs vs a)\/dA Fs vs a->Z' a:=λa h=>h.elim Nj λq=>s.zm a<|.inr q;have j:∀a,Z' a->(Z' a/\¬dA Fs vs a)\/dA Fs vs a:=λa h=>(Qm<|dA Fs vs a).elim .inr λq=>.inl ⟨h,q⟩;exact k v _ H' _ G (g ▸ y) (r.zmono j)<|s2 f
  rcases c with q|hd
  .exact q
  .have g:after m0 vs η=η:=by rw [hd]; rfl
   refine k v _ H' Fs G (g.symm ▸ p) ?_ f;subst hd;exact r.dany
 |l vs=>obtain⟨b,s0⟩:=A.share (vs:=vs);have f:=s0<|(Step.refl Z H<|tot Fs).mono (F2:=λa=>tot Fs a\/no a) (λ_ z=>z) λa h=>h.elim id λz=>z.elim;refine⟨sl.pv,_,_,_,w,η',b,ev,λv Z' H' Fs' G t r s=>k v Z' H' Fs' G t r<|(f.mono (λ_ z=>z) λa h=>.inl h).trans s⟩
theorem Kg {x:X}{e:E}{b:QT}{Q:QT->Hp->Prop}(A:At K sl σ Z H Fs η no)(ev:evT C x e η=.ok (b,η'))(k:∀Z' H' Fs',At K sl σ Z' H' Fs' η' no->Step Z H (tot Fs) Z' H' (tot Fs')->Q b H'):wT K sl.sl C e σ H Q:=by
 cases x with
 |q vs ls=>obtain⟨⟨u,d⟩,f,g⟩:=aa<|show(evE C e<|pick vs ls η).bind (kT η)=_ from ev;obtain⟨o,i,e3⟩:=aI<|show ret η (truth u.2)=_ from g;cases e3;refine⟨sl.pv,_,vn,_,u,d,b,A.quiet (vs:=vs) (ls:=ls),f,i,λZ' H' Fs' c s=>?_⟩;obtain⟨n,j⟩:=eS (G:=no) A b7 c.gd.zal (s.mono (F2:=λa=>tot Fs' a\/no a) (λ_ z=>z) λa h=>h.elim id λz=>z.elim) λa h=>jO h;exact k _ H' Fs n<|j.mono (λ_ z=>z) λa h=>.inl h
 |l vs=>obtain⟨⟨u,d⟩,f,g⟩:=aa<|show(evE C e<|M.share vs η).bind kT2=_ from ev;obtain⟨o,i,e3⟩:=aI<|show ret d (truth u.2)=_ from g;cases e3;obtain⟨c,s0⟩:=A.share (vs:=vs);have j:=s0<|(Step.refl Z H<|tot Fs).mono (F2:=λa=>tot Fs a\/no a) (λ_ z=>z) λa h=>h.elim id λz=>z.elim;exact⟨sl.pv,_,_,_,u,_,b,c,f,i,λZ' H' Fs' m s=>k Z' H' Fs' m<|(j.mono (λ_ z=>z) λa h=>.inl h).trans s⟩
end
section
variable {K:K3}{Wx:L2.St->VK}{sl:Cf}{sf sg:O->B O}{C:Call}{σ σ2:L2.St}{Z Z' Z1:Fp}{H H' H1:Hp}{Fs Fs' Fs1:Fps}{η η' η1 ηb:Env}{G G' G1 R F F':Fp}{tg is vs ls io:U O}{pv val:O->B V}{D:bP}
def Fin (K:K3)(Wx:L2.St->VK)(sl:Cf)(Z:Fp)(H:Hp)(F:Fp)(D:bP):Fl->Prop
|.nx η'=>∀b Z' H' Fs',At K sl b Z' H' Fs' η' no->Step Z H F Z' H' (tot Fs')->D.nx b H'
|.rt w η'=>∀v b Z' H' Fs' G,At K sl b Z' H' Fs' η' G->Rep K Z' H' w.1 w.2 v G->Step Z H F Z' H' (λa=>tot Fs' a\/G a)->D.rt v H'
|.bk η'=>∀b Z' H' Fs',At K sl b Z' H' Fs' η' no->Step Z H F Z' H' (tot Fs')->D.bk b H'
|.ex t η'=>∀v b Z' H' Fs',At K sl b Z' H' Fs' η' no->Rep K Z' H' .s t v no->Step Z H F Z' H' (tot Fs')->Wx b v H'
|_=>Q6
theorem Fin.step {fl:Fl}(s:Step Z H F Z1 H1 F')(h:Fin K Wx sl Z H F D fl):Fin K Wx sl Z1 H1 F' D fl:=by
 cases fl with
 |nx η=>exactλa Z' H' Fs' A t=>h a Z' H' Fs' A<|s.trans t
 |rt w η=>exactλv a Z' H' Fs' G A r t=>h v a Z' H' Fs' G A r<|s.trans t
 |bk η=>exactλa Z' H' Fs' A t=>h a Z' H' Fs' A<|s.trans t
 |ex t η=>exactλv a Z' H' Fs' A r t=>h v a Z' H' Fs' A r<|s.trans t
 |_=>exact h.elim
structure qp (sf:O->B O)(io:U O)(pv:O->B V):Prop where
 inj:∀i i' j,sf i=Y j->sf i'=Y j->i=i'
 io:∀i,i ∉ io->pv i=J
def wS (K:K3)(Wx:L2.St->VK)(sf:O->B O)(io:U O)(C:Call)(a:S):TS:=λD σ H=>∃pv Z Fs η,qp sf io pv/\At K ⟨sf,pv⟩ σ Z H Fs η no/\Fin K Wx ⟨sf,pv⟩ Z H (tot Fs) D (evS C a η)
def wSs (K:K3)(Wx:L2.St->VK)(sf:O->B O)(io:U O)(C:Call)(a:U S):TS:=λD σ H=>∃pv Z Fs η,qp sf io pv/\At K ⟨sf,pv⟩ σ Z H Fs η no/\Fin K Wx ⟨sf,pv⟩ Z H (tot Fs) D (evSs C a η)
theorem xE (D:bP)(σ:L2.St)(H:Hp)(h:wSs K Wx sf io C [] D σ H):lR D σ H:=by obtain⟨pv,Z,Fs,η,N,A,f⟩:=h;exact f σ Z H Fs A<|Step.refl _ _ _
theorem tS {s:S}{r:U S}(D:bP)(σ:L2.St)(H:Hp)(h:wSs K Wx sf io C (s::r) D σ H):nE (wS K Wx sf io C s) (wSs K Wx sf io C r) D σ H:=by
 obtain⟨pv,Z,Fs,η,N,A,f⟩:=h;refine⟨pv,Z,Fs,η,N,A,?_⟩;have a:Fin K Wx ⟨sf,pv⟩ Z H (tot Fs) D (Fl.seq (evS C s η) (evSs C r)):=f;cases e:evS C s η with
 |nx η1=>rw[e] at a;exactλc Z' H' Fs' b t=>⟨pv,Z',Fs',η1,N,b,a.step t⟩
 |rt w η1=>rw[e] at a;exact a
 |bk η1=>rw[e] at a;exact a
 |ex t η1=>rw[e] at a;exact a
 |no=>rw[e] at a;exact a.elim
theorem yn {s:S}(D:bP)(σ:L2.St)(H:Hp)(h:wSs K Wx sf io C [s] D σ H):wS K Wx sf io C s D σ H:=by
 obtain⟨pv,Z,Fs,η,N,A,f⟩:=h;refine⟨pv,Z,Fs,η,N,A,?_⟩;have a:Fin K Wx ⟨sf,pv⟩ Z H (tot Fs) D (Fl.seq (evS C s η) (evSs C [])):=f;cases e:evS C s η with
 |nx η1=>rw[e] at a;exact a
 |rt w η1=>rw[e] at a;exact a
 |bk η1=>rw[e] at a;exact a
 |ex t η1=>rw[e] at a;exact a
 |no=>rw[e] at a;exact a.elim
theorem a7 {b:Type}{r:Res b}{g:b->Fl}(f:Fin K Wx sl Z H F D<|Fl.of η r g):∃a,r=.ok a/\Fin K Wx sl Z H F D (g a):=by
 cases r with
 |ok a=>exact⟨a,rfl,f⟩
 |ex t=>exact f.elim
 |no=>exact f.elim
theorem eA {o:B Env}(f:Fin K Wx sl Z H F D<|nxO η o):∃η',o=Y η'/\Fin K Wx sl Z H F D (.nx η'):=by
 cases o with
 |some a=>exact⟨a,rfl,f⟩
 |none=>exact f.elim
theorem At.setR {i j:O}{w:W}{x:V}(N:qp sf io pv)(P:i ∉ io)(s:sf i=Y j)(A:At K ⟨sf,pv⟩ σ Z H Fs η G)(r:Rep K Z H w.1 w.2 x G1)(q1:∀a,G1 a->G a)(q2:∀a,R a->G a)(q3:∀a,R a->¬G1 a):At K ⟨sf,pv⟩ (σ.set j<|Y x) Z H (lN Fs i G1) (M.put η i w) R:=by
 have hj:j < σ.length:=A.ln i j s
 have c:At K ⟨λk=>if k=i then J else sf k,pv⟩ (σ.set j (Y x)) Z H Fs (M.del η i) G:=by
  refine⟨A.gd,λl m t e=>?_,A.own,A.dis,λl u k g hk=>?_,λl k hk=>?_⟩
  .rw [bB] at e;split at e
   .cases e
   .rename_i hne;obtain⟨v,r',Q,h2⟩:=A.env l m t e;have f:l≠i:=λz=>hne ⟨z,by rw[<- z];exact dH e⟩;refine⟨v,r',λk hk=>?_,h2⟩;have d:sf l=Y k:=by have:(if l=i then J else sf l)=Y k:=hk;rw[Q0 f] at this;exact this
    have n:j≠k:=λz=>f (N.inj l i k d<|by rw[<- z];exact s);rw[MF n];exact Q k d
  .have f:l≠i:=fun z=>by have y:pv l=Y u:=g;rw[z,N.io i P] at y;cases y
   have d:sf l=Y k:=by have:(if l=i then J else sf l)=Y k:=hk;rw[Q0 f] at this;exact this
   have n:j≠k:=λz=>f (N.inj l i k d<|by rw[<- z];exact s);rw[MF n];exact A.lk l u k g d
  .have d:sf l=Y k:=by
    have:(if l=i then J else sf l)=Y k:=hk;split at this
    .cases this
    .exact this
   rw[Mn];exact A.ln l k d
 have p:=At.put (i:=i) (w:=w) (G1:=G1) (R:=R) c r q1 q2 q3 (λk hk=>by have d:(if i=i then J else sf i)=Y k:=hk;rw[QY rfl] at d;cases d) (λu g=>by have:=N.io i P;rw[show pv i=Y u from g] at this;cases this)
 have e1:M.put (M.del η i) i w=M.put η i w:=by
  have:∀(η:Env) (i:O) (a b:B W),wr (wr η i a) i b=wr η i b:=λη=>by
   induction η with
   |nil=>intro i a b;rfl
   |cons o η ih=>intro i a b;cases i with
    |zero=>rfl
    |succ i=>show o::wr (wr η i a) i b=o::wr η i b;rw[ih]
  exact this η i J<|Y w
 rw[e1] at p;refine⟨p.gd,λl m t e=>?_,p.own,p.dis,λl u k g hk=>?_,λl k hk=>by rw[Mn];exact A.ln l k hk⟩
 .obtain ⟨v,r',Q,h2⟩:=p.env l m t e;by_cases f:l=i
  .subst f;rw[bB] at e;split at e
   .cases e;refine⟨x,r.mono λa h=>.inl ⟨rfl,h⟩,λk hk=>?_,λu g=>by have:=N.io l P;rw[show pv l=Y u from g] at this;cases this⟩;have:k=j:=by rw[show sf l=Y k from hk] at s;cases s;rfl
    subst this;rw[Nv hj]
   .rename_i hc;exact QW ⟨rfl,dH e⟩ hc
  .refine ⟨v,r',fun k hk=>Q k ?_,h2⟩;show(if l=i then J else sf l)=Y k;rw[Q0 f];exact hk
 .by_cases f:l=i
  .subst f;have:=N.io l P;rw[show pv l=Y u from g] at this;cases this
  .exact p.lk l u k g (show(if l=i then J else sf l)=Y k by rw[Q0 f];exact hk)
theorem At.set {i j:O}{w:W}{x:V}(N:qp sf io pv)(a:i ∉ io)(b:sf i=Y j)(A:At K ⟨sf,pv⟩ σ Z H Fs η G)(r:Rep K Z H w.1 w.2 x G):At K ⟨sf,pv⟩ (σ.set j<|Y x) Z H (lN Fs i G) (M.put η i w) no:=At.setR N a b A r (λ_ h=>h) (λ_ z=>z.elim) λ_ z=>z.elim
theorem wN {x:X}{i j:O}{e:E}(k:i ∉ io)(l:sf i=Y j)(D:bP)(σ:L2.St)(H:Hp)(h:wS K Wx sf io C (.asg x i e) D σ H):kz (wE K sf C e) (bO j) D σ H:=by obtain⟨pv,Z,Fs,η,N,A,f⟩:=h;obtain⟨⟨w,η1⟩,c,d⟩:=a7<|show Fin K Wx ⟨sf,pv⟩ Z H (tot Fs) D (Fl.of η (evX C x e η)<|zo i) from f;refine gk (sl:=⟨sf,pv⟩) A c λv Z' H' Fs' G b r s=>?_;exact d _ Z' H' _ (At.set N k l b r)<|s.mono (λ_ z=>z) λa g=>bz g
theorem D5 {x:X}{e:E}(D:bP)(σ:L2.St)(H:Hp)(h:wS K Wx sf io C (.exp x e) D σ H):pq (wE K sf C e) D σ H:=by obtain⟨pv,Z,Fs,η,N,A,f⟩:=h;obtain⟨⟨w,η1⟩,c,d⟩:=a7<|show Fin K Wx ⟨sf,pv⟩ Z H (tot Fs) D (Fl.of η (evX C x e η) kNx) from f;exact gk (sl:=⟨sf,pv⟩) A c λv Z' H' Fs' G b r s=>d σ Z' H' Fs' b.bare<|s.mono (λ_ z=>z) λa g=>.inl g
theorem DY {e:E}(D:bP)(σ:L2.St)(H:Hp)(h:wS K Wx sf io C (.ret vs e) D σ H):Hv (wE K sf C e) D σ H:=by obtain⟨pv,Z,Fs,η,N,A,f⟩:=h;obtain⟨⟨w,η1⟩,b,c⟩:=a7<|show Fin K Wx ⟨sf,pv⟩ Z H (tot Fs) D (Fl.of η (evE C e<|M.share vs η) kRt) from f;exact gk (sl:=⟨sf,pv⟩) (x:=.l vs) A b λv Z' H' Fs' G a r s=>c v σ Z' H' Fs' G a r s
theorem Cq {x:X}{c:E}{a b:U S}(D:bP)(σ:L2.St)(H:Hp)(h:wS K Wx sf io C (.ite x c a b) D σ H):xp (wT K sf C c) (wSs K Wx sf io C a) (wSs K Wx sf io C b) D σ H:=by
 obtain⟨pv,Z,Fs,η,N,A,f⟩:=h;obtain⟨⟨k,η1⟩,g,e⟩:=a7<|show Fin K Wx ⟨sf,pv⟩ Z H (tot Fs) D (Fl.of η (evT C x c η)<|kIf (evSs C a)<|evSs C b) from f;refine Kg (sl:=⟨sf,pv⟩) A g λZ' H' Fs' d s=>?_;cases k with
 |true=>rw[QY rfl];exact⟨pv,Z',Fs',η1,N,d,Fin.step s e⟩
 |false=>rw[Q0 LA];exact⟨pv,Z',Fs',η1,N,d,Fin.step s e⟩
theorem j6 {m:Md}{d:U T}{v:V}(f:m≠.s)(r:Rep K Z H m (.lst d) v G):∃a c,v=.ref a/\c.length<=LIM/\G a/\H a=Y (.lst c)/\RepL K Z H m.kid d c (λb=>G b/\b≠a):=by obtain⟨a,c,e,l,q,p⟩:=r;rw[LstR.own f] at q;exact⟨a,c,e,l,q.1,q.2,p⟩
theorem pP {i:O}{a:QS}{ts':U T}{d:U V}{m':Md}(hm:m'≠.s)(A:At K ⟨sf,pv⟩ σ Z H Fs η G){w0:W}(hi:rd η i=Y w0)(ha:Fs i a)(hx:∀j,sf i=Y j->σ[j]?=Y (Y<|.ref a))(hl:d.length<=LIM)(hpv:∀u,pv i=Y u->V.ref a=u)
  (hg:∀b,G' b->(Fs i b\/G b)/\b≠a) (hR:∀b,R b->(Fs i b\/G b)/\b≠a) (hRG:∀b,R b->¬G' b) (p:RepL K (λb=>Z b\/((Fs i b\/G b)/\b≠a/\¬G' b/\¬R b)) H m'.kid ts' d G') {Q:Hp->Prop}
  (k:∀Z' Fs',At K ⟨sf,pv⟩ σ Z' (upd H a<|.lst d) Fs' (M.put η i (m',.lst ts')) R->Step Z H (λb=>tot Fs b\/G b) Z' (upd H a<|.lst d) (λb=>tot Fs' b\/R b)->(∀{m t v},Rep K (λb=>Z b\/((Fs i b\/G b)/\b≠a/\¬G' b/\¬R b)) H m t v R->Rep K Z' (upd H a<|.lst d) m t v R)->Q (upd H a<|.lst d)):Q (upd H a<|.lst d):=by
 have x:tot Fs a:=⟨i,ha⟩;obtain⟨nza,ys,hya⟩:=A.gd.own a x;have nGa:¬G a:=λq=>A.dis a q x
 have w:∀b,(Z b\/((Fs i b\/G b)/\b≠a/\¬G' b/\¬R b))->b≠a:=λb h z=>by
  subst z;rcases h with h|h
  .exact nza h
  .exact h.2.1 rfl
 have keep:∀b o,H b=Y o->b≠a->upd H a (.lst d) b=Y o:=λb o e f=>by rw[ag f];exact e
 have neT:∀b xs,H b=Y (.tup xs)->b≠a:=λb xs e z=>by rw[z,hya] at e;exact m8 e.symm
 have neF:∀b o u,H b=Y (.frz o u)->b≠a:=λb o u e z=>by rw[z,hya] at e;exact kD e.symm
 have stay:∀{c:Fp},(∀b,c b->b≠a)->Stay c H (upd H a (.lst d)):=λ{c} hY=>⟨λb o f e=>keep b o e<|hY b f,λb xs e=>by
  rcases e with e|⟨u,e⟩
  .exact .inl (keep b _ e<|neT b xs e)
  .exact .inr ⟨u,keep b _ e<|neF b u _ e⟩,λb o u e=>keep b _ e<|neF b o u e⟩
 have al:∀b,H b≠J->upd H a (.lst d) b≠none:=λb h=>by
  by_cases e:b=a
  .rw[e,af];simp
  .rw[ag e];exact h
 have N:∀b,(Z b\/((Fs i b\/G b)/\b≠a/\¬G' b/\¬R b))->H b≠none:=λb h=>by
  rcases h with h|⟨h|h,_⟩
  .exact A.gd.zal b h
  .obtain⟨_,P,e⟩:=A.gd.own b ⟨i,h⟩;rw[e];simp
  .obtain⟨_,P,e⟩:=A.own b h;rw[e];simp
 have listAt:∀b,(tot Fs b\/G b)->∃P:OO,upd H a (.lst d) b=Y P.ho:=λb h=>by
  by_cases e:b=a
  .exact⟨.inl d,by rw[e,af];rfl⟩
  .rcases h with h | h
   .obtain⟨_,P,q⟩:=A.gd.own b h;exact⟨P,by rw[ag e];exact q⟩
   .obtain⟨_,P,q⟩:=A.own b h;exact⟨P,by rw[ag e];exact q⟩
 have nZ:∀b,(Fs i b\/G b)->¬Z b:=λb h z=>h.elim (λy=>(A.gd.own b ⟨i,y⟩).1 z) λy=>(A.own b y).1 z
 have de:∀b,tot (lN Fs i λb=>G' b\/b=a) b->(∃j,j≠i/\Fs j b)\/G' b\/b=a:=λb h=>by
  obtain⟨j,h|h⟩:=h
  .exact .inr h.2
  .exact .inl ⟨j,h⟩
 refine k (λb=>Z b\/((Fs i b\/G b)/\b≠a/\¬G' b/\¬R b)) (lN Fs i λb=>G' b\/b=a) ⟨⟨λb h=>⟨λz=>?_,?_⟩,λj l b g hk=>?_,λb h=>al b<|N b h⟩,λl m t e=>?_,λb h=>⟨λz=>?_,listAt b<|(hR b h).1.imp (λz=>⟨i,z⟩) id⟩,λb h q=>?_,A.lk,A.ln⟩ ⟨λb o e n=>keep b o e λz=>n<|.inl<|z ▸ x,λb h=>.inl h,λb h=>h.imp id λq=>.inl<|q.1.imp (λz=>⟨i,z⟩) id,λb h=>?_,al,λ_ b h=>al b<|N b h⟩ λ{m t v} r=>r.keep (stay w) (λ_ z=>z) λb o f e=>keep b o e (hR b f).2
 .rcases de b h with ⟨j,g,q⟩ | q | q
  .rcases z with z | ⟨z | z,_⟩
   .exact(A.gd.own b ⟨j,q⟩).1 z
   .exact g (A.gd.dis j i b q z)
   .exact A.dis b z ⟨j,q⟩
  .rcases z with z | z
   .exact nZ b (hg b q).1 z
   .exact z.2.2.1 q
  .exact w b z q
 .rcases de b h with ⟨j,g,q⟩ | q | q
  .exact listAt b (.inl ⟨j,q⟩)
  .exact listAt b ((hg b q).1.imp (λz=>⟨i,z⟩) id)
  .exact⟨.inl d,by rw[q,af];rfl⟩
 .have key:∀ {j:O},(G' b\/b=a)->Fs j b->j=i:=fun {j} h q=>by
   rcases h with h|h
   .rcases (hg b h).1 with y | y
    .exact A.gd.dis j i b q y
    .exact QW ⟨j,q⟩ (A.dis b y)
   .rw[h] at q;exact A.gd.dis j i a q ha
  rcases g with⟨rfl,g⟩|⟨nj,g⟩
  .rcases hk with ⟨rfl,_⟩ | ⟨nk,hk⟩
   .rfl
   .exact QW (key g hk) nk
  .rcases hk with ⟨rfl,hk⟩ | ⟨nk,hk⟩
   .exact QW (key hk g) nj
   .exact A.gd.dis j l b g hk
 .rw [bB] at e;split at e
  .rename_i hc;obtain⟨rfl,_⟩:=hc;cases e;refine⟨.ref a,⟨a,d,rfl,hl,(LstR.own hm).mpr ⟨.inl ⟨rfl,.inr rfl⟩,af⟩,?_⟩,hx,hpv⟩;exact(p.keep (stay w) (λ_ z=>z) λb o f e=>keep b o e (hg b f).2).mono λb f=>⟨.inl ⟨rfl,.inl f⟩,(hg b f).2⟩
  .rename_i hc;have hl':l≠i:=λz=>hc ⟨z,dH hi⟩;obtain⟨v,r,h⟩:=A.env l m t e;have nea:∀b,Fs l b->b≠a:=λb q z=>hl'<|A.gd.dis l i a (z ▸ q) ha;exact⟨v,((r.keep (stay λb f z=>nza<|z ▸ f) (λ_ z=>z) λb o f e=>keep b o e<|nea b f).zmono λb h=>.inl h).mono λb h=>.inr ⟨hl',h⟩,h⟩
 .rcases z with z | z
  .exact nZ b (hR b h).1 z
  .exact z.2.2.2 h
 .rcases de b q with ⟨j,g,y⟩ | y | y
  .rcases (hR b h).1 with z | z
   .exact g (A.gd.dis j i b y z)
   .exact A.dis b z ⟨j,y⟩
  .exact hRG b h y
  .exact(hR b h).2 y
 .rcases h with h | h
  .rcases de b h with ⟨j,_,q⟩ | q | q
   .exact .inl (.inl ⟨j,q⟩)
   .exact .inl ((hg b q).1.imp (λz=>⟨i,z⟩) id)
   .exact .inl (.inl<|q ▸ x)
  .exact .inl ((hR b h).1.imp (λz=>⟨i,z⟩) id)
theorem change {i:O}{a:QS}{ts':U T}{d:U V}{m':Md}(n:m'≠.s)(A:At K ⟨sf,pv⟩ σ Z H Fs η G){o:W}(l:rd η i=Y o)(f:Fs i a)(hx:∀j,sf i=Y j->σ[j]?=Y (Y<|.ref a))(m:d.length<=LIM)(e:∀u,pv i=Y u->V.ref a=u)
  (g:∀b,G' b->(Fs i b\/G b)/\b≠a) (p:RepL K (λb=>Z b\/((Fs i b\/G b)/\b≠a/\¬G' b)) H m'.kid ts' d G') {Q:Hp->Prop}
  (k:∀Z' Fs',At K ⟨sf,pv⟩ σ Z' (upd H a<|.lst d) Fs' (M.put η i (m',.lst ts')) no->Step Z H (λb=>tot Fs b\/G b) Z' (upd H a<|.lst d) (tot Fs')->Q (upd H a<|.lst d)):Q (upd H a<|.lst d):=
 pP (R:=no) n A l f hx m e g (λ_ z=>z.elim) (λ_ z=>z.elim) (p.zmono λb h=>h.imp id λq=>⟨q.1,q.2.1,q.2.2,λz=>z⟩) λZ' Fs' c s _=>k Z' Fs' c<|s.mono (λ_ z=>z) λ_ z=>.inl z
end
section
variable {K:K3}{Wx:L2.St->VK}{sl:Cf}{sf sg:O->B O}{C:Call}{σ σ2:L2.St}{Z Z' Z1:Fp}{H H' H1:Hp}{Fs Fs' Fs1:Fps}{η η' η1 ηb:Env}{G G' G1 R F F':Fp}{tg is vs ls io:U O}{pv val:O->B V}{D:bP}
theorem iR {o:B W}{u:Unit}(h:chkL o=.ok u):∃m a,o=Y (m,.lst a):=by
 cases o with
 |none=>cases h
 |some w=>
  obtain⟨m,t⟩:=w;cases t with
  |lst a=>exact⟨m,a,rfl⟩
  |_=>cases h
theorem At.listAt {i j:O}{m:Md}{e:U T}(d:sf i=Y j)(A:At K ⟨sf,pv⟩ σ Z H Fs η G)(h:rd η i=Y (m,.lst e)):∃a b,σ[j]?=Y (Y<|.ref a)/\H a=Y (.lst b):=by obtain⟨v,r,c,_⟩:=A.env i m _ h;obtain⟨a,b,rfl,hx,_⟩:=bH r;exact⟨a,b,c j d,hx⟩
theorem At.ourList {i j:O}{a:QS}{m:Md}{d:U T}(o:sf i=Y j)(n:m≠.s)(f:σ[j]?=Y (Y<|.ref a))(A:At K ⟨sf,pv⟩ σ Z H Fs η G)(h:rd η i=Y (m,.lst d)):
  ∃c,c.length<=LIM/\Fs i a/\H a=Y (.lst c)/\RepL K Z H m.kid d c (λb=>Fs i b/\b≠a)/\(∀u,pv i=Y u->V.ref a=u):=by
 obtain⟨v,r,k,hp⟩:=A.env i m _ h;have e:=k j o;rw[f] at e;cases e;obtain⟨b,c,e,l,g,hx,p⟩:=j6 n r;cases e;exact⟨c,l,g,hx,p,hp⟩
theorem uN {u w r:W}(h:iV u w=Y r):∃m a,u=(m,.lst a)/\m≠.s/\a.length<LIM/\r=((m.kid.meet<|lf w.1 w.2).up,.lst<|a++[w.2]):=by
 obtain⟨m,t⟩:=u;obtain⟨n,c⟩:=w;cases m with
 |s=>cases h
 | d =>
  cases t with
  |lst a=>
   have b:(if a.length<LIM then Y ((((Md.d.kid.meet (lf n c)).up,.lst (a++[c])):W)) else J)=Y r:=h;split at b
   .rename_i e;cases b;exact⟨.d,a,rfl,by simp,e,rfl⟩
   .cases b
  |_=>cases h
 | o m =>
  cases t with
  |lst a=>
   have b:(if a.length<LIM then Y (((((Md.o m).kid.meet (lf n c)).up,.lst (a++[c])):W)) else J)=Y r:=h;split at b
   .rename_i e;cases b;exact⟨.o m,a,rfl,by simp,e,rfl⟩
   .cases b
  |_=>cases h
theorem uO {u w r:W}(h:iY u w=Y r):∃m a n b,u=(m,.lst a)/\w=(n,.lst b)/\m≠.s/\a.length+b.length<=LIM/\r=((m.kid.meet n.kid).up,.lst<|a++b):=by
 obtain⟨m,t⟩:=u;obtain⟨n,f⟩:=w;cases m with
 |s=>cases h
 | d =>
  cases t with
  | lst a =>
   cases f with
   |lst b=>
    have c:(if a.length+b.length<=LIM then Y ((((Md.d.kid.meet n.kid).up,.lst (a++b)):W)) else J)=Y r:=h;split at c
    .rename_i e;cases c;exact⟨.d,a,n,b,rfl,rfl,by simp,e,rfl⟩
    .cases c
   |_=>cases h
  |_=>cases h
 | o m =>
  cases t with
  | lst a =>
   cases f with
   |lst b=>
    have c:(if a.length+b.length<=LIM then Y (((((Md.o m).kid.meet n.kid).up,.lst (a++b)):W)) else J)=Y r:=h;split at c
    .rename_i e;cases c;exact⟨.o m,a,n,b,rfl,rfl,by simp,e,rfl⟩
    .cases c
   |_=>cases h
  |_=>cases h
theorem wq {u k w r:W}(h:de u k w=Y r):∃m a n j q,u=(m,.lst a)/\k=(n,.int j)/\m≠.s/\M.ixN a.length j=Y q/\r=((m.kid.meet<|lf w.1 w.2).up,.lst<|a.set q w.2):=by
 obtain⟨m,t⟩:=u;obtain⟨n,c⟩:=k;cases m<;>first|(cases h;done)|(cases t<;>first|(cases h;done)|(cases c<;>try (cases h;done)))
 all_goals
  rename_i a j;have b:(M.ixN a.length j).map _=Y r:=h;cases e:M.ixN a.length j with
  |none=>rw[e] at b;cases b
  |some q=>rw[e] at b;cases b;exact⟨_,a,n,j,q,rfl,rfl,by simp,e,rfl⟩
theorem tG {a:QS}{m:Md}{g:U T}{i:U V}{w:W}{y:V}{c:Fp}(k:∀b,c b->b≠a)(l:∀b,G b->b≠a)(d:∀b,c b->¬G b)(p:RepL K Z H m g i c)(r:Rep K Z H w.1 w.2 y G):
  ∃G',(∀b,G' b->(c b\/G b)/\b≠a)/\RepL K (λb=>Z b\/((c b\/G b)/\b≠a/\¬G' b)) H (m.meet<|lf w.1 w.2) (g++[w.2]) (i++[y]) G':=by
 obtain⟨G',e,j⟩:=gP (G:=λb=>c b\/G b) (λ_ z=>.inl z) (λ_ z=>.inr z) d p<|RepL.one r.lf;have f:∀b,(c b\/G b)->b≠a:=λb h=>h.elim (k b)<|l b;exact⟨G',λb h=>⟨e b h,f b<|e b h⟩,j.zmono λb h=>h.imp id λq=>⟨q.1,f b q.1,q.2⟩⟩
theorem D9 {x:X}{i j:O}{e:E}(l:sf i=Y j)(D:bP)(σ:L2.St)(H:Hp)(h:wS K Wx sf io C (.app x i e) D σ H):
  ∃a g,σ[j]?=Y (Y<|.ref a)/\H a=Y (.lst g)/\wE K sf C e σ H λy H1=>∃g,H1 a=Y (.lst g)/\g.length<sizeLine/\D.nx σ (upd H1 a<|.lst<|g++[y]):=by
 obtain⟨pv,Z,Fs,η,N,A,f⟩:=h;obtain⟨u,h0,h1⟩:=a7<|show Fin K Wx ⟨sf,pv⟩ Z H (tot Fs) D (Fl.of η (chkL<|rd η i)<|mI (evX C x e) η<|we i) from f;obtain⟨m0,t0,o⟩:=iR h0;obtain⟨a,P,t,ha⟩:=A.listAt l o;obtain⟨⟨w,η1⟩,h2,h3⟩:=a7<|show Fin K Wx ⟨sf,pv⟩ Z H (tot Fs) D (Fl.of η (evX C x e η)<|we i) from h1;obtain⟨η2,d,h5⟩:=eA<|show Fin K Wx ⟨sf,pv⟩ Z H (tot Fs) D (nxO η1<|((rd η1 i).bind λu=>iV u w).map λu=>M.put η1 i u) from h3;refine⟨a,P,t,ha,gk (sl:=⟨sf,pv⟩) A h2 λy Z' H' Fs' G c r s=>?_⟩;cases e1:rd η1 i with
 |none=>rw[e1] at d;cases d
 | some u1 =>
  rw[e1] at d;cases e2:iV u1 w with
  |none=>rw[show(Y u1).bind (λu=>iV u w)=iV u1 w from rfl,e2] at d;cases d
  |some r1=>rw[show(Y u1).bind (λu=>iV u w)=iV u1 w from rfl,e2] at d;cases d;obtain⟨m,ts,rfl,hm,hlen,rfl⟩:=uN e2;obtain⟨g,hl,hf,hx,p,v⟩:=c.ourList l hm t e1;have e3:=p.length;obtain⟨G',Q,g2⟩:=tG (a:=a) (λb h=>h.2) (λb h z=>c.dis b h ⟨i,z ▸ hf⟩) (λb h q=>c.dis b q ⟨i,h.1⟩) p r;refine⟨g,hx,iU hl,?_⟩;refine change (K:=K) (m':=(m.kid.meet<|lf w.1 w.2).up) (dm _) c e1 hf (λk hk=>by rw[show sf i=Y k from hk] at l;cases l;exact t) (by rw[K8,e3,Mi];lia) v (λb h=>⟨(Q b h).1.imp Nj id,(Q b h).2⟩) (ts':=ts++[w.2]) (by rw[eW];exact g2.zmono λb h=>h.imp id λq=>⟨q.1.imp Nj id,q.2⟩) λZ2 n B2 s2=>h5 σ Z2 _ n B2<|s.trans s2
theorem CL {x:X}{i j:O}{e:E}(o:sf i=Y j)(D:bP)(σ:L2.St)(H:Hp)(h:wS K Wx sf io C (.ext x i e) D σ H):
  ∃a g,σ[j]?=Y (Y<|.ref a)/\H a=Y (.lst g)/\wE K sf C e σ H λy H1=>∃b g l,y=.ref b/\H1 a=Y (.lst g)/\H1 b=Y (.lst l)/\g.length+l.length<=sizeLine/\D.nx σ (upd H1 a<|.lst<|g++l):=by
 obtain⟨pv,Z,Fs,η,N,A,f⟩:=h;obtain⟨u,h0,h1⟩:=a7<|show Fin K Wx ⟨sf,pv⟩ Z H (tot Fs) D (Fl.of η (chkL<|rd η i)<|mI (evX C x e) η<|wO i) from f;obtain⟨m0,t0,v⟩:=iR h0;obtain⟨a,xs0,P,ha⟩:=A.listAt o v;obtain⟨⟨w,η1⟩,h2,h3⟩:=a7<|show Fin K Wx ⟨sf,pv⟩ Z H (tot Fs) D (Fl.of η (evX C x e η)<|wO i) from h1;obtain⟨η2,d,h5⟩:=eA<|show Fin K Wx ⟨sf,pv⟩ Z H (tot Fs) D (nxO η1<|((rd η1 i).bind λu=>iY u w).map λu=>M.put η1 i u) from h3;refine⟨a,xs0,P,ha,gk (sl:=⟨sf,pv⟩) A h2 λy Z' H' Fs' G c r s=>?_⟩;cases e1:rd η1 i with
 |none=>rw[e1] at d;cases d
 | some u1 =>
  rw[e1] at d;cases e2:iY u1 w with
  |none=>rw[show(Y u1).bind (λu=>iY u w)=iY u1 w from rfl,e2] at d;cases d
  |some r1=>rw[show(Y u1).bind (λu=>iY u w)=iY u1 w from rfl,e2] at d;cases d;obtain⟨m,ts,n,us,rfl,rfl,hm,hlen,rfl⟩:=uO e2;obtain⟨g,hl,hf,hx,p,Q⟩:=c.ourList o hm P e1;obtain⟨b,l,rfl,hb,hl2,p2⟩:=bH r;have e3:=p.length;have e4:=p2.length;have hG:∀b,G b->b≠a:=λb h z=>c.dis b h ⟨i,z ▸ hf⟩;obtain⟨G',g1,g2⟩:=gP (G:=λb=>(Fs' i b/\b≠a)\/G b) (λ_ z=>.inl z) (λ_ z=>.inr z) (λb h q=>c.dis b q ⟨i,h.1⟩) p p2;have ne:∀b,((Fs' i b/\b≠a)\/G b)->b≠a:=λb h=>h.elim And.right<|hG b;refine⟨b,g,l,rfl,hx,hb,LIM_le<|by lia,?_⟩;refine change (K:=K) (m':=(m.kid.meet n.kid).up) (dm _) c e1 hf (λk hk=>by rw[show sf i=Y k from hk] at o;cases o;exact P) (by rw[K8];lia) Q (λb h=>⟨(g1 b h).imp Nj id,ne b<|g1 b h⟩) (ts':=ts++us) (by rw[eW];exact g2.zmono λb h=>h.imp id λq=>⟨q.1.imp Nj id,ne b q.1,q.2⟩) λZ2 t B2 s2=>h5 σ Z2 _ t B2<|s.trans s2
theorem RepL.setAt:∀{j:U T} {f:U V} {A0 G0 G:Fp} {q:O} {t:T} {y:V} {m:Md},(∀b,A0 b->G b)->(∀b,G0 b->G b)->(∀b,A0 b->¬G0 b)->RepL K Z H m j f A0->Rep K Z H m t y G0->RepL K Z H m (j.set q t) (f.set q y) G
|[],f,A0,G0,G,q,t,y,m,i,k,d,h,r=>by rw[show f=[] from h];exact rfl
|u::j,f,A0,G0,G,0,t,y,m,i,k,d,⟨x,o,A,c,e,l,g,hd,p,q⟩,r=>by rw[e];exact⟨y,o,G0,c,rfl,k,λa h=>i a<|g a h,λa h q=>d a (g a q) h,r,q⟩
|u::j,f,A0,G0,G,n+1,t,y,m,i,k,d,⟨x,o,A,c,e,l,g,hd,p,q⟩,r=>by rw[e];refine⟨x,o.set n y,A,λa=>c a\/G0 a,rfl,λa h=>i a<|l a h,λa h=>h.elim (λz=>i a<|g a z)<|k a,λa h q=>q.elim (hd a h)<|d a<|l a h,p,?_⟩;exact RepL.setAt (λ_ z=>.inl z) (λ_ z=>.inr z) (λb h=>d b<|g b h) q r
theorem ik (vs:U O)(η:Env):Nn η (M.share vs η):=λi e=>by
 rw[gR];split
 .rw[e];rfl
 .exact e
theorem nU {x:X}{e:E}{w:W}(h:evX C x e η=.ok (w,η')):Nn η η':=by
 cases x with
 |q vs ls=>
  obtain⟨⟨u,b⟩,c,a⟩:=aa<|show(evE C e<|pick vs ls η).bind (kX vs η)=_ from h;cases a;show Nn η<|after (M.lf u.1 u.2) vs η;cases f:M.lf u.1 u.2 with
  |d=>intro i e;exact e
  |s=>exact ik vs η
  |o m=>exact ik vs η
 |l vs=>exact(ik vs η).trans<|aG e h
theorem yr {x:X}{i j:O}{k e:E}(t:sf i=Y j)(D:bP)(σ:L2.St)(H:Hp)(h:wS K Wx sf io C (.setI x i k e) D σ H):
  wE K sf C e σ H λy H1=>bJ j σ H1 λo H1=>wE K sf C k σ H1 λz H2=>∃a v n q,o=.ref a/\z=.int n/\H2 a=Y (.lst v)/\L2.ixN v.length n=Y q/\D.nx σ (upd H2 a<|.lst<|v.set q y):=by
 obtain⟨pv,Z,Fs,η,N,A,f⟩:=h;obtain⟨⟨w,η1⟩,h2,h3⟩:=a7<|show Fin K Wx ⟨sf,pv⟩ Z H (tot Fs) D (Fl.of η (evX C x e η)<|zx i (evX C x k) η) from f;obtain⟨⟨kw,d⟩,h6,h7⟩:=a7<|show Fin K Wx ⟨sf,pv⟩ Z H (tot Fs) D (Fl.of η (evX C x k η1)<|ug i w) from h3;obtain⟨η3,l,h5⟩:=eA<|show Fin K Wx ⟨sf,pv⟩ Z H (tot Fs) D (nxO d<|((rd d i).bind λu=>de u kw w).map λu=>M.put d i u) from h7;refine gk (sl:=⟨sf,pv⟩) A h2 λy Z' H' Fs' G c r s=>?_;cases e1:rd d i with
 |none=>rw[e1] at l;cases l
 | some u1 =>
  rw[e1] at l;cases e2:de u1 kw w with
  |none=>rw[show(Y u1).bind (λu=>de u kw w)=de u1 kw w from rfl,e2] at l;cases l
  | some r1 =>
   rw[show(Y u1).bind (λu=>de u kw w)=de u1 kw w from rfl,e2] at l;cases l;obtain⟨m,ts,n,jj,q,rfl,rfl,hm,hq,rfl⟩:=wq e2;have n1:rd η1 i≠none:=λz=>by rw[nU h6 i z] at e1;cases e1
   cases e3:rd η1 i with
   |none=>exact QW e3 n1
   |some u3=>
    obtain⟨v3,r3,l3,p3⟩:=c.env i u3.1 u3.2 e3;refine⟨v3,l3 j t,gk (sl:=⟨sf,pv⟩) c.bare h6 λz Z2 H2 Fs2 G2 B2 rz s2=>?_⟩;obtain⟨B3,s3,d3⟩:=c.frame B2 s2;have r':=r.frame c.gd.own s2 c.dis;have P:=B3.mono (G':=G) λ_ z=>.inl z;obtain⟨v4,r4,l4,p4⟩:=P.env i m _ e1;have hv:v3=v4:=by have e5:=l3 j t;have e6:=l4 j t;rw[e5] at e6;cases e6;rfl
    subst hv;obtain⟨a,v,rfl,hl,hf,hx,p⟩:=j6 hm r4;have e7:=p.length;obtain⟨A1,Q,a2⟩:=RepL.weak (dB m.kid<|lf w.1 w.2).1 p;obtain⟨A2,b1,b2⟩:=Rep.weak (dB m.kid<|lf w.1 w.2).2 r'.lf;have g:∀b,(Fs2 i b/\b≠a)->¬G b:=λb h q=>P.dis b q ⟨i,h.1⟩;have hG:∀b,G b->b≠a:=λb h z=>P.dis b h ⟨i,z ▸ hf⟩;refine⟨a,v,jj,q,rfl,show z=_ from rz,hx,by rw[e7];exact hq,?_⟩;refine change (K:=K) (G':=λb=>A1 b\/A2 b) (m':=(m.kid.meet<|lf w.1 w.2).up) (dm _) P e1 hf (λk hk=>by rw[show sf i=Y k from hk] at t;cases t;exact l3 _ hk) (by rw[Mn];exact hl) p4 (λb h=>h.elim (λz=>⟨.inl (Q b z).1,(Q b z).2⟩) λz=>⟨.inr<|b1 b z,hG b<|b1 b z⟩) (ts':=ts.set q w.2) ?_ λZ5 Fs5 B5 s5=>h5 σ Z5 _ Fs5 B5<|(s.trans<|s3.mono (λ_ z=>z) λb h=>h.imp id .inl).trans s5;rw[eW];refine RepL.setAt (A0:=A1) (G0:=A2) (λ_ z=>.inl z) (λ_ z=>.inr z) (λb h q=>g b (Q b h)<|b1 b q) (a2.zmono λb h=>?_)<|b2.zmono λb h=>?_
    .exact h.imp id λq=>⟨.inl q.1.1,q.1.2,λz=>z.elim q.2 λz=>g b q.1<|b1 b z⟩
    .exact h.imp id λq=>⟨.inr q.1,hG b q.1,λz=>z.elim (λz=>g b (Q b z) q.1) q.2⟩
theorem sd {u:W}{g:U W}{r:W×W}(h:k7 u g=Y r):∃m a,u=(m,.lst a)/\m≠.s/\((g=[]/\∃t,a.getLast?=Y t/\r=((m.kid,t),(m,.lst a.dropLast)))\/(∃n t j,g=[(n,.int 0)]/\a=t::j/\r=((m.kid,t),(m,.lst j)))):=by
 obtain⟨m,t⟩:=u
 have i:∀m:Md,m≠.s->k7 (m,t) g=Y r->∃f a,(m,t)=(f,.lst a)/\f≠.s/\((g=[]/\∃t,a.getLast?=Y t/\r=((f.kid,t),(f,.lst a.dropLast)))\/(∃n t j,g=[(n,.int 0)]/\a=t::j/\r=((f.kid,t),(f,.lst j)))):=λm p h=>by
  unfold k7 at h;split at h
  .cases h
  .rename_i v c k b l;cases b;cases e:c.getLast? with
   |none=>rw[e] at h;cases h
   |some t=>rw[e] at h;cases h;exact⟨_,c,rfl,p,.inl ⟨rfl,t,e,rfl⟩⟩
  .rename_i v t1 c w k b l;cases b;cases h;exact⟨_,_,rfl,p,.inr ⟨_,_,_,rfl,rfl,rfl⟩⟩
  .cases h
 cases m with
 |s=>cases h
 |d=>exact i .d (by simp) h
 |o m=>exact i (.o m) (by simp) h
theorem zN {i j:O}{b:E}(hs:sf i=Y j)(hb:b=.cst (.int 0))(σ:L2.St)(H:Hp)(Q:VK)(h:wE K sf C (.pop i [b]) σ H Q):∃a o y,σ[j]?=Y (Y<|.ref a)/\H a=Y (.lst (y::o))/\Q y (upd H a<|.lst o):=by
 subst hb;obtain⟨pv,Z,Fs,η,w,η',A,ev,k⟩:=h;obtain⟨_,_,h0⟩:=aa<|show(chkL<|rd η i).bind (l9 (evL C [.cst<|.int 0]) η<|qZ i)=_ from ev;obtain⟨r,h3,h4⟩:=aa<|show(ofO<|(rd η i).bind λw=>k7 w [(.d,.int 0)]).bind (λr=>.ok (r.1,M.put η i r.2))=_ from h0;cases h4;have g:=cO h3;cases e1:rd η i with
 |none=>rw[e1] at g;cases g
 | some u =>
  rw[e1] at g;obtain⟨m,ts,rfl,hm,⟨e,_⟩|⟨n,t,us,_,rfl,rfl⟩⟩:=sd<|show k7 u [(.d,.int 0)]=Y r from g
  .cases e
  .obtain ⟨v,r4,l4,p4⟩:=A.env i m _ e1;obtain⟨a,o,rfl,hl,hf,hx,p⟩:=j6 hm r4;obtain⟨y,f,x,G1,rfl,P,N,d,ry,p1⟩:=p;refine⟨a,f,y,l4 j hs,hx,?_⟩;have l:f.length<=LIM:=by rw[Lk] at hl;lia
   refine pP (K:=K) (G':=G1) (R:=x) (Q:=λH'=>Q y H') hm A e1 hf (λk hk=>l4 k hk) l p4 (λb h=>⟨.inl (N b h).1,(N b h).2⟩) (λb h=>⟨.inl (P b h).1,(P b h).2⟩) (λb h z=>d b h z) (ts':=us) (p1.zmono λb h=>.inl h) λZ' Fs' c s tr=>?_;exact k y Z' _ Fs' x c (tr<|ry.zmono λb h=>.inl h)<|s.mono (λb h=>h.elim id λz=>z.elim) λ_ z=>z
end
section
variable {K:K3}{Wx:L2.St->VK}{sl:Cf}{sf sg:O->B O}{C:Call}{σ σ2:L2.St}{Z Z' Z1:Fp}{H H' H1:Hp}{Fs Fs' Fs1:Fps}{η η' η1 ηb:Env}{G G' G1 R F F':Fp}{tg is vs ls io:U O}{pv val:O->B V}{D:bP}
def gF (K:K3):U O->TG
|[j]=>bO j
|[j,l]=>AI K 2<|gf (bO j)<|gf (bO l) zU
|_=>λ_ _ _ _=>Q6
theorem tF {fl:Fl}{g:Env->Fl}(f:Fin K Wx sl Z H F D<|Fl.turn fl g):(∃η',fl=.nx η'/\Fin K Wx sl Z H F D (g η'))\/(∃η',fl=.bk η'/\Fin K Wx sl Z H F D (.nx η'))\/(∃w η',fl=.rt w η'/\Fin K Wx sl Z H F D (.rt w η'))\/(∃t η',fl=.ex t η'/\Fin K Wx sl Z H F D (.ex t η')):=by
 cases fl with
 |nx η=>exact .inl ⟨η,rfl,f⟩
 |bk η=>exact .inr<|.inl ⟨η,rfl,f⟩
 |rt w η=>exact .inr<|.inr<|.inl ⟨w,η,rfl,f⟩
 |ex t η=>exact .inr<|.inr<|.inr ⟨t,η,rfl,f⟩
 |no=>exact f.elim
theorem rW {fl:Fl}{g:Env->Fl}{N:L2.St->Hp->Prop}(f:Fin K Wx sl Z H F D<|Fl.turn fl g)(b:∀η' a Z' H' Fs',fl=.nx η'->Fin K Wx sl Z H F D (g η')->At K sl a Z' H' Fs' η' no->Step Z H F Z' H' (tot Fs')->N a H'):Fin K Wx sl Z H F {D with nx:=N,ct:=N,bk:=D.nx} fl:=by
 rcases tF f with⟨η',rfl,f⟩|⟨η',rfl,f⟩|⟨w,η',rfl,f⟩|⟨t,η',rfl,f⟩
 .exactλa Z' H' Fs' A s=>b η' a Z' H' Fs' rfl f A s
 .exact f
 .exact f
 .exact f
theorem uY {n i:O}{c:It}{ts:U<|U W}{ws:U W}{o:U O}{x:V}{Q:L2.St->Hp->Prop}(hn:tg.length=n)(nd:tg.Nodup)(N:qp sf io pv)(f:∀t∈tg,t ∉ io)(d:tg.map sf=o.map Y)(hz:∀a,Z1 a->Z a)(st:Stay Z1 H1 H)(m:Yld K c Z1 H1 ts n)(A:At K ⟨sf,pv⟩ σ Z H Fs η no)
  (P:ts[i]?=Y ws) (hb:bf tg ws η=Y ηb) (y:c.yld i H x H') (k:∀σ2 s g,At K ⟨sf,pv⟩ σ2 Z s g ηb no->Step Z H (tot Fs) Z s (tot g)->Q σ2 s):gF K o x σ H' Q:=by
 have hi:i<ts.length:=(L8.mp P).1
 match n,m with
 | 1,m =>
  obtain⟨e0,w,e,r⟩:=m H i x H' st hi y;rw[e0];rw[P] at e;cases e
  match tg,hn,o,d with
  |[t],_,[j],d=>
   cases hb;have v:sf t=Y j:=by simpa using d
   exact k _ H _ (At.set N (f t<|by simp) v A<|r.zmono hz)<|(Step.refl _ _ _).mono (λ_ z=>z) λa h=>(bz h).elim id λz=>z.elim
  |[t],_,[],d=>simp at d
  |[t],_,_::_::_,d=>simp at d
 | 2,m =>
  obtain⟨p,y1,z1,u,w,rfl,sm,hq,e,r1,r2⟩:=m H i x H' st hi y;rw[P] at e;cases e
  match tg,hn,o,d with
  |[t,l],_,[j,j'],d=>
   cases hb;have v:sf t=Y j:=by simp at d;exact d.1
   have M:sf l=Y j':=by simp at d;exact d.2
   have s0:Step Z H no Z H' no:=gI sm;obtain⟨A1,s1⟩:=A.op b7 s0;have sn:Stay Z H H':=lY sm;have r1':Rep K Z H' u.1 u.2 y1 no:=(r1.zmono hz).keep sn (λ_ z=>z) λ_ _ z=>z.elim;have r2':Rep K Z H' w.1 w.2 z1 no:=(r2.zmono hz).keep sn (λ_ z=>z) λ_ _ z=>z.elim;have A2:=At.set N (f t<|by simp) v A1 r1';have A3:=At.set N (f l<|by simp) M A2 r2';refine⟨p,[y1,z1],rfl,hq,rfl,y1,[z1],rfl,z1,[],rfl,rfl,k _ _ _ A3<|s1.mono (λa h=>h.elim id λz=>z.elim) λa h=>?_⟩;rcases bz h with h|h
   .exact .inl ((bz h).elim id λz=>z.elim)
   .exact h.elim
  |[t,l],_,[],d=>simp at d
  |[t,l],_,[_],d=>simp at d
  |[t,l],_,_::_::_::_,d=>simp at d
theorem vM {n:O}{k:Ik}{u:U E}{js:U O}{e:U S}(hn:tg.length=n)(nd:tg.Nodup)(hio:∀t∈tg,t ∉ io)(hjs:tg.map sf=js.map Y)(D:bP)(σ:L2.St)(H:Hp)(h:wS K Wx sf io C (.forS vs ls k u tg e) D σ H):
  zg (wI K sf C n k u) (gF K js) (wSs K Wx sf io C e) D σ H:=by
 obtain⟨pv,Z,Fs,η,N,A,f⟩:=h;obtain⟨⟨ws,η2⟩,h1,h2⟩:=a7<|show Fin K Wx ⟨sf,pv⟩ Z H (tot Fs) D (Fl.of η (evL C u<|pick vs ls η)<|rZ vs k tg (evSs C e) η) from f;obtain⟨⟨g,η3⟩,h3,h4⟩:=a7<|show Fin K Wx ⟨sf,pv⟩ Z H (tot Fs) D (Fl.of η (ret (M.share vs η)<|bb k ws)<|pb tg<|evSs C e) from h2;obtain⟨ts',ht,e3⟩:=aI h3;have e4:g=ts':=Q8 LO e3;have e5:η3=M.share vs η:=Q8 Ni e3;subst e4 e5;have h4':Fin K Wx ⟨sf,pv⟩ Z H (tot Fs) D (dP tg (evSs C e) g (M.share vs η)):=h4;refine⟨pv,_,vn,_,ws,η2,g,A.quiet (vs:=vs) (ls:=ls),h1,ht,λd Z1 H1 Fs1 c s wk yl=>?_⟩;obtain⟨B1,s1⟩:=eS (G:=no) A b7 c.gd.zal (s.mono (F2:=λa=>tot Fs1 a\/no a) (λ_ z=>z) λa h=>h.elim id λz=>z.elim) λa h=>jO h;obtain⟨B2,s2⟩:=B1.share (vs:=vs);have s3:=(s2 s1).mono (F2:=tot<|gq Fs vs) (λ_ z=>z) λ_ z=>.inl z;have zz:∀a,Z1 a->((Z1 a/\¬dA Fs vs a)\/dA Fs vs a):=λa h=>(Qm<|dA Fs vs a).elim .inr λq=>.inl ⟨h,q⟩;refine⟨λi m v H'=>m=g.length-i/\i<=g.length/\∃p j l,At K ⟨sf,pv⟩ v p H' j l no/\Step (λa=>(Z1 a/\¬dA Fs vs a)\/dA Fs vs a) H1 (tot<|gq Fs vs) p H' (tot j)/\Fin K Wx ⟨sf,pv⟩ p H' (tot j) D (dP tg (evSs C e) (g.drop i) l),⟨g.length,by simp,LH _,_,_,_,B2,Step.refl _ _ _,h4'.step s3⟩,?_⟩;rintro i m σi w ⟨rfl,hi,p,j,l,Ai,si,P⟩;have st:Stay Z1 H1 w:=by have:=B2.gd.own.stay si;exact⟨λa o h=>this.1 a o<|zz a h,this.2⟩
 by_cases r:i<g.length
 .right;refine⟨wk.go w i st r,_,λv H' Q=>⟨g.length-(i+1),by lia,Q⟩,λx H' y=>?_⟩;have Q:g[i]?=Y g[i]:=by simp[r]
  rw[jy Q] at P;obtain⟨ηb,hb,fb⟩:=a7<|show Fin K Wx ⟨sf,pv⟩ p w (tot j) D (Fl.of l (ofO<|bf tg g[i] l) λη1=>Fl.turn (evSs C e η1)<|dP tg (evSs C e)<|g.drop<|i+1) from P;refine uY hn nd N hio hjs (λa h=>si.zm a<|zz a h) st yl Ai Q (cO hb) y λσ2 H2 Fs2 A2 t2=>?_;refine⟨pv,p,Fs2,ηb,N,A2,rW (fb.step t2) λη' v Z' H' Fs' _ f' A' s'=>⟨rfl,r,Z',Fs',η',A',(si.trans t2).trans s',f'.step s'⟩⟩
 .left;have hi':i=g.length:=by lia
  subst hi';rw[Py] at P;exact⟨wk.stop w _ st<|La _,P σi p w j Ai<|Step.refl _ _ _⟩
end
end MR

namespace MR
open PySem PySem.Spec PyProof.Rows L2 L3
section
variable {X:Cx}{sf sg:O->B O}{C:M.Call}{pos p2:Pos}{ea eb ec:Q1}{a b c:M.E}{h:QT}{n:O}
theorem av {e:Q1}{t i:TE}(h:PE X e t)(j:∀g H Q,i g H Q->t g H Q):PE X e i:=λf s g H Q d q=>h f s g H Q d<|j g H Q q
theorem i8 {e:Q1}{t i:TT}(h:PT X e t)(j:∀g H Q,i g H Q->t g H Q):PT X e i:=λf s g H Q d q=>h f s g H Q d<|j g H Q q
theorem BC {e:Q1}{t j:TT}(h:PW X e t)(k:∀i H Q,j i H Q->t i H Q):PW X e j:=λf g s i H Q d q=>h f g s i H Q d<|k i H Q q
theorem mj {g:U Q1}{t i:TA}(h:PA X g t)(j:∀f H Q,i f H Q->t f H Q):PA X g i:=λpos e s f H Q d q=>h pos e s f H Q d<|j f H Q q
theorem cT {s:Rf}{t g:TS}(h:PS X s t)(i:∀D f H,g D f H->t D f H):PS X s g:=λe s f H D d q=>h e s f H D d<|i D f H q
theorem jX {s:U Rf}{t g:TS}(h:PSs X s t)(i:∀D f H,g D f H->t D f H):PSs X s g:=λe s f H D d q=>h e s f H D d<|i D f H q
theorem lX {j e:Q1}{t i:TI}(h:PI X j e t)(k:∀g H R,i g H R->t g H R):PI X j e i:=λf s g H R d q=>h f s g H R d<|k g H R q
theorem Br {i e:Q1}{t j:TI}(h:PI X i e t)(k:PI X i e j):PI X i e (λg H R=>t g H R\/j g H R):=λf s g H R d q=>q.elim (h f s g H R d)<|k f s g H R d
abbrev SE (X:Cx)(sf:O->B O)(C:M.Call)(d:Q1)(e:M.E):Prop:=PE X d<|wE X.K sf C e
abbrev SB (X:Cx)(sf:O->B O)(C:M.Call)(d:Q1)(e:M.E):Prop:=PT X d<|wT X.K sf C e
abbrev SL (X:Cx)(sf:O->B O)(C:M.Call)(e:U Q1)(d:U M.E):Prop:=PA X e<|wL X.K sf C d
abbrev SA (X:Cx)(sf:O->B O)(C:M.Call)(e:U Q1)(d:U M.E):Prop:=PA X e<|wA X.K sf C d
abbrev SS (X:Cx)(sf:O->B O)(d:U O)(C:M.Call)(e:Rf)(s:M.S):Prop:=PS X e<|wS X.K (xw X) sf d C s
abbrev SSs (X:Cx)(sf:O->B O)(d:U O)(C:M.Call)(e:U Rf)(s:U M.S):Prop:=PSs X e<|wSs X.K (xw X) sf d C s
theorem sV (j:O){i:O}{x:Str}(f:sf i=Y j:=by rfl)(e:X.N[j]?=Y x:=by rfl)(g:Vis X.env.scope x:=by first|exact Lh rfl|exact Ld (Lh rfl)|exact Ld<|Ld rfl)(hd:(x==("__debug__":Str))=false:=by decide)
  (d:(x==("__classdict__":Str))=false:=by decide):SE X sf C (.Name x pos) (.var i):=av (bM e g hd d)<|B8 f
theorem sM (j:O){i:O}{x:Str}(f:sf i=Y j:=by rfl)(e:X.N[j]?=Y x:=by rfl)(g:Vis X.env.scope x:=by first|exact Lh rfl|exact Ld (Lh rfl)|exact Ld<|Ld rfl)(hd:(x==("__debug__":Str))=false:=by decide)
  (d:(x==("__classdict__":Str))=false:=by decide):SE X sf C (.Name x pos) (.mv i):=av (bM e g hd d)<|EE (λ_=>rfl) f
theorem sI {i:I}{k:O}:SE X sf C (.Constant (.int i) k pos) (.cst<|.int i):=av kg<|ia λ{_ _}=>rfl
theorem sO {i:QT}{k:O}:SE X sf C (.Constant (.bool i) k pos) (.cst<|.bl i):=av Bd<|ia λ{_ _}=>rfl
theorem sN {k:O}:SE X sf C (.Constant .none k pos) (.cst .non):=av EA<|ia λ{_ _}=>rfl
theorem oK (s:Q4)(f:s.length<=1000):M.sOk (Str.ofString s)=true:=by
 unfold M.sOk;rw[Str.ofString_eq_toList,Li];refine⟨?_,QV ?_⟩
 .rw [OH];intro x hx;rw[List.mem_toArray,LR] at hx;obtain⟨c,_,rfl⟩:=hx;refine QV ?_;have:=c.valid;have d:c.toNat<0x110000:=by have e:=c.valid;unfold UInt32.isValidChar Nat.isValidChar at e;show c.val.toNat<_;lia
  exact d
 .rw [Lq,K9,Qu];exact Lf f<|by decide
theorem sS {s:Q4}{k:O}(d:s.length<=1000:=by decide):SE X sf C (.Constant (.str<|Str.ofString s) k pos) (.cst<|.str<|Str.ofString s):=av wz<|ia λ{_ _}=>⟨rfl,oK s d⟩
theorem sl0:SL X sf C [] []:=mj a6 Ed
theorem slc {d:U Q1}{bs:U M.E}(e:SE X sf C ea a)(f:SL X sf C d bs)(g:K7 (ea::d) X.env=(K0,Q9 ea X.env)::K7 d X.env:=by rfl):SL X sf C (ea::d) (a::bs):=mj (aE e f g) xF
theorem sT {d:U Q1}{bs:U M.E}{f:O}(h:SL X sf C d bs)(e:bs.length<=M.LIM:=by decide):SE X sf C (.Tuple d f pos) (.tup bs):=av (mE h)<|C7 e
theorem sLs {d:U Q1}{bs:U M.E}(e:SL X sf C d bs)(f:bs.length<=M.LIM:=by decide):SE X sf C (.List d pos) (.lst h bs):=av (uU e)<|Eu f
theorem sW {m:M.Md}(d:SE X sf C ea a):SE X sf C ea (.wk m a):=av d H9
theorem eJ (l:SE X sf C ea a)(o:SE X sf C eb b):SE X sf C (.BinOp ea .Add eb pos) (.op .add h [a,b]):=
 av (eM (op_add.or<|op_add_str.or<|op_cat.or pB) l o) (aK (yh (Bq X.K) λ{Z H G Q a b u w z} g i j d t r k=>by
  obtain⟨x,e,f⟩:=r;refine⟨a,b,u,w,rfl,rfl,g,i,j,LIM_le d,λv y same p=>fB (m:=.s) t e ?_ f k same p⟩;rw[K8];exact d))
theorem qf (d:SE X sf C ea a)(e:SE X sf C eb b):SE X sf C (.BinOp ea .Sub eb pos) (.op .sub h [a,b]):=av (eM DF d e)<|aK AD
theorem uE (d:SE X sf C ea a)(e:SE X sf C eb b):SE X sf C (.BinOp ea .Mult eb pos) (.op .mul h [a,b]):=av (eM (op_mul.or Ej) d e)<|aK AS
theorem J5 (d:SE X sf C ea a)(e:SE X sf C eb b):SE X sf C (.BinOp ea .Mod eb pos) (.op .mod h [a,b]):=av (eM E5 d e)<|aK zW
theorem C5 (d:SE X sf C ea a)(e:SE X sf C eb b):SE X sf C (.BinOp ea .Pow eb pos) (.op .pow h [a,b]):=av (eM Es d e)<|aK yp
theorem sIx (d:SE X sf C ea a)(e:SE X sf C eb b)(f:fI eb:=by intro _ _;rfl):SE X sf C (.Subscript ea eb pos) (.op .ix h [a,b]):=av (vH (ix_any.or Co) d e f)<|aK Cm
mutual
def th:M.T->Th
|.non=>.non | .bl b=>.bl b | .int i=>.int i | .str x=>.str x | .tup ts=>.tup (ths ts) | .lst ts=>.lst (ths ts) | .dct _ _=>.non | .ins _ _ _=>.non | .obj _ _ _=>.non | .dtt _ _=>.non | .scr _=>.non | .gone=>.non
def ths:U M.T->U Th
|[]=>[]
|t::ts=>th t::ths ts
end
mutual
theorem pf {K:K3}{Z:Fp}{H:Hp}:∀{t:M.T} {m:M.Md} {v:V} {G:Fp} {n:O},M.dp t<=n->n<=64->Rep K Z H m t v G->Has K H (th t) v/\(toD<|th t).canLay0=K1/\(toD<|th t).depth<=n
|.non,_,_,_,_,_,_,r=>⟨r,rfl,LH _⟩
|.bl _,_,_,_,_,_,_,r=>⟨r,rfl,LH _⟩
|.int _,_,_,_,_,_,_,r=>⟨r,rfl,LH _⟩
|.str x,_,_,_,_,_,_,r=>⟨r.1,by have h:=r.2;unfold M.sOk at h;rw[Li] at h;exact h.1,LH _⟩
| .tup ts,m,v,G,n,hd,hn,⟨a,xs,e,q,l,r⟩=>by
 have hd':M.dps ts+1<=n:=hd
 match n,hd' with
 |n+1,hd'=>obtain⟨h1,h2,h3⟩:=iB (n:=n) (by lia) (by lia) r;exact⟨⟨a,xs,e,q,h1⟩,h2,NH h3⟩
| .lst ts,m,v,G,n,hd,hn,⟨a,xs,e,l,q,r⟩=>by
 have hd':M.dps ts+1<=n:=hd
 match n,hd' with
 |n+1,hd'=>obtain⟨h1,h2,h3⟩:=iB (n:=n) (by lia) (by lia) r;exact⟨⟨a,xs,e,by cases m<;>exact q.2,h1⟩,h2,NH h3⟩
|.dct _ _,_,_,_,_,hd,hn,_=>by have:1000<=64:=Lf hd hn;lia
|.dtt _ _,_,_,_,_,hd,hn,_=>by have:1000<=64:=Lf hd hn;lia
|.ins _ _ _,_,_,_,_,hd,hn,_=>by have:1000<=64:=Lf hd hn;lia
|.obj _ _ _,_,_,_,_,hd,hn,_=>by have:1000<=64:=Lf hd hn;lia
|.gone,_,_,_,_,hd,hn,_=>by have:1000<=64:=Lf hd hn;lia
|.scr _,_,_,_,_,hd,hn,_=>by have:1000<=64:=Lf hd hn;lia
theorem iB {K:K3}{Z:Fp}{H:Hp}:∀{ts:U M.T} {m:M.Md} {xs:U V} {G:Fp} {n:O},M.dps ts<=n->n<=64->RepL K Z H m ts xs G->HasL K H (ths ts) xs/\PyData.canLayAll0 (gm<|ths ts)=K1/\PyData.depthAll (gm<|ths ts)<=n
|[],_,_,_,_,_,_,r=>⟨r,rfl,LH _⟩
| t::ts,m,xs,G,n,hd,hn,⟨x,r,G1,G2,e,_,_,_,p,q⟩=>by
 have hd':max (M.dp t) (M.dps ts)<=n:=hd;obtain⟨h1,h2,h3⟩:=pf (n:=n) (by lia) hn p;obtain⟨k1,k2,k3⟩:=iB (n:=n) (by lia) hn q;refine⟨⟨x,r,e,h1,k1⟩,?_,?_⟩
 .show ((toD<|th t).canLay0&&PyData.canLayAll0 (gm<|ths ts))=K1;rw[h2,k2];rfl
 .show max (toD<|th t).depth (PyData.depthAll<|gm<|ths ts)<=n;lia
end
mutual
theorem mO:∀(t u:M.T),M.dp t<=64->M.dp u<=64->PyData.eqv (toD<|th t) (toD<|th u)=M.eqT t u
|.dct _ _,_,h,_=>by have:1000<=64:=h;lia
|.dtt _ _,_,h,_=>by have:1000<=64:=h;lia
|.ins _ _ _,_,h,_=>by have:1000<=64:=h;lia
|.obj _ _ _,_,h,_=>by have:1000<=64:=h;lia
|.gone,_,h,_=>by have:1000<=64:=h;lia
|.scr _,_,h,_=>by have:1000<=64:=h;lia
|.non,u,_,h=>by cases u<;>first|rfl|(have:1000<=64:=h;lia)
|.bl a,u,_,h=>by cases u<;>first|rfl|(cases a<;>rfl)|(have:1000<=64:=h;lia)
|.int i,u,_,h=>by
 cases u with
 |bl b=>cases b<;>rfl
 |_=>first|rfl|(have:1000<=64:=h;lia)
|.str x,u,_,h=>by cases u<;>first|rfl|(have:1000<=64:=h;lia)
|.tup ts,u,h1,h=>by
 cases u with
 |tup us=>exact jU ts us (by have:M.dps ts+1<=64:=h1;lia) (by have:M.dps us+1<=64:=h;lia)
 |_=>first|rfl|(have:1000<=64:=h;lia)
|.lst ts,u,h1,h=>by
 cases u with
 |lst us=>exact jU ts us (by have:M.dps ts+1<=64:=h1;lia) (by have:M.dps us+1<=64:=h;lia)
 |_=>first|rfl|(have:1000<=64:=h;lia)
theorem jU:∀(ts us:U M.T),M.dps ts<=64->M.dps us<=64->PyData.eqvAll (gm<|ths ts) (gm<|ths us)=M.eqTs ts us
|[],[],_,_=>rfl
|[],_::_,_,_=>rfl
|_::_,[],_,_=>rfl
|t::ts,u::us,h1,h2=>by have h1':max (M.dp t) (M.dps ts)<=64:=h1;have h2':max (M.dp u) (M.dps us)<=64:=h2;show(PyData.eqv (toD<|th t) (toD<|th u)&&PyData.eqvAll (gm<|ths ts) (gm<|ths us))=(M.eqT t u&&M.eqTs ts us);rw[mO t u (by lia)<|by lia,jU ts us (by lia)<|by lia]
end
theorem iH {K:K3}{Z:Fp}{H:Hp}{t:M.T}{m:M.Md}{v:V}{G:Fp}(hd:M.dp t<=64)(r:Rep K Z H m t v G):Has K H (th t) v/\fX (th t):=by obtain⟨d,e,f⟩:=pf hd (La _) r;refine⟨d,?_⟩;show((toD<|th t).canLay0&&decide ((toD<|th t).depth<=64))=K1;rw[e,QV f];rfl
theorem s9 {K:K3}:Loc K 2 .eq h λj H Q=>∀x y,j=[x,y]->∃t i,Has K H t x/\Has K H i y/\fX t/\fX i/\Q (.bl<|PyData.eqv (toD t)<|toD i) H:=by
 intro F w j Z H G Q v e r z N k x y hx;subst hx;obtain⟨⟨m,a⟩,⟨n,b⟩,rfl⟩:=cW r.length.symm;obtain⟨s,u,A,D,d,r1,r2⟩:=bA r;have g:(if decide (M.dp a<=64)&&decide (M.dp b<=64) then Y ((.d,.bl (M.eqT a b)):M.W) else J)=Y w:=e;split at g
 .rename_i f;rw[Li,Q3,Q3] at f;cases g;obtain⟨l,p⟩:=iH f.1 r1;obtain⟨o,o2⟩:=iH f.2 r2;refine⟨th a,th b,l,o,p,o2,?_⟩;rw[mO a b f.1 f.2];exact bS k
 .cases g
theorem Ew {K:K3}:Loc K 2 .ne h λj H Q=>∀x y,j=[x,y]->∃t i,Has K H t x/\Has K H i y/\fX t/\fX i/\Q (.bl<|!PyData.eqv (toD t) (toD i)) H:=by
 intro F w j Z H G Q v e r z N k x y hx;subst hx;obtain⟨⟨m,a⟩,⟨n,b⟩,rfl⟩:=cW r.length.symm;obtain⟨s,u,A,D,d,r1,r2⟩:=bA r;have g:(if decide (M.dp a<=64)&&decide (M.dp b<=64) then Y ((.d,.bl (!M.eqT a b)):M.W) else J)=Y w:=e;split at g
 .rename_i f;rw[Li,Q3,Q3] at f;cases g;obtain⟨l,p⟩:=iH f.1 r1;obtain⟨o,o2⟩:=iH f.2 r2;refine⟨th a,th b,l,o,p,o2,?_⟩;rw[mO a b f.1 f.2];exact bS k
 .cases g
theorem sEq (f:Room n X.A)(d:SE X sf C ea a)(e:SE X sf C eb b):SE X sf C (.Compare ea [.Eq] [eb] pos) (.op .eq h [a,b]):=av (yo (oI f.units) d e<|dD _)<|aK s9
theorem pE {K:K3}{Z:Fp}{H:Hp}{t:M.T}{m:M.Md}{x:V}{G:Fp}(d:t.isG=K0)(r:Rep K Z H m t x G):decide (x=V.non)=t.isN:=by
 cases t with
 |non=>rw[show x=_ from r];rfl
 |bl _=>rw[show x=_ from r];rfl
 |int _=>rw[show x=_ from r];rfl
 |str _=>rw[show x=_ from r.1];rfl
 |tup _=>obtain⟨p,_,e,_⟩:=r;rw[show x=_ from e];rfl
 |lst _=>obtain⟨p,_,e,_⟩:=r;rw[show x=_ from e];rfl
 |scr _=>obtain⟨p,e,_⟩:=r;rw[show x=_ from e];rfl
 |dct _ _=>obtain⟨p,_,e,_⟩:=r;rw[show x=_ from e];rfl
 |ins _ _ _=>obtain⟨_,p,_,_,_,e,_⟩:=r;rw[show x=_ from e];rfl
 |obj _ _ _=>obtain⟨_,p,_,_,e,_⟩:=r;rw[show x=_ from e];rfl
 |dtt _ _=>cases d
 |gone=>cases d
theorem ifN {d:Type}{b:QT}{x:B d}{y:d}(h:(if b=K1 then J else x)=Y y):b=K0/\x=Y y:=by cases b<;>first|exact⟨rfl,h⟩|cases h
theorem CZ {K:K3}:Loc K 2 .is h λf H Q=>∀x y,f=[x,y]->y=.non/\Q (.bl<|decide (x=.non)) H:=by
 intro t w f Z H G Q l e r o u k x y hx;subst hx;obtain⟨⟨m,a⟩,⟨n,b⟩,rfl⟩:=cW r.length.symm;obtain⟨i,j,p,s,d,r1,r2⟩:=bA r;obtain rfl:b=.non:=by cases b<;>first|rfl|(cases e;done)|(cases a<;>cases e)
 obtain⟨g,e⟩:=ifN<|show(if a.isG=K1 then J else Y _)=_ from e;cases e;rw[pE g r1];exact⟨r2,bS k⟩
theorem rj {K:K3}:Loc K 2 .isnot h λf H Q=>∀x y,f=[x,y]->y=.non/\Q (.bl<|!decide (x=.non)) H:=by
 intro t w f Z H G Q l e r o u k x y hx;subst hx;obtain⟨⟨m,a⟩,⟨n,b⟩,rfl⟩:=cW r.length.symm;obtain⟨i,j,p,s,d,r1,r2⟩:=bA r;obtain rfl:b=.non:=by cases b<;>first|rfl|(cases e;done)|(cases a<;>cases e)
 obtain⟨g,e⟩:=ifN<|show(if a.isG=K1 then J else Y _)=_ from e;cases e;rw[pE g r1];exact⟨r2,bS k⟩
theorem oO {K:K3}{Z:Fp}{H:Hp}{G:Fp}{m:M.Md}{f:U M.T}{i:U V}(lo g:B I)(r:RepL K Z H m f i G):RepL K Z H m (M.cut f lo g) (ff i lo g) G:=by
 have e:=r.length;have j:∀n d o,HT.sIx n d o=M.sIx n d o:=λn d o=>by cases o<;>rfl
 have k:ff i lo g=(i.drop (M.sIx f.length 0 lo)).take (M.sIx f.length f.length g-M.sIx f.length 0 lo):=by unfold ff;rw[j,j,e]
 rw[k];exact(r.drop _).take _
theorem wj (g:U I)(lo e:B I):ff (g.map V.int) lo e=(M.cut g lo e).map V.int:=by
 have f:∀n d o,HT.sIx n d o=M.sIx n d o:=λn d o=>by cases o<;>rfl
 unfold ff M.cut;rw[f,f,K9,List.map_take,List.map_drop]
theorem EM {f:Type}(d:U f)(lo e:B I):(M.cut d lo e).length<=d.length:=by unfold M.cut;rw[NJ,NI];lia
theorem r6 {K:K3}{Z:Fp}{H:Hp}{G o:Fp}{Q:VK}{m:M.Md}{a:M.T}{x:V}{w:M.W}{lo hi:B I}(A:∀b,o b->G b)(y:Own Z H G)(D:∀a,Z a->H a≠J)(r:Rep K Z H m a x o)
  (e:(match a with | .lst i=>M.newL h m.kid (M.cut i lo hi) | .tup i=>Y ((.s,.tup<|M.cut i lo hi):M.W) | .scr u=>Y (.d,.lst<|(M.cut u lo hi).map M.T.int)|_=>J)=Y w) (k:Out K Z H G w Q):yZ K x lo hi H Q\/zK K x lo hi H Q:=by
 cases a with
 |lst i=>obtain⟨p,j,rfl,g,t,q⟩:=bH r;refine .inl ⟨p,j,rfl,.inl<|.inl g,λl f=>?_⟩;exact dN y D (Lf (cQ j lo hi) t) ⟨o,A,(oO lo hi q).zmono λ_ z=>.inl z⟩ e k f
 |tup i=>obtain⟨p,j,rfl,g,t,q⟩:=cF r;cases e;refine .inr ⟨p,j,rfl,g,λv H' same P=>?_⟩;exact fB (m:=.s) (G':=no) y (λ_ z=>z.elim) (Lf (cQ j lo hi) t) ((RepL.sh<|oO lo hi q).zmono λb N=>N.imp id λz=>⟨A b z,λq=>q⟩) k same P
 |scr u=>obtain⟨p,rfl,F,g⟩:=r;cases e;refine .inl ⟨p,_,rfl,g.sq,λl f=>?_⟩;rw[wj];exact bV (m:=.d) (G':=no) y D (λ_ z=>z.elim) (by rw[K9];exact Lf (EM u lo hi) F) (mH _) (by simp) k f
 |_=>cases e
theorem JG {o:Pos}(f:SE X sf C ea a)(g:SE X sf C eb b):SE X sf C (.Subscript ea (.Slice J (Y eb) J o) pos) (.op .sl2 h [a,b]):=
 av (lG (sl_list.or ox) f pL<|pA g) (λt H Q j=>aK (r:=λx y H Q=>∃i,y=.int i/\(yZ X.K x J (Y i) H Q\/zK X.K x J (Y i) H Q)) (by
  intro D w F Z H G Q z e r l s k x y hx;subst hx;obtain⟨⟨m,a⟩,⟨n,b⟩,rfl⟩:=cW r.length.symm;obtain⟨u,v,p,A,d,r1,r2⟩:=bA r;obtain⟨i,rfl⟩:∃i,b=.int i:=by cases a<;>first|(cases e;done)|(cases b<;>first|exact⟨_,rfl⟩|(cases e;done))
  exact⟨i,r2,r6 (h:=h) (lo:=J) (hi:=Y i) p l s r1 (by cases a<;>exact e) k⟩) t H Q j)
theorem C8 {o:Pos}(f:SE X sf C ea a)(g:SE X sf C eb b):SE X sf C (.Subscript ea (.Slice (Y eb) J J o) pos) (.op .sl1 h [a,b]):=
 av (lG (sl_list.or ox) f (pA g) pL) (λt H Q j=>aK (r:=λx y H Q=>∃i,y=.int i/\(yZ X.K x (Y i) J H Q\/zK X.K x (Y i) J H Q)) (by
  intro D w F Z H G Q z e r l s k x y hx;subst hx;obtain⟨⟨m,a⟩,⟨n,b⟩,rfl⟩:=cW r.length.symm;obtain⟨u,v,p,A,d,r1,r2⟩:=bA r;obtain⟨i,rfl⟩:∃i,b=.int i:=by cases a<;>first|(cases e;done)|(cases b<;>first|exact⟨_,rfl⟩|(cases e;done))
  exact⟨i,r2,r6 (h:=h) (lo:=Y i) (hi:=J) p l s r1 (by cases a<;>exact e) k⟩) t H Q j)
theorem vN {K:K3}:Loc K 1 .len h λd H Q=>∃x n,d=[x]/\D8 K x H n/\Q (.int n) H:=by intro j w d Z H G Q g e r i l k;obtain⟨x,n,hx,f,q⟩:=zp (h:=h) j w d Z H G Q g e r i l k;exact⟨x,n,hx,by cases x<;>exact f,q⟩
section
variable {p:Pos}{x1:Str}
theorem jS (hm:X.mg "len"=J)(f:Gl X "len":=by rfl)(ha:SE X sf C ea a)(e:K7 [ea] X.env=(K0,Q9 ea X.env)::K7 [] X.env:=by rfl)(d:(Lu pos<|K7 [] X.env).any (·.1)=false:=by rfl):SE X sf C (.Call (.Name "len" p) [ea] [] pos) (.op .len h [a]):=
 av (bK gL f hm Pb (slc ha sl0 e) (by decide) (by decide) e d) (iI vN rfl)
theorem J7 (f:X.calm=true:=by rfl)(hm:X.mg "all"=J)(g:Gl X "all":=by rfl)(ha:SE X sf C ea a)(e:K7 [ea] X.env=(K0,Q9 ea X.env)::K7 [] X.env:=by rfl)(d:(Lu pos<|K7 [] X.env).any (·.1)=false:=by rfl):SE X sf C (.Call (.Name "all" p) [ea] [] pos) (.op .all h [a]):=
 av (bK (qX f) g hm (by rfl) (slc ha sl0 e) (by decide) (by decide) e d) (iI yw rfl)
theorem tD (hm:X.mg "list"=J)(f:Gl X "list":=by rfl)(ha:SE X sf C ea a)(e:K7 [ea] X.env=(K0,Q9 ea X.env)::K7 [] X.env:=by rfl)(d:(Lu pos<|K7 [] X.env).any (·.1)=false:=by rfl):SE X sf C (.Call (.Name "list" p) [ea] [] pos) (.op .list h [a]):=
 av (eC kj f hm ND (slc ha sl0 e) (by decide) (by decide) e d) (iI sG rfl)
end
theorem yf {K:K3}{x:V}{H:Hp}{k:QT}(h:TrV K x H k):D3 K x H k:=by
 cases x with
 |ref p=>exact h.imp id .inl
 |byt _=>exact h.elim
 |_=>exact h
theorem tB (m:SE X sf C ea a)(o:∀e,RR ea X.env e=(do let v <- e;RT ea.pos;MN [v] (truthy v)):=by intro _;rfl):SB X sf C ea a:=
 i8 (wx m o) λu H Q h=>by obtain⟨pv,Z,i,t,w,g,b,A,ev,p,k⟩:=h;exact⟨pv,Z,i,t,w,g,A,ev,λv l j f G d r s=>⟨b,yf<|rA p r,k l j f d.bare<|s.mono (λ_ z=>z) λ_ z=>.inl z⟩⟩
theorem oZ (d:SB X sf C ea a):SB X sf C (.UnaryOp .Not ea pos) (.not a):=i8 (DK d) BZ
theorem Bz {l:L2.St}{H:Hp}{Q:QT->Hp->Prop}(t:∀i w e,M.evE C a i=.ok (w,e)->∃b,w.2=.bl b)(h:wT X.K sf C a l H Q):kY (wE X.K sf C a) l H Q:=by obtain⟨pv,Z,m,i,w,e,b,A,ev,j,k⟩:=h;refine⟨pv,Z,m,i,w,e,A,ev,λv p o f G d r s=>⟨b,?_,k p o f d.bare<|s.mono (λ_ z=>z) λ_ z=>.inl z⟩⟩;obtain⟨u,g⟩:=t _ _ _ ev;rw[g] at j r;cases j;exact r
theorem Bm {o:M.Op}(ho:∀u v w,M.oSem o h [u,v]=Y w->∃b,w.2=.bl b):∀f w d,M.evE C (.op o h [a,b]) f=.ok (w,d)->∃b,w.2=.bl b:=λf w d e=>by obtain⟨p,i,j⟩:=cD e;obtain⟨u,l,k,_,e2,rfl⟩:=az i;obtain⟨v,m,k,_,g,rfl⟩:=az e2;cases g;exact ho u v w j
theorem cn {op:CmpOp}{r:R2}{o:M.Op}(ho:OpR X (LV op) r)(f:SE X sf C ea a)(g:SE X sf C eb b)(j:Ms op eb=K0)(i:∀d H Q,wE X.K sf C (.op o h [a,b]) d H Q->tOp r (wE X.K sf C a) (wE X.K sf C b) d H Q)
  (e:∀u v w,M.oSem o h [u,v]=Y w->∃b,w.2=.bl b):SB X sf C (.Compare ea [op] [eb] pos) (.op o h [a,b]):=
 i8 (gx ho f g j) λd H Q k=>i d H _<|Bz (Bm e) k
theorem IZ {u v w:M.W}(e:M.oSem .eq h [u,v]=Y w):∃b,w.2=.bl b:=by
 obtain⟨m,a⟩:=u;obtain⟨n,b⟩:=v;have f:(if decide (M.dp a<=64)&&decide (M.dp b<=64) then Y ((.d,.bl (M.eqT a b)):M.W) else J)=Y w:=e;split at f
 .cases f;exact⟨_,rfl⟩
 .cases f
theorem F4 {u v w:M.W}(e:M.oSem .ne h [u,v]=Y w):∃b,w.2=.bl b:=by
 obtain⟨m,a⟩:=u;obtain⟨n,b⟩:=v;have f:(if decide (M.dp a<=64)&&decide (M.dp b<=64) then Y ((.d,.bl (!M.eqT a b)):M.W) else J)=Y w:=e;split at f
 .cases f;exact⟨_,rfl⟩
 .cases f
theorem Iy {u v w:M.W}(e:M.oSem .is h [u,v]=Y w):∃b,w.2=.bl b:=by
 obtain⟨m,a⟩:=u;obtain⟨n,b⟩:=v;obtain rfl:b=.non:=by cases b<;>first|rfl|(cases e;done)|(cases a<;>cases e)
 obtain⟨_,e⟩:=ifN<|show(if a.isG=K1 then J else Y _)=_ from e;cases e;exact⟨_,rfl⟩
theorem wo {u v w:M.W}(e:M.oSem .isnot h [u,v]=Y w):∃b,w.2=.bl b:=by
 obtain⟨m,a⟩:=u;obtain⟨n,b⟩:=v;obtain rfl:b=.non:=by cases b<;>first|rfl|(cases e;done)|(cases a<;>cases e)
 obtain⟨_,e⟩:=ifN<|show(if a.isG=K1 then J else Y _)=_ from e;cases e;exact⟨_,rfl⟩
theorem zh (d:SE X sf C ea a)(f:SE X sf C eb b):SB X sf C (.Compare ea [.Lt] [eb] pos) (.op .lt h [a,b]):=cn Hz d f (dD _) (aK DJ) λu v w e=>by obtain⟨_,_,_,_,_,_,rfl⟩:=sD e;exact⟨_,rfl⟩
theorem Ec (d:SE X sf C ea a)(f:SE X sf C eb b):SB X sf C (.Compare ea [.Gt] [eb] pos) (.op .gt h [a,b]):=cn He d f (dD _) (aK Ce) λu v w e=>by obtain⟨_,_,_,_,_,_,rfl⟩:=vK e;exact⟨_,rfl⟩
theorem GD (d:SE X sf C ea a)(f:SE X sf C eb b):SB X sf C (.Compare ea [.GtE] [eb] pos) (.op .ge h [a,b]):=cn HG d f (dD _) (aK DV) λu v w e=>by obtain⟨_,_,_,_,_,_,rfl⟩:=vc e;exact⟨_,rfl⟩
theorem cK (g:Room n X.A)(d:SE X sf C ea a)(f:SE X sf C eb b):SB X sf C (.Compare ea [.Eq] [eb] pos) (.op .eq h [a,b]):=cn (oI g.units) d f (dD _) (aK s9) λu v w e=>IZ e
theorem qI (g:Room n X.A)(d:SE X sf C ea a)(f:SE X sf C eb b):SB X sf C (.Compare ea [.NotEq] [eb] pos) (.op .ne h [a,b]):=cn (oj g.units) d f (dD _) (aK Ew) λu v w e=>F4 e
theorem F5 (d:SE X sf C ea a)(f:SE X sf C eb b):SB X sf C (.Compare ea [.Is] [eb] pos) (.op .is h [a,b]):=cn Cw d f (dD _) (aK CZ) λu v w e=>Iy e
theorem Ku (d:SE X sf C ea a)(f:SE X sf C eb b):SB X sf C (.Compare ea [.IsNot] [eb] pos) (.op .isnot h [a,b]):=cn As d f (dD _) (aK rj) λu v w e=>wo e
abbrev SW (X:Cx)(sf:O->B O)(C:M.Call)(d:Q1)(e:M.E):Prop:=PW X d<|wT X.K sf C e
theorem wA1 (d:SB X sf C ea a):SW X sf C (.BoolOp .And [ea] pos) a:=xG d
theorem wO1 (d:SB X sf C ea a):SW X sf C (.BoolOp .Or [ea] pos) a:=E3 d
theorem BQ {rest:U Q1}(d:SB X sf C ea a)(e:SW X sf C (.BoolOp .And (eb::rest) pos) b):SW X sf C (.BoolOp .And (ea::eb::rest) pos) (.and a b):=BC (E7 d e) Cn
theorem wOr {rest:U Q1}(d:SB X sf C ea a)(e:SW X sf C (.BoolOp .Or (eb::rest) pos) b):SW X sf C (.BoolOp .Or (ea::eb::rest) pos) (.or a b):=BC (Hq d e) Hl
theorem tW (h:SW X sf C ea a):SB X sf C ea a:=h.pt
theorem sIf (f:SB X sf C ec c)(d:SE X sf C ea a)(e:SE X sf C eb b):SE X sf C (.IfExp ec ea eb pos) (.ifx c a b):=av (tU f d e) Ck
theorem Am {e:Q1}(d:SE X sf C ea a):PI X e ea (wI X.K sf C 1 .seq [a]):=lX (Br (eF d)<|nC d) CF
theorem ym {f:Q1}{p:Pos}(hm:X.mg "range"=J)(e:Gl X "range":=by rfl)(ha:SE X sf C ea a)(d:K7 [ea] X.env=[(K0,Q9 ea X.env)]:=by rfl):PI X f (.Call (.Name "range" p) [ea] [] pos) (wI X.K sf C 1 .rng [a]):=lX (rQ e hm (slc ha sl0 d) d) zV
theorem Hk {f:U Q1}{i:O}{pt p:Pos}(j:X.calm=true:=by rfl)(hm:X.mg "zip"=J)(g:Gl X "zip":=by rfl)(ha:SE X sf C ea a)(hb:SE X sf C eb b)(e:K7 [ea,eb] X.env=[(K0,Q9 ea X.env),(K0,Q9 eb X.env)]:=by rfl)(d:K7 [eb] X.env=[(K0,Q9 eb X.env)]:=by rfl):PI X (.Tuple f i pt) (.Call (.Name "zip" p) [ea,eb] [] pos) (wI X.K sf C 2 .zip [a,b]):=lX (CU g hm (slc ha (slc hb sl0 d)<|by rw[e,d]) e d) DA
noncomputable def lkN:U O->O->O->B O
|[],_,_=>J
|t::d,n,i=>if i=t then Y n else lkN d (n+1) i
theorem oh:∀{l:U O} {n i j:O},lkN l n i=Y j->∃k,l[k]?=Y i/\j=n+k/\i ∉ l.take k
|[],_,_,_,h=>by cases h
| t::m,n,i,j,h=>by
 have d:(if i=t then Y n else lkN m (n+1) i)=Y j:=h;split at d
 .rename_i e;cases d;exact⟨0,by rw[e];rfl,rfl,by simp⟩
 .rename_i e;obtain⟨k,f,o,g⟩:=oh d;exact⟨k+1,f,by lia,by rw[MD,Lm];exactλz=>z.elim e g⟩
def inF (e d:U O):O->B O:=lkN (e++d) 0
theorem fC {d g l:U O}(h:g.map sf=l.map Y):iy sf (inF d g) d l:=λi j r=>by
 obtain⟨k,f,m,o⟩:=oh<|show lkN (d++g) 0 i=Y j from r;rw[NK] at m;subst m;by_cases hk:j<d.length
 .rw [N3 hk] at f;exact .inl ⟨j,f,rfl⟩
 .have e:d.length<=j:=PF hk;rw[N4 e] at f;refine .inr ⟨λp=>o ?_,?_⟩
  .rw [List.take_append,OD e];exact Mv _ p
  .have e1:(g.map sf)[j-d.length]?=Y (sf i):=by rw [LQ,f]; rfl
   rw[h,LQ] at e1;cases e2:l[j-d.length]? with
   |none=>rw[e2] at e1;cases e1
   |some s=>rw[e2] at e1;exact⟨j-d.length,s,by lia,e2,(LG e1).symm⟩
theorem qH {x:Str}{k:Pos}{e:U Str}{d:Rj}{g:U<|Str×QS}(S:aF [x] e d)(f:QS)(s:K2)(H:Hp)(j:U QS):PG (ax X ([x]++e) d g f s H j) (.Name x k) (gT X.K 1):=
 bN (X:=ax X ([x]++e) d g f s H j) (i:=0) (x:=x) (pos:=k) S.nd rfl (.inl<|NA<|S.loc x<|by simp) (.inr<|NA<|S.loc x<|by simp)
theorem JI {x y:Str}{m o pt:Pos}{l:O}{e:U Str}{d:Rj}{g:U<|Str×QS}(p:X.calm=K1)(S:aF [x,y] e d)(f:QS)(s:K2)(H:Hp)(j:U QS):PG (ax X ([x,y]++e) d g f s H j) (.Tuple [.Name x m,.Name y o] l pt) (gT X.K 2):=
 nY (X:=ax X ([x,y]++e) d g f s H j) (pos:=pt) (k:=l) (n:=2) p (cA (bN (pos:=m) (i:=0) (x:=x) S.nd rfl (.inl<|NA<|S.loc x<|by simp) (.inr<|NA<|S.loc x<|by simp))<|cA (bN (pos:=o) (i:=1) (x:=y) S.nd rfl (.inl<|NA<|S.loc y<|by simp) (.inr<|NA<|S.loc y<|by simp)) jK)
end
end MR

namespace MR
open PySem PySem.Spec PyProof.Rows L2 L3
section
variable {X:Cx}{sf sg:O->B O}{C:M.Call}{pos p2:Pos}{ea eb ec:Q1}{a b c:M.E}{h:QT}{n:O}{io:U O}
section
variable {elt iter cnd:Q1}{x y:Str}{px py pt:Pos}{kt:O}{scope:Rj}{cl:U (Str×QS)}{ys:U Str}{tg ls is:U O}{k:M.Ik}{src:U M.E}{e cd:M.E}
theorem sC1 (ls:U O)(is:U O)(cl:U<|Str×QS)(ys:U Str){t:O}(o:PI X (.Name x px) iter<|wI X.K sf C 1 k src)(m:∀f s H g,SE (ax X ([x]++ys) scope cl f s H g) (inF [t] ls) C elt e)
  (S:aF [x] ys scope) (i:Clo X cl) (fr:Frees X scope cl ys is) (l:X.calm=true:=by rfl) (r:ls.map sf=is.map some:=by rfl)
  (d:My scope X.env=pure cl:=by with_unfolding_all rfl) (j:(scope.names.all λp=>p.2 != .free || (cl.lookup p.1).isSome)=true:=by rfl)
  (u:∀v,Mb iter X.env v=pure v:=by intro _;rfl):SE X sf C (.ListComp elt [⟨.Name x px,iter,[],0⟩] scope pos) (.comp h k src [t] J e):=
 av (eI (pre:=[x]) l o (qH S) (λf s H g=>m f s H g) d S i j fr u) (iG rfl (by simp) (fC r))
theorem Ko (ls:U O)(is:U O)(cl:U<|Str×QS)(ys:U Str){t:O}(r:PI X (.Name x px) iter<|wI X.K sf C 1 k src)(i:∀d s H f,SB (ax X ([x]++ys) scope cl d s H f) (inF [t] ls) C cnd cd)(o:∀d s H f,SE (ax X ([x]++ys) scope cl d s H f) (inF [t] ls) C elt e)
  (S:aF [x] ys scope) (j:Clo X cl) (fr:Frees X scope cl ys is) (m:X.calm=true:=by rfl) (u:ls.map sf=is.map some:=by rfl)
  (g:My scope X.env=pure cl:=by with_unfolding_all rfl) (l:(scope.names.all λp=>p.2 != .free || (cl.lookup p.1).isSome)=true:=by rfl)
  (w:∀v,Mb iter X.env v=pure v:=by intro _;rfl):SE X sf C (.ListComp elt [⟨.Name x px,iter,[cnd],0⟩] scope pos) (.comp h k src [t] (Y cd) e):=
 av (qb (pre:=[x]) m r (qH S) (λd s H f=>o d s H f) (λd s H f=>i d s H f) g S j l fr w) (xi rfl (by simp) (fC u))
theorem sC2 (ls:U O)(is:U O)(cl:U<|Str×QS)(ys:U Str){t l:O}(r:PI X (.Tuple [.Name x px,.Name y py] kt pt) iter<|wI X.K sf C 2 k src)(o:∀f s H g,SE (ax X ([x,y]++ys) scope cl f s H g) (inF [t,l] ls) C elt e)
  (S:aF [x,y] ys scope) (i:Clo X cl) (fr:Frees X scope cl ys is) (m:X.calm=true:=by rfl) (u:ls.map sf=is.map some:=by rfl) (z:[t,l].Nodup:=by decide)
  (d:My scope X.env=pure cl:=by with_unfolding_all rfl) (j:(scope.names.all λp=>p.2 != .free || (cl.lookup p.1).isSome)=true:=by rfl)
  (w:∀v,Mb iter X.env v=pure v:=by intro _;rfl):SE X sf C (.ListComp elt [⟨.Tuple [.Name x px,.Name y py] kt pt,iter,[],0⟩] scope pos) (.comp h k src [t,l] J e):=
 av (eI (pre:=[x,y]) m r (JI m S) (λf s H g=>o f s H g) d S i j fr w) (iG rfl z (fC u))
end
def spS (K:K3)(C:M.Call)(f:O)(io:U O):Sp:=λd H Q _=>spC K C f io d H Q
theorem sa0:SA X sf C [] []:=mj a6 DE
theorem sac {d:U Q1}{bs:U M.E}(e:SE X sf C ea a)(f:SA X sf C d bs)(g:∀i,a≠.io i:=by intro _ z;cases z)(j:K7 (ea::d) X.env=(K0,Q9 ea X.env)::K7 d X.env:=by rfl):SA X sf C (ea::d) (a::bs):=mj (aE e f j)<|tQ g
theorem sai (j:O){i:O}{x:Str}{d:U Q1}{bs:U M.E}(k:SA X sf C d bs)(l:sf i=Y j:=by rfl)(g:X.N[j]?=Y x:=by rfl)(m:Vis X.env.scope x:=by first|exact Lh rfl|exact Ld (Lh rfl)|exact Ld<|Ld rfl)(hd:(x==("__debug__":Str))=false:=by decide)
  (e:(x==("__classdict__":Str))=false:=by decide) (f:K7 (.Name x pos::d) X.env=(K0,Q9 (.Name x pos) X.env)::K7 d X.env:=by rfl):SA X sf C (.Name x pos::d) (.io i::bs):=mj (aE (bM g m hd e) k f)<|qG l
def ae (P:QZ)(w:K6)(K:K3)(i:Str->B L)(d:Q5)(n:O)(C:M.Call)(x:Str)(f:O)(io:U O):Prop:=
 ∃e g ps,dJ P w K i d CX0 n e g ps (spS K C f io)/\i x=Y (.ref e)/\Nr K (.ref e)=K1/\Binds K g ps []
theorem ao {x:Str}{p:Pos}{f:O}{e:U Q1}{bs:U M.E}(c:ae X.prog X.w X.K X.mg X.base n C x f io)(hr:Room n X.A)(z:SA X sf C (ea::e) bs)(j:gU bs 0=io\/M.ios bs=[]:=by first|exact .inl rfl|exact .inr rfl)(P:Gl X x:=by rfl)(i:(x==("__debug__":Str))=false:=by decide)
  (N:K7 (ea::e) X.env=(K0,Q9 ea X.env)::K7 e X.env:=by rfl) (l:(Lu pos<|K7 e X.env).any (·.1)=false:=by rfl):SE X sf C (.Call (.Name x p) (ea::e) [] pos) (.call f bs):=by
 obtain⟨fa,fd,ps,F,hm,hk,D⟩:=c;refine av (kN (E:=E0) F hr P hm hk D .nil ua z i N l) λσ H Q hw=>?_;have y:=yP j σ H Q hw;obtain⟨pv,Z,u,η,ws,m,A,ev,k⟩:=y;exact⟨pv,Z,u,η,ws,m,A,ev,λt v o g G d r s hv=>by show spS X.K C f io (t++[]) o Q E0;rw[LK];exact k t v o g G d r s hv⟩
theorem ss0:SSs X sf io C [] []:=jX gz xE
theorem ss1 {s:Rf}{t:M.S}(d:SS X sf io C s t):SSs X sf io C [s] [t]:=jX (dG d) yn
theorem ssc {s:Rf}{t:M.S}{r:U Rf}{u:U M.S}(e:SS X sf io C s t)(d:SSs X sf io C r u):SSs X sf io C (s::r) (t::u):=jX (bZ e d) tS
theorem KG (j:O){i:O}{x:Str}{p:M.X}{d:Pos}(f:X.N.Nodup)(g:SE X sf C ea a)(l:i ∉ io:=by decide)(o:sf i=Y j:=by rfl)(m:X.N[j]?=Y x:=by rfl)(hx:L2.Loc X.env.scope x:=by first|exact Lh rfl|exact Ld rfl)
  (e:L7 ea (Y<|.Name x d) pos.line X.env=pure false:=by rfl) (k:X.fn x=K1\/X.env.scope.names.lookup x=Y .local:=by first|exact .inl rfl|exact .inr rfl):SS X sf io C (.Assign [.Name x d] ea pos) (.asg p i a):=cT (kc (i:=j) f m hx g e k)<|wN l o
theorem DC {f:M.X}(d:SE X sf C ea a)(e:L7 ea J pos.line X.env=pure false:=by rfl):SS X sf io C (.Expr ea pos) (.exp f a):=cT (fK d e) D5
theorem aD {e:U O}(d:SE X sf C ea a):SS X sf io C (.Return (Y ea) pos) (.ret e a):=cT (mM d) DY
theorem zIf {g:M.X}{r u:U Rf}{s t:U M.S}(f:SB X sf C ec c)(d:SSs X sf io C r s)(e:SSs X sf io C u t):SS X sf io C (.If ec r u pos) (.ite g c s t):=cT (om f d e) Cq
theorem pQ (j:O){t:O}{x:Str}{l:Pos}{d:Q1}{r:U Rf}{s:U M.S}{G F:U O}{k:M.Ik}{e:U M.E}(m:X.N.Nodup)(y:PI X (.Name x l) d<|wI X.K sf C 1 k e)(o:SSs X sf io C r s)(f:∀u∈[t],u ∉ io:=by decide)(g:[t].map sf=[j].map some:=by rfl)(z:X.N[j]?=Y x:=by rfl)(hx:L2.Loc X.env.scope x:=by first|exact Lh rfl|exact Ld rfl)
  (p:X.calm=true:=by rfl) (hp:PassesOwn (K5 X.prog X.w) X.A X.env X.xe:=by exact PassesOwn.never) (v:X.fn x=K1\/X.env.scope.names.lookup x=Y .local:=by first|exact .inl rfl|exact .inr rfl) (D:∀x,Mb d X.env x=pure x:=by intro _;rfl):SS X sf io C (.For (.Name x l) d r [] pos) (.forS G F k e [t] s):=
 cT (jL hp p y (bN (i:=j) m z hx v) o D) (vM rfl (by simp) f g)
theorem pJ (j l:O){t u:O}{x y:Str}{D F pt:Pos}{z:O}{d:Q1}{r:U Rf}{s:U M.S}{vs ls:U O}{k:M.Ik}{e:U M.E}(o:X.N.Nodup)(P:PI X (.Tuple [.Name x D,.Name y F] z pt) d<|wI X.K sf C 2 k e)(G:SSs X sf io C r s)(g:∀v∈[t,u],v ∉ io:=by decide)(nd:[t,u].Nodup:=by decide)(m:[t,u].map sf=[j,l].map some:=by rfl)(Q:X.N[j]?=Y x:=by rfl)(Z:X.N[l]?=Y y:=by rfl)
  (hx:L2.Loc X.env.scope x:=by first|exact Lh rfl|exact Ld rfl) (hy:L2.Loc X.env.scope y:=by first|exact Lh rfl|exact Ld rfl)
  (p:X.calm=true:=by rfl) (hp:PassesOwn (K5 X.prog X.w) X.A X.env X.xe:=by exact PassesOwn.never) (H:X.fn x=K1\/X.env.scope.names.lookup x=Y .local:=by first|exact .inl rfl|exact .inr rfl) (f:X.fn y=K1\/X.env.scope.names.lookup y=Y .local:=by first|exact .inl rfl|exact .inr rfl) (hs:∀x,Mb d X.env x=pure x:=by intro _;rfl):SS X sf io C (.For (.Tuple [.Name x D,.Name y F] z pt) d r [] pos) (.forS vs ls k e [t,u] s):=
 cT (jL hp p P (nY (n:=2) p<|cA (bN (i:=j) o Q hx H)<|cA (bN (i:=l) o Z hy f) jK) G hs) (vM rfl nd g m)
theorem cf (j:O){i:O}{x:Str}{xx:M.X}{f e u:Pos}(ha:SE X sf C ea a)(hs:sf i=Y j:=by rfl)(hN:X.N[j]?=Y x:=by rfl)(hv:Vis X.env.scope x:=by first|exact Lh rfl|exact Ld (Lh rfl)|exact Ld<|Ld rfl)(hd:(x==("__debug__":Str))=false:=by decide)(z:(x==("__classdict__":Str))=false:=by decide)
  (l:M3 (.Name x u) "append" X.env (Q9 (.Name x u) X.env)=Q9 (.Name x u) X.env:=by rfl)
  (o:((Lu e<|K7 [ea] X.env).all (λx=>!x.1)&&(MJ e<|MK [] X.env).all (λx=>x.1.isSome)&&decide ([ea].length+([]:U LN).length+(if([]:U LN).isEmpty then 0 else 1)<30))=true:=by rfl)
  (m:(f.endLine==e.line)=true:=by rfl) (t:K7 [ea] X.env=(K0,Q9 ea X.env)::K7 [] X.env:=by rfl) (g:(Lu e<|K7 [] X.env).any (·.1)=false:=by rfl) (F:L7 (.Call (.Attribute (.Name x u) "append" f) [ea] [] e) J pos.line X.env=pure false:=by rfl):
  SS X sf io C (.Expr (.Call (.Attribute (.Name x u) "append" f) [ea] [] e) pos) (.app xx i a):=
 cT (fK (gX N2 Pj Ph fV (bM hN hv hd z) (aE ha a6 t) l o m t g) F) λD σ H hw=>by obtain⟨p,xs,hj,hp,pv,Z,Q,η,w,P,A,ev,k⟩:=D9 hs D σ H hw;refine⟨.ref p,hj,.inl ⟨rfl,xs,.inl<|.inl hp⟩,pv,Z,Q,η,w,P,A,ev,λv Z' H' y G d r s=>?_⟩;obtain⟨ys,h1,h2,h3⟩:=k v Z' H' y G d r s;exact⟨p,ys,v,rfl,rfl,h1,h2,h3⟩
theorem KQ (j:O){i:O}{x:Str}{xx:M.X}{f e u:Pos}(ha:SE X sf C ea a)(hs:sf i=Y j:=by rfl)(hN:X.N[j]?=Y x:=by rfl)(hv:Vis X.env.scope x:=by first|exact Lh rfl|exact Ld (Lh rfl)|exact Ld<|Ld rfl)(hd:(x==("__debug__":Str))=false:=by decide)(z:(x==("__classdict__":Str))=false:=by decide)
  (l:M3 (.Name x u) "extend" X.env (Q9 (.Name x u) X.env)=Q9 (.Name x u) X.env:=by rfl)
  (o:((Lu e<|K7 [ea] X.env).all (λx=>!x.1)&&(MJ e<|MK [] X.env).all (λx=>x.1.isSome)&&decide ([ea].length+([]:U LN).length+(if([]:U LN).isEmpty then 0 else 1)<30))=true:=by rfl)
  (m:(f.endLine==e.line)=true:=by rfl) (t:K7 [ea] X.env=(K0,Q9 ea X.env)::K7 [] X.env:=by rfl) (g:(Lu e<|K7 [] X.env).any (·.1)=false:=by rfl) (P:L7 (.Call (.Attribute (.Name x u) "extend" f) [ea] [] e) J pos.line X.env=pure false:=by rfl):
  SS X sf io C (.Expr (.Call (.Attribute (.Name x u) "extend" f) [ea] [] e) pos) (.ext xx i a):=
 cT (fK (gX N2 PySem.F.slot_list_extend PySem.F.type_list_extend qK (bM hN hv hd z) (aE ha a6 t) l o m t g) P) λD σ H hw=>by obtain⟨p,xs,hj,hp,pv,Z,Fs,η,w,Q,A,ev,k⟩:=CL hs D σ H hw;refine⟨.ref p,hj,.inl ⟨rfl,xs,.inl<|.inl hp⟩,pv,Z,Fs,η,w,Q,A,ev,λv Z' H' y G d r s=>?_⟩;obtain⟨b,ys,zs,rfl,h1,h2,h3,h4⟩:=k v Z' H' y G d r s;exact⟨p,b,ys,zs,rfl,rfl,h1,h2,h3,h4⟩
theorem sU (j:O){i:O}{x:Str}{xx:M.X}{e ps:Pos}(ha:SE X sf C ea a)(hb:SE X sf C eb b)(hs:sf i=Y j:=by rfl)(hN:X.N[j]?=Y x:=by rfl)(hv:Vis X.env.scope x:=by first|exact Lh rfl|exact Ld (Lh rfl)|exact Ld<|Ld rfl)(hd:(x==("__debug__":Str))=false:=by decide)(u:(x==("__classdict__":Str))=false:=by decide)
  (t:∀ v,Mk (.Subscript (.Name x e) eb ps) X.env v=(do
   let ov <- MN [v] (Q9 (.Name x e) X.env);let iv <- MN [v,ov] (Q9 eb X.env)
   RT ps
   MN [v,ov,iv] (setItem ov iv v)
   release [v,ov,iv] []):=by intro _;rfl)
  (h1:RC [.Subscript (.Name x e) eb ps] ea pos.line X.env=pure false:=by rfl) (h2:RD [.Subscript (.Name x e) eb ps] ea X.env=pure none:=by rfl) (h3:(M9 [.Subscript (.Name x e) eb ps] X.env).map (·.2)=[Mk (.Subscript (.Name x e) eb ps) X.env]:=by rfl):
  SS X sf io C (.Assign [.Subscript (.Name x e) eb ps] ea pos) (.setI xx i b a):=
 cT (xr ha (C6 (bM hN hv hd u) hb vp t) h1 h2 h3) λD σ H hw=>by obtain⟨pv,Z,Fs,η,w,F,A,ev,k⟩:=yr hs D σ H hw;refine⟨pv,Z,Fs,η,w,F,A,ev,λv Z' H' f G d r s=>?_⟩;obtain⟨o,ho,y,Z2,g,P,w2,Q,A2,p,k2⟩:=k v Z' H' f G d r s;refine⟨o,ho,y,Z2,g,P,w2,Q,A2,p,λz Z3 H3 l G3 B3 r3 s3=>?_⟩;obtain⟨q,xs,n,m,rfl,rfl,g1,g2,g3⟩:=k2 z Z3 H3 l G3 B3 r3 s3;exact⟨q,xs,n,m,rfl,rfl,g1,g2,g3⟩
end
end MR

namespace MR
open PySem PySem.Spec PyProof.Rows L2 L3
section
variable {K:K3}{Z:Fp}{H:Hp}
theorem jN:∀{a:U M.W} {n i:O} {w:M.W},M.rd (a.map Y++Lo n J) i=Y w->a[i]?=Y w
|[],0,i,w,h=>by simp[M.rd] at h
|[],n+1,0,w,h=>by simp[M7,M.rd] at h
|[],n+1,i+1,w,h=>by
 have:M.rd (([]:U M.W).map Y++Lo n J) i=Y w:=by simpa[M7,M.rd] using h
 have:=jN this;simp at this
|u::a,n,0,w,h=>by simpa[M.rd] using h
|u::a,n,i+1,w,h=>by
 have:M.rd (a.map Y++Lo n J) i=Y w:=by simpa[M.rd] using h
 simpa using jN this
theorem sv:∀{k:U M.W} {c:U V} {G:Fp},RepW K Z H k c G->∃b:Fps,(∀i a,b i a->G a)/\(∀i j a,b i a->b j a->i=j)/\∀i w,k[i]?=Y w->∃v,c[i]?=Y v/\Rep K Z H w.1 w.2 v (b i)
|[],c,G,_=>⟨λ_=>no,λ_ _ h=>h.elim,λ_ _ _ h=>h.elim,λi w h=>by simp at h⟩
| w::k,c,G,⟨x,r,l,t,e,o,s,hd,p,q⟩=>by
 obtain⟨b,d,m,n⟩:=sv q;subst e;refine⟨λi=>match i with | 0=>l|i+1=>b i,λi a h=>?_,λi j a f g=>?_,λi u h=>?_⟩
 .cases i with
  |zero=>exact o a h
  |succ i=>exact s a<|d i a h
 .cases i with
  |zero=>
   cases j with
   |zero=>rfl
   |succ j=>exact QW (d j a g)<|hd a f
  |succ i=>
   cases j with
   |zero=>exact QW (d i a f)<|hd a g
   |succ j=>exact Q8 (·+1)<|m i j a f g
 .cases i with
  |zero=>simp only[NN,OX] at h;subst h;exact⟨x,rfl,p⟩
  |succ i=>simpa using n i u<|by simpa using h
def slN (n:O):O->B O:=λi=>if i<n then Y i else J
theorem fS {o:Cf}{s:L2.St}{f:Fps}{g:M.Env}{G:Fp}{c:U V}(A:At K o s Z H f g G):∀{b:U O} {bs:U M.W},b.Nodup->(∀i∈b,o.pv i=c[i]?/\i<c.length)->M.backs b g=Y bs->RepW K Z H bs (atV b c) (λa=>∃i∈b,f i a)
|[],bs,_,_,h=>by simp only[M.backs,OX] at h;subst h;rfl
| i::b,bs,n,m,h=>by
 simp only[M.backs] at h;cases e:M.rd g i with
 |none=>rw[e] at h;cases h
 | some w =>
  rw[e] at h;simp only[Px] at h;cases e2:M.backs b g with
  |none=>rw[e2] at h;cases h
  |some t=>
   rw[e2] at h;simp only[Px,OX] at h;subst h;obtain⟨v,r,_,hp⟩:=A.env i w.1 w.2 e;have k:=m i Lg;obtain⟨u,l⟩:∃u,c[i]?=Y u:=⟨c[i]'k.2,MG k.2⟩;have:=hp u<|k.1.trans l;subst this;refine⟨v,atV b c,f i,λa=>∃j∈b,f j a,?_,λa h=>⟨i,Lg,h⟩,λa ⟨j,d,h⟩=>⟨j,Lr _ d,h⟩,λa h ⟨j,d,p⟩=>?_,r,fS A (Mg.mp n).2 (λj d=>m j<|Lr _ d) e2⟩
   .rw[atV,Np,l];rfl
   .exact(Mg.mp n).1<|A.gd.dis i j a h p ▸ d
end
section
variable {P:QZ}{w:K6}{K:K3}{mg:Str->B L}{base:Q5}
theorem vR {Z:Fp}{H:Hp}{p:U M.W}{d:U V}{G:Fp}{N:U Str}{n:O}{io:U O}(r:RepW K Z H p d G)(o:Own Z H G)(z:∀a,Z a->H a≠J)(D:d.length<=N.length):
  ∃f,(∀a,tot f a->G a)/\At K ⟨slN N.length,λi=>if i∈io then d[i]? else J⟩ (L2.start N d) Z H f (p.map Y++Lo n J) no:=by
 obtain⟨f,g,s,x⟩:=sv r;have l:∀i v,d[i]?=Y v->(L2.start N d)[i]?=Y (Y v):=λi v h=>by have y:=(L8.mp h).1;rw[L2.start,N3<|by simpa using y,LQ,h];rfl
 refine⟨f,λa ⟨i,h⟩=>g i a h,⟨⟨λa ⟨i,h⟩=>o a<|g i a h,s,z⟩,λi m t e=>?_,λa h=>h.elim,λa h=>h.elim,λi u j c b=>?_,λi j b=>?_⟩⟩
 .obtain ⟨v,k,A⟩:=x i (m,t) (jN e);refine⟨v,A,λj b=>?_,λu c=>?_⟩
  .simp only [slN] at b;split at b
   .cases b;exact l i v k
   .cases b
  .simp only at c;split at c
   .rw[k] at c;cases c;rfl
   .cases c
 .simp only at c;simp only[slN] at b;split at b
  .cases b;split at c
   .exact l i u c
   .cases c
  .cases b
 .simp only [slN] at b;split at b
  .cases b;rename_i h;rw[L2.start,K8,K9,M6];lia
  .cases b
theorem Fun.okM {x l:Str}{st:Rf}{f:QS}{fd:LZ}{N ps:U Str}{k:O}{C:M.Call}{d:M.Fn}(F:L2.Fun K x l st f fd)(S:aj N ps<|defScope st)(hps:d.ps=ps.length)(hle:ps.length<=N.length)(nd:d.io.Nodup)(hio:∀i∈d.io,i<ps.length)
  (hbody:∀ (m:L) (A:Lj) (c:U Env) (s:K2) (H:Hp) (E:XK),Room k (A.deeper (Mj l (defScope st) s.heap.objs.size f m)) ->
   SSs (jT CX0 P w K mg base N l (defScope st) f m A c s H E).nox (slN N.length) d.io C (defBody st) d.body) {g:O} {C':M.Call} (hC:∀ws,C' g ws=M.runF C d ws):dJ P w K mg base CX0 (k+1) f fd ps (spS K C' g d.io):=by
 have len:∀y H Q E,spS K C' g d.io y H Q E->y.length=ps.length:=λy H Q E ⟨Z,ws,G,w,bs,r,_,_,hr,_⟩=>by
  rw[hC] at hr;unfold M.runF at hr;split at hr
  .rename_i h;rw[r.length,h,hps]
  .cases hr
 refine F.ok S len λm A c s H y Q E hr h=>⟨_,hbody m A c s H E hr,?_⟩;have p:=len y H Q E h;obtain⟨Z,ws,G,w,bs,r,o,z,b,q⟩:=h;rw[hC] at b;have hwl:ws.length=d.ps:=by rw[<- r.length,p,hps]
 rw[M.x_run _ _ _ hwl] at b;obtain⟨Fs,ft,A0⟩:=vR (n:=d.ns) (io:=d.io) r o z (N:=N) (by lia);refine⟨_,Z,Fs,_,⟨λi i' j h h'=>?_,λi h=>Q0 h⟩,A0,?_⟩
 .simp only [slN] at h h';split at h
  .split at h'
   .cases h;cases h';rfl
   .cases h'
  .cases h
 have hv:∀i∈d.io,(if i∈d.io then y[i]? else J)=y[i]?/\i<y.length:=λi hi=>⟨QY hi,p ▸ hio i hi⟩;cases e:M.evSs C d.body (ws.map Y++Lo d.ns J) with
 | nx η =>
  rw[e] at b;intro σ' Z' H' Fs' D t;simp only[M.Fl.out] at b;cases e2:M.backs d.io η with
  |none=>rw[e2] at b;cases b
  |some cs=>rw[e2] at b;cases b;refine q .non Z' H' no _ rfl (fS D nd hv e2) (λ_ h=>h.elim) (λa h=>h.elim (λz=>z.elim) λ⟨i,_,z⟩=>D.gd.own a ⟨i,z⟩) (t.mono ft λa h=>h.elim (λz=>z.elim) λ⟨i,_,z⟩=>⟨i,z⟩)
 | rt u η =>
  rw[e] at b;intro v σ' Z' H' Fs' G' D rp t;simp only[M.Fl.out] at b;cases e2:M.backs d.io η with
  |none=>rw[e2] at b;cases b
  |some cs=>rw[e2] at b;cases b;exact q v Z' H' G' _ rp (fS D nd hv e2) (λa h ⟨i,_,z⟩=>D.dis a h ⟨i,z⟩) (λa h=>h.elim (D.own a) λ⟨i,_,z⟩=>D.gd.own a ⟨i,z⟩)<|t.mono ft λa h=>h.elim .inr λ⟨i,_,z⟩=>.inl ⟨i,z⟩
 |bk η=>rw[e] at b;cases b
 |ex t η=>rw[e] at b;cases b
 |no=>rw[e] at b;cases b
end
end MR

namespace MR
open PySem PySem.Spec PyProof.Rows L2 L3
def TopV (K:K3)(H:Hp):Th->V->Prop
|.tup _,x=>∃a c,x=.ref a/\SqT K H a c
|.lst _,x=>∃a c,x=.ref a/\SqL K H a c
|.non,x=>x=.non
|.bl b,x=>x=.bl b
|.int i,x=>x=.int i
|.str z,x=>x=.str z
theorem lZ {X:Cx}{c:Q4}(F:c∈["tuple","str","bool","int","list"]):dR X (.builtin "isinstance") (λD H Q=>∃x t,D=[x,.ty c]/\TopV X.K H t x/\Q (.bl<|isI c t) H):=by
 intro k s N H D P Q d r h;obtain⟨x,t,rfl,g,q⟩:=h;obtain⟨u,Z,rfl,j,y⟩:=tJ r;cases y;have e:MS X.K (.type t.ty) (.type c)=Y (isI c t):=kit_type.trans<|nh F t;have f:∀A,EP X k N Q (.bool (isI c t)) {s with toks:=A}:=λA=>⟨.bl<|isI c t,H,d.tok A,rfl,q⟩;cases t with
 |non=>obtain rfl:x=.non:=g;exact ej d j .non e f
 |bl b=>obtain rfl:x=.bl b:=g;exact ej d j (.bl b) e f
 |int i=>obtain rfl:x=.int i:=g;exact ej d j (.int i) e f
 |str z=>obtain rfl:x=.str z:=g;exact ej d j (.str z) e f
 |tup G=>obtain⟨a,M,rfl,v⟩:=g;cases j;obtain⟨w,_,p,_⟩:=d.tuple v;obtain⟨o,l,m,_⟩:=p;exact Mh O4 d.kIn ⟨o,l,m⟩ e (λz=>nomatch z) f
 |lst G=>obtain⟨a,M,rfl,v⟩:=g;cases j;obtain⟨w,_,p,_⟩:=d.list v;obtain⟨o,n,l,m,_⟩:=p;exact Mh OG d.kIn ⟨o,l,m⟩ e (λz=>nomatch z) f
theorem pY {X:Cx}{c1 c2:Q4}(Z:c1∈["tuple","str","bool","int","list"])(h2:c2∈["tuple","str","bool","int","list"]):
  dR X (.builtin "isinstance") (λM H Q=>∃x t p,M=[x,.ref p]/\SqT X.K H p [.ty c1,.ty c2]/\TopV X.K H t x/\Q (.bl (isI c1 t || isI c2 t)) H):=by
 intro l s σ H M us Q c r h;obtain⟨x,t,p,rfl,hp,g,q⟩:=h;obtain⟨u,w',rfl,j,F⟩:=tJ r;cases F;obtain⟨k,rv,pt,_⟩:=c.tuple hp;obtain⟨y1,y2,rfl,r1,r2⟩:=tJ rv;cases r1;cases r2;obtain⟨⟨oc,od,y,osl⟩,f,N,n,P⟩:=pt;have m:oc=.type "tuple":=N;have v:y=.seq _ n:=P;subst m v;have e1:MS X.K (.type t.ty) (.type c1)=Y (isI c1 t):=kit_type.trans<|nh Z t;have e2:MS X.K (.type t.ty) (.type c2)=Y (isI c2 t):=kit_type.trans<|nh h2 t
 have e:Pa X.K (.type t.ty) [.type c1,.type c2]=Y (isI c1 t || isI c2 t):=by
  unfold Pa;rw[e1];cases isI c1 t with
  |true=>rfl
  |false=>unfold Pa;rw[e2];cases isI c2 t<;>rfl
 have d:∀G,EP X l σ Q (.bool (isI c1 t || isI c2 t)) {s with toks:=G}:=λG=>⟨.bl _,H,c.tok G,rfl,q⟩;cases t with
 |non=>obtain rfl:x=.non:=g;cases j;exact NG PV c.kIn LW f e (λz=>nomatch z) d
 |bl b=>obtain rfl:x=.bl b:=g;cases j;exact NG PU c.kIn LW f e (λz=>nomatch z) d
 |int i=>obtain rfl:x=.int i:=g;obtain⟨t,rfl⟩:=j;exact NG PJ c.kIn LW f e (λz=>nomatch z) d
 |str z=>obtain rfl:x=.str z:=g;obtain⟨t,rfl⟩:=j;exact NG PH c.kIn LW f e (λz=>nomatch z) d
 |tup ts=>obtain⟨a,vs,rfl,w⟩:=g;cases j;obtain⟨k,_,⟨o,A,D,_⟩,_⟩:=c.tuple w;exact NG O4 c.kIn ⟨o,A,D⟩ f e (λz=>nomatch z) d
 |lst ts=>obtain⟨a,vs,rfl,w⟩:=g;cases j;obtain⟨k,_,⟨o,n,A,D,_⟩,_⟩:=c.list w;exact NG OG c.kIn ⟨o,A,D⟩ f e (λz=>nomatch z) d
noncomputable def thT:M.T->Th
|.non=>.non | .bl b=>.bl b | .int i=>.int i | .str x=>.str x | .tup _=>.tup [] | .lst _=>.lst [] | .scr _=>.lst [] | .dct _ _=>.non | .ins _ _ _=>.non | .obj _ _ _=>.non | .dtt _ _=>.non | .gone=>.non
theorem oV {K:K3}{Z:Fp}{H:Hp}{t:M.T}{m:M.Md}{x:V}{G:Fp}(a:t.isH=K0)(r:Rep K Z H m t x G):TopV K H (thT t) x/\(thT t).ty=t.ty:=by
 cases t with
 |non=>exact⟨r,rfl⟩
 |bl _=>exact⟨r,rfl⟩
 |int _=>exact⟨r,rfl⟩
 |str _=>exact⟨r.1,rfl⟩
 |tup _=>obtain⟨p,b,e,q,_⟩:=r;exact⟨⟨p,b,e,q⟩,rfl⟩
 |lst _=>obtain⟨p,b,e,_,q,_⟩:=r;exact⟨⟨p,b,e,.inl<|.inl<|by cases m<;>exact q.2⟩,rfl⟩
 |scr _=>obtain⟨p,e,_,q⟩:=r;exact⟨⟨p,_,e,q.sq⟩,rfl⟩
 |dct _ _=>cases a
 |ins _ _ _=>cases a
 |obj _ _ _=>cases a
 |dtt _ _=>cases a
 |gone=>cases a
theorem j1 {t:Th}{u:M.T}{c:Q4}(h:t.ty=u.ty):isI c t=M.isOne c u:=by unfold isI M.isOne;rw[h]
section
variable {X:Cx}{sf sg:O->B O}{C:M.Call}{pos p2 p3:Pos}{ea eb ec:Q1}{a b c:M.E}{h:QT}{n:O}{io:U O}
theorem pR {Z:Fp}{H d:Hp}{G:Fp}(same:∀a o,H a=Y o->d a=Y o):Step Z H G Z d G:=by
 have f:∀a,H a≠J->d a≠none:=λa h=>by
  cases e:H a with
  |none=>exact QW e h
  |some o=>rw[same a o e];simp
 exact⟨λa o h _=>same a o h,λ_ h=>h,λ_ h=>.inl h,λ_ h=>.inl h,f,λz a h=>f a<|z a h⟩
theorem uw {K:K3}{Z:Fp}{H d:Hp}{G:Fp}{w:M.W}{Q:VK}(same:∀a o,H a=Y o->d a=Y o)(k:Out K Z H G w Q):Out K Z d G w Q:=λv g f e r o t=>k v g f e r o<|(pR same).trans t
theorem gO {H:Hp}{p:QS}{o:HO}(hp:H p=J):∀a u,H a=Y u->upd H p o a=Y u:=λa u e=>by
 have:a≠p:=λq=>by subst q;rw[hp] at e;cases e
 rw[ag this];exact e
theorem TopV.same {K:K3}{H g:Hp}{t:Th}{x:V}(d:∀a o,H a=Y o->g a=Y o)(h:TopV K H t x):TopV K g t x:=by
 cases t with
 |tup _=>
  obtain⟨a,f,e,q⟩:=h;refine⟨a,f,e,?_⟩;rcases q with(z|⟨o,z⟩)|z
  .exact .inl (.inl<|d _ _ z)
  .exact .inl (.inr ⟨o,d _ _ z⟩)
  .exact .inr z
 |lst _=>
  obtain⟨a,f,e,q⟩:=h;refine⟨a,f,e,?_⟩;rcases q with(z|⟨o,z⟩)|z
  .exact .inl (.inl<|d _ _ z)
  .exact .inl (.inr ⟨o,d _ _ z⟩)
  .exact .inr z
 |_=>exact h
theorem jF {c:Q4}{k:Str}(D:c∈["tuple","str","bool","int","list"])(hv:Mx k=Y (.type c))(N:X.mg "isinstance"=J)(g:X.mg k=J)(z:SE X sf C ea a)(F:Gl X "isinstance":=by rfl)(f:Gl X k:=by rfl)(P:k≠"__name__":=by decide)(hd:(k==("__debug__":Str))=false:=by decide)
  (p:K7 [ea,.Name k p2] X.env=(K0,Q9 ea X.env)::K7 [.Name k p2] X.env:=by rfl) (j:K7 [.Name k p2] X.env=(K0,Q9 (.Name k p2) X.env)::K7 [] X.env:=by rfl) (i:(Lu pos<|K7 [.Name k p2] X.env).any (·.1)=false:=by rfl):
  SE X sf C (.Call (.Name "isinstance" p3) [ea,.Name k p2] [] pos) (.op (.isI [c]) h [a]):=
 av (bK (lZ D) F N OA (aE z (aE (jh f g hv P hd) a6 j) p) (by decide) (by decide) p i) λσ H Q hw=>by obtain⟨pv,Z,t,η,w,o,A,ev,k⟩:=hw;obtain⟨ws,y,e⟩:=cD ev;obtain⟨⟨m,u⟩,η1,us,e1,e2,rfl⟩:=az y;cases e2;obtain⟨l,e⟩:=ifN<|show(if u.isH=K1 then J else Y _)=_ from e;cases e;refine⟨pv,Z,t,η,(m,u),o,A,e1,λx Z' H' v G d r s=>?_⟩;obtain⟨t1,t2⟩:=oV l r;refine⟨x,thT u,rfl,t1,?_⟩;have:=bS<|bE d s k;rw[j1 t2];rw[show([c].any λc=>M.isOne c u)=M.isOne c u by simp] at this;exact this
theorem IC {c1 i:Q4}{f e:Str}{g pt:Pos}{j:O}(v:c1∈["tuple","str","bool","int","list"])(hv1:Mx f=Y (.type c1))(y:i∈["tuple","str","bool","int","list"])(hv2:Mx e=Y (.type i))(hm:X.mg "isinstance"=J)(P:X.mg f=J)(hm2:X.mg e=J)(ha:SE X sf C ea a)
  (hg:Gl X "isinstance":=by rfl) (F:Gl X f:=by rfl) (N:Gl X e:=by rfl) (hn1:f≠"__name__":=by decide) (z:(f==("__debug__":Str))=false:=by decide) (hn2:e≠"__name__":=by decide) (D:(e==("__debug__":Str))=false:=by decide)
  (hs:K7 [ea,.Tuple [.Name f p2,.Name e g] j pt] X.env=(K0,Q9 ea X.env)::K7 [.Tuple [.Name f p2,.Name e g] j pt] X.env:=by rfl) (hs2:K7 [.Tuple [.Name f p2,.Name e g] j pt] X.env=(K0,Q9 (.Tuple [.Name f p2,.Name e g] j pt) X.env)::K7 [] X.env:=by rfl)
  (hs3:K7 [.Name f p2,.Name e g] X.env=(K0,Q9 (.Name f p2) X.env)::K7 [.Name e g] X.env:=by rfl) (hs4:K7 [.Name e g] X.env=(K0,Q9 (.Name e g) X.env)::K7 [] X.env:=by rfl) (hpl:(Lu pos<|K7 [.Tuple [.Name f p2,.Name e g] j pt] X.env).any (·.1)=false:=by rfl):
  SE X sf C (.Call (.Name "isinstance" p3) [ea,.Tuple [.Name f p2,.Name e g] j pt] [] pos) (.op (.isI [c1,i]) h [a]):=
 av (bK (pY v y) hg hm OA (aE ha (aE (mE<|aE (jh F P hv1 hn1 z) (aE (jh N hm2 hv2 hn2 D) a6 hs4) hs3) a6 hs2) hs) (by decide) (by decide) hs hpl) λσ H Q hw=>by obtain⟨pv,Z,Fs,η,w,η',A,ev,k⟩:=hw;obtain⟨ws,h1,t⟩:=cD ev;obtain⟨⟨m,u⟩,η1,us,e1,e2,rfl⟩:=az h1;cases e2;obtain⟨hug,t⟩:=ifN<|show(if u.isH=K1 then J else Y _)=_ from t;cases t;refine⟨pv,Z,Fs,η,(m,u),η',A,e1,λx Z' H' l G d r s=>?_⟩;refine⟨(by show 2<=sizeLine;decide),λp hp=>?_⟩;have st:=pR (Z:=Z') (G:=λa=>tot l a\/G a)<|gO (o:=.tup [.ty c1,.ty i]) hp;obtain⟨t0,t2⟩:=oV hug r;have t1:=t0.same<|gO (o:=.tup [.ty c1,.ty i]) hp;refine⟨x,thT u,p,rfl,.inl<|.inl af,t1,?_⟩;have:=bS<|uw (gO (o:=.tup [.ty c1,.ty i]) hp)<|bE d s k;rw[j1 t2,j1 t2];rw[show([c1,i].any λc=>M.isOne c u)=(M.isOne c1 u || M.isOne i u) by simp] at this;exact this
theorem HU (j:O){i:O}{x:Str}{f d p pk:Pos}{o:O}(u:sf i=Y j:=by rfl)(s:X.N[j]?=Y x:=by rfl)(v:Vis X.env.scope x:=by first|exact Lh rfl|exact Ld (Lh rfl)|exact Ld<|Ld rfl)(hd:(x==("__debug__":Str))=false:=by decide)(r:(x==("__classdict__":Str))=false:=by decide)
  (g:M3 (.Name x p) "pop" X.env (Q9 (.Name x p) X.env)=Q9 (.Name x p) X.env:=by rfl)
  (l:((Lu d<|K7 [.Constant (.int 0) o pk] X.env).all (λx=>!x.1)&&(MJ d<|MK [] X.env).all (λx=>x.1.isSome)&&decide ([Expr.Constant (.int 0) o pk].length+([]:U LN).length+(if([]:U LN).isEmpty then 0 else 1)<30))=true:=by rfl)
  (k:(f.endLine==d.line)=true:=by rfl) (m:K7 [.Constant (.int 0) o pk] X.env=(K0,Q9 (.Constant (.int 0) o pk) X.env)::K7 [] X.env:=by rfl) (e:(Lu d<|K7 [] X.env).any (·.1)=false:=by rfl):
  SE X sf C (.Call (.Attribute (.Name x p) "pop" f) [.Constant (.int 0) o pk] [] d) (.pop i [.cst<|.int 0]):=
 av (gX N2 PySem.F.slot_list_pop PySem.F.type_list_pop w5 (bM s v hd r) (aE kg a6 m) g l k m e) λz H Q w=>by obtain⟨a,A,y,t,hp,q⟩:=zN u rfl z H Q w;exact⟨.ref a,t,.inl ⟨rfl,_,.inl<|.inl hp⟩,a,_,0,0,y,rfl,rfl,hp,by decide,by decide,by simp[seqIndex?],rfl,q⟩
end
end MR

namespace MR
open PySem PySem.Spec PyProof.Rows L2 L3
structure Txt (mg:Str->B L):Prop where
 isin:mg "isinstance"=J
 int:mg "int"=J
 tup:mg "tuple"=J
 list:mg "list"=J
 bool:mg "bool"=J
 sum:mg "sum"=J
 len:mg "len"=J
 all:mg "all"=J
 zip:mg "zip"=J
 range:mg "range"=J
 enum:mg "enumerate"=J
 any:mg "any"=J
 max:mg "max"=J
 min:mg "min"=J
 sorted:mg "sorted"=J
 str:mg "str"=J
 repr:mg "repr"=J
 abs:mg "abs"=J
 dict:mg "dict"=J
 set:mg "set"=J
 rev:mg "reversed"=J
theorem frc {X:Cx}{a:Rj}{b:U<|Str×QS}{y:Str}{e:U Str}{i:O}{d:U O}{c:QS}(r:Frees X a b e d)(f:X.N[i]?=Y y:=by rfl)(g:Vis X.env.scope y:=by first|exact Lh rfl|exact Ld (Lh rfl)|exact Ld<|Ld rfl)(h:X.env.kindOf y=Y .cell\/X.env.kindOf y=Y .free:=by first|exact Lh rfl|exact Ld rfl)
  (j:X.env.cells.lookup y=Y c:=by rfl) (k:b.lookup y=Y c:=by rfl) (l:(M8 a X.env).names.lookup y=Y .cell\/(M8 a X.env).names.lookup y=Y .free:=by first|exact Lh rfl|exact Ld rfl):Frees X a b (y::e) (i::d):=.cons f g h j k l r
theorem Fu {X:Cx}{y:Str}{c:QS}{a:U<|Str×QS}(r:Clo X a)(h:X.env.cells.lookup y=Y c:=by rfl):Clo X ((y,c)::a):=.cons h r
section
variable {X:Cx}{sf sg:O->B O}{C:M.Call}{pos p2 p3:Pos}{ea eb ec:Q1}{a b c:M.E}{h:QT}{n:O}{io:U O}
section
variable {elt iter cnd:Q1}{x y:Str}{px py pt:Pos}{kt:O}{scope:Rj}{tg:U O}{k:M.Ik}{src:U M.E}{e cd:M.E}
theorem zC1 (j:O)(P:U O)(G:U O)(f:U<|Str×QS)(F:U Str){z:Str}{Q spos:Pos}{xx:M.X}{i t:O}(hi:PI X (.Name x px) iter<|wI X.K sf C 1 k src)(he:∀g s H l,SE (ax X ([x]++F) scope f g s H l) (inF [t] P) C elt e)
  (S:aF [x] F scope) (m:Clo X f) (fr:Frees X scope f F G) (hN:X.N.Nodup) (u:i ∉ io:=by decide) (w:sf i=Y j:=by rfl) (hj:X.N[j]?=Y z:=by rfl) (hz:L2.Loc X.env.scope z:=by first|exact Lh rfl|exact Ld rfl)
  (A:L7 (.ListComp elt [⟨(.Name x px),iter,[],0⟩] scope pos) (Y<|.Name z Q) spos.line X.env=pure true:=by rfl) (hc:X.calm=true:=by rfl) (hl:P.map sf=G.map some:=by rfl)
  (d:My scope X.env=pure f:=by with_unfolding_all rfl) (r:(scope.names.all λp=>p.2 != .free || (f.lookup p.1).isSome)=true:=by rfl)
  (hs:∀v,Mb iter X.env v=pure v:=by intro _;rfl) (o:X.fn z=K1\/X.env.scope.names.lookup z=Y .local:=by first|exact .inl rfl|exact .inr rfl):SS X sf io C (.Assign [.Name z Q] (.ListComp elt [⟨(.Name x px),iter,[],0⟩] scope pos) spos) (.asg xx i<|.comp h k src [t] J e):=
 cT (jb (pre:=[x]) hN hj hz A hc hi (qH S) (λg s H l=>he g s H l) d S m r fr hs o) λD Z H hw=>iG rfl (by simp) (fC hl) Z H _ (wN u w D Z H hw)
end
end
end MR

namespace MR
open PySem PySem.Spec PyProof.Rows L2 L3
section
variable {P:QZ}{w:K6}{K:K3}{mg:Str->B L}{base:Q5}
theorem kZ {C:M.Call}{g:O}{c:U O}{d:U V}{H:Hp}{Q:VK}{E:XK}(b:∀a,C g a=.no)(h:spS K C g c d H Q E):Q6:=by obtain⟨Z,a,G,w,bs,_,_,_,e,_⟩:=h;rw[b] at e;cases e
theorem fn0 {f:QS}{b:LZ}{ps:U Str}{k g:O}{c:U O}{C:M.Call}(a:∀d,C g d=.no):dJ P w K mg base CX0 k f b ps (spS K C g c):=
 ⟨λ_ _ _ _ h=>(kZ a h).elim,λ_ _ _ _ _ _ _ _ _ _ _ _ _ h=>(kZ a h).elim⟩
theorem mG {Z:Fp}{H:Hp}{a:QS}{b:U I}(c:wM H)(e:b.length<=63)(h:SqL K H a<|b.map V.int):Rep K Z H .d (.scr b) (.ref a) no:=by
 refine⟨a,rfl,Lf e<|by decide,?_⟩;rcases h with(z|⟨o,z⟩)|z
 .rcases c a with y|⟨o,xs,y⟩<;>rw[y] at z<;>cases z
 .exact .inl ⟨o,z⟩
 .exact .inr (.inr z)
theorem ET {H:Hp}{a:QS}{b:U I}{C:M.Call}{c:O}(hp:∃m bs,C c [(.d,.scr b)]=.ok ((m,.bl K1),bs))(g:b.length<=63)(f:wM H)(h:SqL K H a<|b.map V.int):spS K C c [] [.ref a] H (λv _=>v=.bl K1) λ_ _ _=>Q6:=by obtain⟨m,bs,e⟩:=hp;exact⟨no,[(.d,.scr b)],no,(m,.bl K1),bs,RepW.one<|mG f g h,b7,λ_ z=>z.elim,e,λv l k i j r _ _ _ _=>r⟩
end
end MR

namespace MR
open PySem PySem.Spec PyProof.Rows L2 L3
structure SBs (as:U QS)(H H':Hp):Prop where
 keep:∀b u,b ∉ as->H b=Y u->H' b=Y u
 al:∀b,H b≠J->H' b≠J
instance {as:U QS} {H H':Hp}:CoeFun (SBs as H H') (λ_=>∀b u,b ∉ as->H b=Y u->H' b=Y u):=⟨λs=>s.keep⟩
end MR

namespace MR
open PySem PySem.Spec PyProof.Rows L2 L3
section
variable {X:Cx}{sf sg:O->B O}{io:U O}{C:M.Call}{pos p2:Pos}{ea eb ec:Q1}{a b c:M.E}{h:QT}{n:O}
theorem qW {K:K3}:Loc K 1 .tuple h λs H Q=>∃p d,s=[.ref p]/\((SqL K H p d/\∀l,H l=J->Q (.ref l) (upd H l<|.tup d))\/(SqT K H p d/\Q (.ref p) H)):=by
 intro o w s Z H G Q t e r j v k;obtain⟨⟨m,a⟩,rfl⟩:∃a,o=[a]:=by match o,t with|[a],_=>exact⟨a,rfl⟩
 obtain⟨x,rfl,r1⟩:=bC rfl r;cases a with
 |lst u=>obtain⟨p,d,rfl,g,i,q⟩:=bH r1;cases e;exact⟨p,d,rfl,.inl ⟨SqL.of g,λl f=>ot (m:=m.kid.up) (G':=G) j (λ_ z=>z) i (by rw[eW];exact q.zmono λ_ z=>.inl z) k f⟩⟩
 |tup u=>obtain⟨p,d,rfl,g,i,q⟩:=cF r1;cases e;exact⟨p,d,rfl,.inr ⟨g,cH j k r1⟩⟩
 |_=>cases e
theorem EL {p:Pos}(hm:X.mg "tuple"=J)(f:Gl X "tuple":=by rfl)(ha:SE X sf C ea a)(e:K7 [ea] X.env=(K0,Q9 ea X.env)::K7 [] X.env:=by rfl)(d:(Lu pos<|K7 [] X.env).any (·.1)=false:=by rfl):SE X sf C (.Call (.Name "tuple" p) [ea] [] pos) (.op .tuple h [a]):=
 av (eC iZ f hm N1 (slc ha sl0 e) (by decide) (by decide) e d) (iI qW rfl)
theorem lU {g:Rf}:SS X sf io C g .stop:=λe s k H D d q=>by obtain⟨pv,Z,i,j,N,A,f⟩:=q;exact(show Q6 from f).elim
end
end MR



namespace MR
open PySem PySem.Spec PyProof.Rows L2 L3
section
variable {X:Cx}{sf sg:O->B O}{C:M.Call}{pos p2 p3:Pos}{ea eb ec:Q1}{a b c:M.E}{h:QT}{n:O}{io:U O}
theorem sGc {x:Str}{i:I}(d:∃t,X.mg x=Y (.int i t))(e:Gl X x:=by rfl)(hd:(x==("__debug__":Str))=false:=by decide):SE X sf C (.Name x pos) (.cst<|.int i):=by obtain⟨t,d⟩:=d;exact av (pC (v:=.int i) e d ⟨t,rfl⟩ hd)<|ia rfl
def Bi (K:K3)(H:Hp):U O->V->V->Prop
|[],v,u=>u=v
|j::p,v,u=>∃a d x,v=.ref a/\(SqL K H a d\/SqT K H a d)/\d[j]?=Y x/\Bi K H p x u
def wP (K:K3)(sf:O->B O)(i:O)(p:U O):TE:=λd H Q=>∃j v u,sf i=Y j/\d[j]?=Y (Y v)/\Bi K H p v u/\Q u H
abbrev SP (X:Cx)(sf:O->B O)(d:Q1)(i:O)(p:U O):Prop:=PE X d<|wP X.K sf i p
noncomputable def Hb (d:Fps)(i:O)(G:Fp):Fps:=λl a=>(l=i/\G a)\/(l≠i/\d l a)
def CstR (K:K3)(t:M.T)(v:V):Prop:=∀(Z:Fp) (H:Hp),Rep K Z H .s t v no
theorem cst_int {K:K3}(i:I):CstR K (.int i) (.int i):=λ_ _=>rfl
theorem cst_non {K:K3}:CstR K .non .non:=λ_ _=>rfl
theorem cst_bl {K:K3}(b:QT):CstR K (.bl b) (.bl b):=λ_ _=>rfl
theorem cst_str {K:K3}{x:Str}(h:M.sOk x=K1):CstR K (.str x) (.str x):=λ_ _=>⟨rfl,h⟩
def kq (K:K3)(w:K6)(d:Str->B L)(x:Str)(tab:U<|Str×M.T):Prop:=
 ∃a T,d x=Y (.ref a)/\DTab K w a T/\∀z,match tab.lookup z with
  |some t=>∃v,T.lookup z=Y v/\CstR K t v
  |none=>T.lookup z=J
theorem BS {K:K3}{w:K6}{ad:QS}{T:U<|Str×V}{tab:U<|Str×M.T}{e:M.E}(D:DTab K w ad T)(ht:∀z,match tab.lookup z with
  |some t=>∃v,T.lookup z=Y v/\CstR K t v
  |none=>T.lookup z=J) (o:L2.St) (H:Hp) (Q:VK) (h:wE K sf C (.ixT tab e) o H Q):tOp (λx y H Q=>∃a z T v,x=.ref a/\y=.str z/\DTab K w a T/\T.lookup z=Y v/\Q v H) (tC<|.ref ad) (wE K sf C e) o H Q:=by
 obtain⟨pv,Z,p,l,w',η',A,ev,k⟩:=h;obtain⟨⟨u,g⟩,F,N⟩:=aa<|show(M.evE C e l).bind (M.kTab tab M.okS)=_ from ev;obtain⟨z,t,e1,e2,P⟩:=lp N;cases P;refine⟨pv,Z,p,l,u,g,A,F,λy j i f G d r s=>?_⟩;obtain⟨m,t0⟩:=u;cases(show t0=_ from e1);have q:=ht z;rw[e2] at q;obtain⟨v,q1,q2⟩:=q;exact⟨ad,z,T,v,rfl,r.1,D,q1,k v j i f no d.bare (q2 j i)<|s.mono (λ_ z=>z) λa ha=>ha.elim .inl λz=>z.elim⟩
theorem BO {x:Str}{tab:U<|Str×M.T}(T:kq X.K X.w X.mg x tab)(d:SE X sf C ea a)(e:Gl X x:=by rfl)(hd:(x==("__debug__":Str))=false:=by decide)(g:fI ea:=by intro _ _;rfl):SE X sf C (.Subscript (.Name x p2) ea pos) (.ixT tab a):=by obtain⟨ad,j,f,D,i⟩:=T;exact av (vH Cg (iA e f hd) d g)<|BS D i
def rP (K:K3)(w:K6)(e:Str->B L)(x:Str)(d:U Str):Prop:=∃a T,e x=Y (.ref a)/\DTab K w a T/\∀z,(T.lookup z).isSome=d.contains z
theorem uP {K:K3}{w:K6}{ad:QS}{T:U<|Str×V}{i:U Str}{e:M.E}{f:QT}(D:DTab K w ad T)(ht:∀z,(T.lookup z).isSome=i.contains z)(o:L2.St)(H:Hp)(Q:VK)(h:wE K sf C (.inT f i e) o H Q):
  wE K sf C e o H λx v=>∃z a j,x=.str z/\V.ref ad=.ref a/\DTab K w a j/\Q (.bl<|(j.lookup z).isSome != f) v:=by
 obtain⟨pv,Z,p,l,w',η',A,ev,k⟩:=h;obtain⟨⟨u,η1⟩,N,P⟩:=aa<|show(M.evE C e l).bind (M.kIn f i)=_ from ev;obtain⟨z,e1,e2,e3⟩:=kn P;cases e2;refine⟨pv,Z,p,l,u,_,A,N,λy F t g G d r s=>?_⟩;obtain⟨m,t0⟩:=u;cases(show t0=_ from e1);refine⟨z,ad,T,r.1,rfl,D,?_⟩;rw[ht z];refine k _ F t g no d.bare ?_<|s.mono (λ_ z=>z) λa ha=>ha.elim .inl λz=>z.elim;rw[show w'=_ from e3];rfl
end
end MR

namespace MR
open PySem PySem.Spec PyProof.Rows L2 L3
theorem fsc {N P:U Str}{a:Rj}(b:a.kind=.function:=by rfl)(c:a.isCoroutine=false:=by rfl)(d:a.isGenerator=false:=by rfl)(e:N.Nodup:=by decide +kernel)(f:N.take P.length=P:=by rfl)(g:∀x∈P,a.names.lookup x=Y .local\/a.names.lookup x=Y .cell:=by decide +kernel)(h:∀y∈a.names,y.2≠.free:=by decide +kernel):aj N P a:=⟨b,c,d,e,f,g,h⟩
theorem csc {pre b:U Str}{a:Rj}(c:a.kind=.function:=by rfl)(d:∀y∈a.names,y.2≠.cell:=by decide +kernel)(e:∀y∈a.names,y.2=.local->a.names.lookup y.1=Y .local:=by decide +kernel)(f:∀x∈pre,a.names.lookup x=Y .local:=by decide +kernel)(g:(pre++b).Nodup:=by decide +kernel):aF pre b a:=⟨c,d,e,f,g⟩
section
variable {P:QZ}{w:K6}{K:K3}{mg:Str->B L}{base:Q5}{x:Str}{st:Rf}{ps N:U Str}{n g:O}{io:U O}{C C':M.Call}{d:L}{t:M.T}
structure Df (K:K3)(mg:Str->B L)(x:Str)(st:Rf)(ps:U Str):Prop where
 ex:∃f fd,Fun K x x st f fd/\Binds K fd ps []/\mg x=Y (.ref f)
theorem Df.ok (e:Df K mg x st ps)(h:∀f a,Fun K x x st f a->dJ P w K mg base CX0 n f a ps (spS K C g io)):ae P w K mg base n C x g io:=by obtain⟨f,a,F,b,m⟩:=e.ex;exact⟨f,a,ps,h f a F,m,F.kp,b⟩
theorem Df.z (e:Df K mg x st ps)(a:∀b,C g b=.no:=by intro _;rfl):ae P w K mg base n C x g io:=e.ok λ_ _ _=>fn0 a
theorem Df.s (a:M.Fn)(e:Df K mg x st ps)(S:aj N ps<|defScope st)
  (p:∀{f:QS} {c:L} {A:Lj} {b:U Env} {s:K2} {H:Hp} {E:XK},Room n (A.deeper<|Mj x (defScope st) s.heap.objs.size f c)->SSs (jT CX0 P w K mg base N x (defScope st) f c A b s H E).nox (slN N.length) a.io C (defBody st) a.body)
  (o:∀m,C' g m=M.runF C a m:=by intro _;rfl) (l:a.ps=ps.length:=by rfl) (k:ps.length<=N.length:=by decide) (r:a.io.Nodup:=by decide) (j:∀i∈a.io,i<ps.length:=by decide):ae P w K mg base (n+1) C' x g a.io:=
 e.ok λ_ _ F=>Fun.okM F S l k r j (λ_ _ _ _ _ _ h=>p h) o
def Raw (K:K3)(x:Str)(st:Rf)(dV:L):Prop:=∃f e h j kV c i an a b,NX K Ll x=Y (Y<|.ref f)/\K.lookup f=Y ⟨e,h,.func<|MP x x (defArgs st) (defBody st) (defScope st) dV kV c i an a b,j⟩/\Ol K a x=K1/\Nr K (.ref f)=K1
theorem aM {h:Q5}(X:K.In h)(G:h.Ns Ll mg)(r:Raw K x st .none)(o:∀(kV b i:L) (an:B QS) (a e:L) (c:U L),c.length=ps.length->bindArgs (MP x x (defArgs st) (defBody st) (defScope st) .none kV b i an a e) ⟨c,[]⟩=pure (ps.zip c)):Df K mg x st ps:=by obtain⟨f,u,v,y,kV,s,i,an,p,e,j,k,l,m⟩:=r;have F:=sR (st:=st) k l m;exact⟨f,_,F,F.binds o,Ox X G j⟩
def CV (K:K3):U Str->Prop
|[]=>RJ
|x::r=>NX K Ll x=Y J/\CV K r
theorem D4 {h:Q5}(X:K.In h)(G:h.Ns Ll mg)(r:CV K ["isinstance","int","tuple","list","bool","sum","len","all","zip","range","enumerate","any","max","min","sorted","str","repr","abs","dict","set","reversed"]):Txt mg:=by obtain⟨z1,z2,u,v,y,A,D,F,H,a,b,c,e,f,i,j,k,l,o,p,s,_⟩:=r;have m:=λ{x:Str} (z:NX K Ll x=Y J)=>PySem.W.mg_none_of X G z;exact⟨m z1,m z2,m u,m v,m y,m A,m D,m F,m H,m a,m b,m c,m e,m f,m i,m j,m k,m l,m o,m p,m s⟩
def TabRaw (K:K3)(w:K6)(x:Str)(T:U<|Str×V):Prop:=∃a b n,NX K Ll x=Y (Y<|.ref a)/\K.lookup a=Y ⟨.type "dict",J,.dict b n,#[]⟩/\Qj w.params b.toList/\Paired (λ(p:Str×V) (e:Rh)=>(∃t,e.key=.str p.1 t)/\RelV p.2 e.val) T b.toList/\(a==L0)=K0
theorem TabRaw.tab {h:Q5}{T:U<|Str×V}(X:K.In h)(G:h.Ns Ll mg)(r:TabRaw K w x T):∃a,mg x=Y (.ref a)/\DTab K w a T:=by obtain⟨a,b,n,c,e,f,i,j⟩:=r;exact⟨a,Ox X G c,⟨b,n,e,f,i⟩,j⟩
theorem i6 (z:Str):∀T:U<|Str×V,(T.lookup z).isSome=(T.map LO).contains z
|[]=>rfl
|(k,v)::T=>by
 rw[Mo,Ln,List.contains_cons];cases z==k with
 |true=>rfl
 |false=>rw[i6 z T];rfl
theorem kE {h:Q5}{T:U<|Str×V}{b:U Str}(X:K.In h)(G:h.Ns Ll mg)(r:TabRaw K w x T)(hk:T.map LO=b):rP K w mg x b:=by obtain⟨a,c,e⟩:=r.tab X G;exact⟨a,T,c,e,λz=>by rw[i6,hk]⟩
def CstL (K:K3):U (Str×M.T)->U (Str×V)->Prop
|[],[]=>RJ
|e::r,p::T=>(p.1=e.1/\CstR K e.2 p.2)/\CstL K r T
|_,_=>Q6
theorem jc (z:Str):∀{tab:U<|Str×M.T} {T:U<|Str×V},CstL K tab T->match tab.lookup z with
 |some t=>∃v,T.lookup z=Y v/\CstR K t v
 |none=>T.lookup z=J
|[],[],_=>rfl
|(k,t)::r,(a,v)::T,⟨⟨e,c⟩,q⟩=>by
 have b:a=k:=e;subst b;have f:=jc z q;rw[Mo,Mo];cases z==a with
 |true=>exact⟨v,rfl,c⟩
 |false=>exact f
|[],_::_,h=>h.elim
|_::_,[],h=>h.elim
theorem fq {h:Q5}{T:U<|Str×V}{tab:U<|Str×M.T}(X:K.In h)(G:h.Ns Ll mg)(r:TabRaw K w x T)(e:CstL K tab T):kq K w mg x tab:=by obtain⟨a,b,c⟩:=r.tab X G;exact⟨a,T,b,c,λz=>jc z e⟩
end
end MR

namespace MR
open PySem PySem.Spec PyProof.Rows L2 L3
section
variable {X:Cx}{sf sg:O->B O}{C:M.Call}{pos p p2 p3:Pos}{ea eb ec:Q1}{a b c:M.E}{h:QT}{n:O}{io:U O}{K:K3}
theorem fJ {Z:Fp}{H:Hp}{G:Fp}{m:M.Md}{t:M.T}{x:V}(g:M.flatT t=K1)(r:Rep K Z H m t x G):eL x=K1/\∀(u:M.T) (y:V) {m':M.Md} {G':Fp},M.flatT u=K1->Rep K Z H m' u y G'->eqV y x=M.eqT u t:=by
 cases t with
 |non=>cases r;refine⟨rfl,λu y m' G' f d=>?_⟩;cases u<;>first|(cases d;rfl)|(obtain⟨e,_⟩:=d;cases e;rfl)|cases f
 |bl b=>cases r;refine⟨rfl,λu y m' G' f d=>?_⟩;cases u<;>first|(cases d;rfl)|(cases d;cases b<;>rfl)|(obtain⟨e,_⟩:=d;cases e;rfl)|cases f
 |int i=>cases r;refine⟨rfl,λu y m' G' f d=>?_⟩;cases u with
  |bl c=>cases d;cases c<;>rfl
  |_=>first|(cases d;rfl)|(obtain⟨e,_⟩:=d;cases e;rfl)|cases f
 |str z=>obtain⟨e,_⟩:=r;cases e;refine⟨rfl,λu y m' G' f d=>?_⟩;cases u<;>first|(cases d;rfl)|(obtain⟨e,_⟩:=d;cases e;rfl)|cases f
 |_=>cases g
theorem mT {Z:Fp}{H:Hp}{G:Fp}{m:M.Md}{t:M.T}{x:V}(i:M.flatT t=K1)(r:Rep K Z H m t x G):∀{f:U M.T} {g:U V} {m':M.Md} {G':Fp},f.all M.flatT=K1->RepL K Z H m' f g G'->g.all eL=K1/\L2.inV x g=f.any λu=>M.eqT u t
|[],_,_,_,_,h=>by cases h;exact⟨rfl,rfl⟩
|u::f,_,m',_,d,⟨y,o,s,v,e,_,_,_,q,l⟩=>by cases e;rw[NF,Li] at d;obtain⟨j,k⟩:=mT i r d.2 l;refine⟨by rw[NF,(fJ d.1 q).1,j];rfl,?_⟩;show(eqV y x || L2.inV x o)=_;rw[LS,k,(fJ i r).2 u y d.1 q]
theorem nL {neg:QT}{u v w:M.W}{o:M.Op}(ho:o=if neg then .notin else .isin)(e:M.oSem o h [u,v]=Y w):∃f,M.elems v=Y f/\M.flatT u.2=K1/\f.all M.flatT=K1/\w=(.d,.bl<|if neg then !f.any (λt=>M.eqT t u.2) else f.any λt=>M.eqT t u.2):=by
 obtain⟨m,a⟩:=u;obtain⟨n,b⟩:=v;subst ho;cases neg with
 |true=>
  obtain⟨f,j,g⟩:=QD.mp<|show(M.elems (n,b)).bind (λf=>if(M.flatT a&&f.all M.flatT)=K1 then Y ((.d,.bl<|!f.any λt=>M.eqT t a):M.W) else J)=Y w from e;split at g
  .rename_i i;rw[Li] at i;cases g;exact⟨f,j,i.1,i.2,rfl⟩
  .cases g
 |false=>
  obtain⟨f,j,g⟩:=QD.mp<|show(M.elems (n,b)).bind (λf=>if(M.flatT a&&f.all M.flatT)=K1 then Y ((.d,.bl<|f.any λt=>M.eqT t a):M.W) else J)=Y w from e;split at g
  .rename_i i;rw[Li] at i;cases g;exact⟨f,j,i.1,i.2,rfl⟩
  .cases g
theorem xq (g:QT){o:M.Op}(ho:o=if g then .notin else .isin):Loc K 2 o h λf H Q=>∀x y,f=[x,y]->rIn K g x y H Q:=by
 intro P w f Z H G Q z e r A za k x y hx;subst hx;obtain⟨⟨m,a⟩,⟨n,b⟩,rfl⟩:=cW r.length.symm;obtain⟨u,v,F,N,d,r1,r2⟩:=bA r;obtain⟨D,e1,e2,e3,rfl⟩:=nL ho e;cases b with
 |lst t=>cases e1;obtain⟨p,f,rfl,l,s,q⟩:=bH r2;obtain⟨i,j⟩:=mT e2 r1 e3 q;refine⟨p,f,rfl,.inl<|.inl<|.inl l,(fJ e2 r1).1,i,?_⟩;rw[j];exact bS k
 |tup t=>cases e1;obtain⟨p,f,rfl,l,s,q⟩:=cF r2;obtain⟨i,j⟩:=mT e2 r1 e3 q;refine⟨p,f,rfl,.inr l,(fJ e2 r1).1,i,?_⟩;rw[j];exact bS k
 |_=>cases e1
theorem v7 (d:SE X sf C ea a)(f:SE X sf C eb b)(g:Ms .In eb=false:=by rfl):SB X sf C (.Compare ea [.In] [eb] pos) (.op .isin h [a,b]):=cn qQ d f g (aK<|xq K0 rfl) λu v w e=>by obtain⟨_,_,_,_,rfl⟩:=nL (neg:=K0) rfl e;exact⟨_,rfl⟩
theorem yH (d:SE X sf C ea a)(f:SE X sf C eb b)(g:Ms .NotIn eb=false:=by rfl):SB X sf C (.Compare ea [.NotIn] [eb] pos) (.op .notin h [a,b]):=cn kF d f g (aK<|xq K1 rfl) λu v w e=>by obtain⟨_,_,_,_,rfl⟩:=nL (neg:=K1) rfl e;exact⟨_,rfl⟩
end
section
variable {X:Cx}{sf sg:O->B O}{C:M.Call}{pos p p2 p3:Pos}{ea eb ec:Q1}{a b c:M.E}{h:QT}{io:U O}{K:K3}
theorem CS {x y:I}(h:y.natAbs<18446744073709551616):Builtin.divisionGoesByPylong x y=false:=by
 refine PyProof.noPylong_of_log2 ?_;by_cases d:y.natAbs=0
 .rw[d];decide +kernel
 .have e:y.natAbs.log2<64:=(Nat.log2_lt d).mpr h;lia
theorem u7:OpR X (LU .FloorDiv) (rI (λ_ j=>j≠0/\j.natAbs<18446744073709551616) λi j=>.int<|i.fdiv j):=opI λ_ _ _ _ _ _ _ d q=>floordiv_int d.1 q<|.inl<|CS d.2
theorem qU:Loc K 2 .fdivN h λl H Q=>∀x y,l=[x,y]->rI (λ_ j=>j≠0/\j.natAbs<18446744073709551616) (λi j=>.int<|i.fdiv j) x y H Q:=by
 intro A w l Z H G Q t e r u D k x y hx;subst hx;obtain⟨⟨m,a⟩,⟨n,b⟩,rfl⟩:=cW r.length.symm;obtain⟨o,s,v,z,d,r1,r2⟩:=bA r;cases a<;>first|(cases e;done)|(cases b<;>try (cases e;done))
 rename_i i j;have f:(if((j != 0)&&decide (j.natAbs<18446744073709551616))=K1 then Y ((.d,.int (i.fdiv j)):M.W) else J)=Y w:=e;split at f
 .rename_i g;rw[Li,Q3,bne_iff_ne] at g;cases f;exact⟨i,j,r1,r2,g,a9 k⟩
 .cases f
theorem vi:Loc K 2 .modN h λl H Q=>∀x y,l=[x,y]->rI (λ_ j=>j≠0) (λi j=>.int<|i.fmod j) x y H Q:=by
 intro A w l Z H G Q t e r u D k x y hx;subst hx;obtain⟨⟨m,a⟩,⟨n,b⟩,rfl⟩:=cW r.length.symm;obtain⟨o,s,v,z,d,r1,r2⟩:=bA r;cases a<;>first|(cases e;done)|(cases b<;>try (cases e;done))
 rename_i i j;have f:(if(j != 0)=K1 then Y ((.d,.int (i.fmod j)):M.W) else J)=Y w:=e;split at f
 .rename_i g;rw[bne_iff_ne] at g;cases f;exact⟨i,j,r1,r2,g,a9 k⟩
 .cases f
theorem BF (d:SE X sf C ea a)(e:SE X sf C eb b):SE X sf C (.BinOp ea .FloorDiv eb pos) (.op .fdivN h [a,b]):=av (eM u7 d e)<|aK qU
theorem fL (d:SE X sf C ea a)(e:SE X sf C eb b):SE X sf C (.BinOp ea .Mod eb pos) (.op .modN h [a,b]):=av (eM Ac d e)<|aK vi
end
section
variable {X:Cx}{sf sg:O->B O}{C:M.Call}{pos p p2 p3:Pos}{ea eb ec:Q1}{a b c:M.E}{h:QT}{io:U O}{K:K3}
theorem xl {e:QT}{i:U Str}{n:L2.St}{H:Hp}{Q:QT->Hp->Prop}(D:wT K sf C (.inT e i a) n H Q):wE K sf C (.inT e i a) n H λx g=>∃k,x=.bl k/\Q k g:=by obtain⟨pv,Z,o,m,w,j,b,A,ev,l,k⟩:=D;refine⟨pv,Z,o,m,w,j,A,ev,λv t g f G d r s=>?_⟩;obtain⟨⟨u,F⟩,N,y⟩:=aa<|show(M.evE C a m).bind (M.kIn e i)=_ from ev;obtain⟨z,e1,e2,e3⟩:=kn y;rw[show w=_ from e3] at l r;cases l;exact⟨_,r,k t g f d.bare<|s.mono (λ_ z=>z) λ_ z=>.inl z⟩
theorem Gx {x:Str}{g:U Str}(T:rP X.K X.w X.mg x g)(n:SE X sf C ea a)(t:Gl X x:=by rfl)(hd:(x==("__debug__":Str))=false:=by decide)(o:Ms .In (.Name x p2)=false:=by rfl):SB X sf C (.Compare ea [.In] [.Name x p2] pos) (.inT K0 g a):=by obtain⟨ad,T',u,D,y⟩:=T;refine i8 (gx vm n (iA t u hd) o) λP H Q F=>?_;obtain⟨pv,Z,i,N,M,f,A,ev,k⟩:=uP D y P H _<|xl F;refine⟨pv,Z,i,N,M,f,A,ev,λv m j e G d r s=>?_⟩;obtain⟨z,a,l,e1,e2,e3,q⟩:=k v m j e G d r s;rw[M5] at q;exact⟨z,a,l,e1,e2,e3,q⟩
theorem yz {x:Str}{g:U Str}(T:rP X.K X.w X.mg x g)(n:SE X sf C ea a)(t:Gl X x:=by rfl)(hd:(x==("__debug__":Str))=false:=by decide)(o:Ms .NotIn (.Name x p2)=false:=by rfl):SB X sf C (.Compare ea [.NotIn] [.Name x p2] pos) (.inT K1 g a):=by obtain⟨ad,T',u,D,y⟩:=T;refine i8 (gx mm n (iA t u hd) o) λP H Q F=>?_;obtain⟨pv,Z,i,N,M,f,A,ev,k⟩:=uP D y P H _<|xl F;refine⟨pv,Z,i,N,M,f,A,ev,λv m j e G d r s=>?_⟩;obtain⟨z,a,l,e1,e2,e3,q⟩:=k v m j e G d r s;rw[Bool.bne_true] at q;exact⟨z,a,l,e1,e2,e3,q⟩
end
end MR

namespace MR
open PySem PySem.W L2 M
def CstRs (K:K3)(a:U M.T)(b:U V):Prop:=∀(Z:Fp) (H:Hp),RepL K Z H .s a b no
theorem cst_nil {K:K3}:CstRs K [] []:=λ_ _=>rfl
theorem cst_cons {K:K3}{t:M.T}{b:U M.T}{x:V}{a:U V}(h:CstR K t x)(r:CstRs K b a):CstRs K (t::b) (x::a):=λZ H=>⟨x,a,no,no,rfl,λ_ h=>h,λ_ h=>h,λ_ h=>h.elim,h Z H,r Z H⟩
theorem cst_tup {K:K3}{d:U M.T}{c:U V}{a:QS}{o:Obj}{b:Rg L}{n:O}(h:K.lookup a=Y o)(e:o.cls=.type "tuple")(hd:o.data=.seq b n)(g:b.size<=sizeLine)(i:Vals c b.toList)(f:c.length<=LIM)(r:CstRs K d c):CstR K (.tup d) (.ref a):=λZ H=>⟨a,c,rfl,.inr ⟨o,b,n,h,e,hd,g,i⟩,f,r Z H⟩
end MR




namespace L3
open PySem PySem.Spec PySem.NumText PyProof.Rows L2
def spJ (c:O)(a:U<|U O):U Mf:=a.map λl=>⟨l.toArray⟩
theorem mK (c:O):∀(b a:U O),M.spl c a b≠[]
|[],a=>MU _ _
|x::b,a=>by
 unfold M.spl;split
 .exact MU _ _
 .exact mK c b _
theorem gQ (c:O):∀(d a:U O),c ∉ a->∀l∈M.spl c a d,c ∉ l
|[],a,h,l,b=>by rw[Lv.mp b];exact h
| x::d,a,h,l,b=>by
 unfold M.spl at b;split at b
 .rcases Lm.mp b with rfl | b
  .exact h
  .exact gQ c d [] (by simp) l b
 .rename_i hx;refine gQ c d _ (λz=>?_) l b;rcases LL.mp z with z|z
  .exact h z
  .exact hx (Lv.mp z).symm
theorem df (c:O):∀(b a:U O),(LJ ⟨#[c]⟩<|spJ c<|M.spl c a b).cps.toList=a++b
|[],a=>by rw[LK];rfl
| x::b,a=>by
 unfold M.spl;split
 .rename_i hx;have d:=df c b []
  obtain⟨y,r,e⟩:∃y r,M.spl c [] b=y::r:=by
   cases h:M.spl c [] b with
   |nil=>exact QW h<|mK c b []
   |cons y r=>exact⟨y,r,rfl⟩
  rw[e] at d ⊢;show((⟨a.toArray⟩:Mf)++⟨#[c]⟩++LJ ⟨#[c]⟩ (spJ c (y::r))).cps.toList=_;rw[a8,a8,d,hx];simp
 .rw[df c b<|a++[x],Lz];rfl
theorem qm (x:Mf):PySem.Txt.split x (Str.ofString " ")=M.splS x:=by
 have c:Str.ofString " "=⟨#[32]⟩:=by decide +kernel
 rw[c]
 have e1:LJ ⟨#[32]⟩ (M.splS x)=x:=by
  have:=df 32 x.cps.toList [];cases x with
  |mk a=>have b:(LJ ⟨#[32]⟩ (M.splS ⟨a⟩)).cps.toList=a.toList:=this;generalize LJ ⟨#[32]⟩ (M.splS ⟨a⟩)=u at b;cases u;exact Q8 OP<|N6.mp b
 refine mh 32 _ _ (uk _ _) (λz=>mK 32 _ _<|QL.mp z) (StrLaws.split_free _ 32) (λp hp=>?_)<|(StrLaws.join_split _ _).trans e1.symm;obtain⟨l,d,rfl⟩:=LR.mp hp;exact gQ 32 _ _ LY l d
theorem rh {z:Mf}{b:U Mf}(h:(b.map λs=>s.cps.size+z.cps.size).sum<=M.LIM):JoinOk z b=true:=by
 have e:∀(l:U Mf) (a:O),l.foldl (λa s=>a+s.length+z.length) a=a+(l.map λs=>s.cps.size+z.cps.size).sum:=by
  intro l;induction l with
  |nil=>intro a;rfl
  |cons s l c=>intro a;rw[Pt,c,Ln,P5];show a+s.cps.size+z.cps.size+_=_;lia
 unfold JoinOk;rw[show b.toArray.foldl (·+·.length+z.length) 0=b.foldl (λa s=>a+s.length+z.length) 0 from List.foldl_toArray ..,e,NK];unfold Builtin.Str.tooLong;have:¬(b.map λs=>s.cps.size+z.cps.size).sum>sizeLine:=by have:=MR.LIM_le h;lia
 rw[Q7 this];rfl
theorem BP {X:Cx}{b:U Rf}{g:Ob}{j:U Ob}{d:Pos}{t:TS}(hx:∀v s,X.xe v s->Q6)(i:PSs X b t):PS X (.Try b (g::j) [] [] d) t:=by
 intro c s l H D a h;refine wpAny_Try_except<|Ly (i c s l H D a h) (λf k q=>?_) λe k q=>(hx _ _ q).elim;cases f with
 |next=>exact Of q
 |brk=>exact q
 |cont=>exact q
 |ret u=>exact q
end L3
namespace MR
open PySem PySem.Spec PyProof.Rows L2 L3
section
variable {X:Cx}{sf sg:O->B O}{C:M.Call}{pos p p2 p3:Pos}{ea eb ec:Q1}{a b c:M.E}{h:QT}{n:O}{io:U O}{K:K3}
theorem Kq {d:U Rf}{e:Ob}{g:U Ob}{s:U M.S}(f:SSs X sf io C d s)(hx:∀v s,X.xe v s->Q6:=by exactλ_ _ z=>z):SS X sf io C (.Try d (e::g) [] [] pos) (.tri s):=cT (BP hx f) λD j H i=>i
theorem tV {Z:Fp}{H:Hp}{G:Fp}{m:M.Md}:∀{d:U M.T} {j:U Str} {f:U V},M.strsOf d=Y j->RepL K Z H m d f G->f=j.map V.str:=by
 intro d;induction d generalizing G with
 |nil=>intro g f e r;cases e;exact r
 | cons t d k =>
  intro g f e r;obtain⟨x,u,o,s,rfl,_,_,_,p,q⟩:=r;cases t with
  | str i =>
   cases e1:M.strsOf d with
   |none=>simp[M.strsOf,e1] at e
   |some l=>
    have:g=i::l:=by simpa[M.strsOf,e1] using e.symm
    subst this;rw[Ln,<- k e1 q,show x=.str i from p.1]
  |_=>cases e
theorem mV {Z:Fp}{H:Hp}{m:M.Md}:∀{d:U Str},(∀x∈d,M.sOk x=K1)->RepL K Z H m (d.map M.T.str) (d.map V.str) no
|[],_=>rfl
|x::d,h=>⟨.str x,d.map V.str,no,no,rfl,λ_ z=>z.elim,λ_ z=>z.elim,λ_ z=>z.elim,⟨rfl,h x Lg⟩,mV λy e=>h y<|Lr _ e⟩
theorem Bu {o:M.Op}{e1 e2:M.E}{T:Q4}{r:V->U V->Hp->VK->Prop}(ty:∀{m:M.Md} {t:M.T} {w2 w:M.W} {x:V} {Z:Fp} {H:Hp} {G:Fp},M.oSem o h [(m,t),w2]=Y w->Rep K Z H m t x G->tyV K T x H)
  (l:Loc K 2 o h λxs H Q=>∀x y,xs=[x,y]->r x [y] H Q) (s:L2.St) (H:Hp) (Q:VK) (hw:wE K sf C (.op o h [e1,e2]) s H Q):tBM K T r (wE K sf C e1) (wL K sf C [e2]) s H Q:=by
 obtain⟨pv,Z,Fs,η,w,η',A,ev,k⟩:=hw;obtain⟨ws,h1,j⟩:=cD ev;obtain⟨⟨m,t⟩,η1,us,g1,i,rfl⟩:=az h1;obtain⟨wb,η2,us,g3,g4,rfl⟩:=az i;cases g4;refine i4 A g1 λx Z1 H1 u g f r1 _ s1 _=>?_;have d:=f.mono (G':=g) λ_ z=>.inr z;refine⟨ty j r1,?_⟩;refine FV d i λvs N F v D e r2 P s2 t2=>?_;obtain⟨y,rfl,ry⟩:=bC rfl r2;exact l [(m,t),wb] w [x,y] N F _ Q rfl j ⟨x,[y],g,D,rfl,λ_ z=>.inl z,λ_ z=>.inr z,P,r1.frame f.gd.own s2 d.dis,r2⟩ e.own e.gd.zal (bE e (s1.trans t2) k) x y rfl
theorem tM:Loc K 2 .join h λj H Q=>∀x y,j=[x,y]->BD K x [y] H Q:=by
 intro D w j Z H G Q u e r ow za k x y hx
 match D,u with
 | [(m,a),(m2,b)],_ =>
  subst hx;obtain⟨x',r',F,N,t,P,g2,gd,A,p2⟩:=r;cases t;obtain⟨y',e1,p3⟩:=bC rfl p2;cases e1;cases a with
  | str z =>
   cases b with
   | lst o =>
    have e2:((M.strsOf o).bind λf=>if(M.sOk (Str.join z f)&&decide ((f.map λs=>s.cps.size+z.cps.size).sum<=M.LIM))=K1 then Y ((.d,.str (Str.join z f)):M.W) else J)=Y w:=e;cases e3:M.strsOf o with
    |none=>rw[e3] at e2;cases e2
    | some f =>
     rw[e3] at e2;have g:(if(M.sOk (Str.join z f)&&decide ((f.map λs=>s.cps.size+z.cps.size).sum<=M.LIM))=K1 then Y ((.d,.str (Str.join z f)):M.W) else J)=Y w:=e2;split at g
     .rename_i i;cases g;rw[Li] at i;obtain⟨q,j,v,l,hl,pr⟩:=bH p3;rw[tV e3 pr] at l;exact⟨z,q,f,A.1,by rw[v],.inl<|.inl l,rh<|QU i.2,ko k i.1⟩
     .cases g
   |_=>cases e
  |_=>cases e
theorem qc:Loc K 2 .split h fun g H Q=>∀ x y,g=[x,y]->wY x [y] H Q:=by
 intro N w g Z H G Q u e r D P k x y hx
 match N,u with
 | [(m,a),(m2,b)],_ =>
  subst hx;obtain⟨x',r',G1,G2,s,g1,g2,gd,F,p2⟩:=r;cases s;obtain⟨y',e1,p3⟩:=bC rfl p2;cases e1;cases a with
  | str z =>
   cases b with
   | str y =>
    have j:(if((y==Str.ofString " ")&&decide (z.cps.size+2<=M.LIM)&&(M.splS z).all M.sOk)=K1 then Y ((.d,.lst ((M.splS z).map M.T.str)):M.W) else J)=Y w:=e;split at j
    .rename_i i;cases j;rw[Li,Li] at i;have l:y=Str.ofString " ":=eq_of_beq i.1.1;have A:=QU i.1.2
     have t:(M.splS z).length<=M.LIM:=by
      have:∀(g f:U O),(M.spl 32 f g).length<=g.length+1:=by
       intro g;induction g with
       |nil=>intro f;exact La _
       |cons x g o=>
        intro f;unfold M.spl;split
        .rw[Lk,Lk];have:=o [];lia
        .rw[Lk];have:=o<|f++[x];lia
      have h2:=this z.cps.toList [];have h3:z.cps.toList.length=z.cps.size:=Mp;unfold M.splS;rw[K9];lia
     refine⟨z,y,F.1,Q8 (λv=>[v]) p3.1,by rw[l];decide +kernel,LIM_le A,λp hp=>?_⟩;rw[l,qm];exact bV (G':=no) D P (λ_ z=>z.elim) (by rw[K9];exact t) (mV λx hx=>MV.mp i.2 x hx) (by simp) k hp
    .cases j
   |_=>cases e
  |_=>cases e
section
variable {apos cpos:Pos}
theorem Bs (k:SE X sf C ea a)(l:SE X sf C eb b)(j:K7 [eb] X.env=(K0,Q9 eb X.env)::K7 [] X.env:=by rfl)
  (f:M3 ea "join" X.env (Q9 ea X.env)=Q9 ea X.env:=by rfl) (g:(apos.endLine==cpos.line)=true:=by rfl) (d:(Lu cpos<|K7 [] X.env).any (·.1)=false:=by rfl)
  (i:((Lu cpos<|K7 [eb] X.env).all (λx=>!x.1)&&(MJ cpos<|MK [] X.env).all (λx=>x.1.isSome)&&decide ([eb].length+([]:U LN).length+(if([]:U LN).isEmpty then 0 else 1)<30))=true:=by rfl):SE X sf C (.Call (.Attribute ea "join" apos) [eb] [] cpos) (.op .join h [a,b]):=
 av (gX Qz PySem.F.slot_str_join PySem.F.type_str_join zX k (slc l sl0 j) f i g j d) (Bu (λ{m t o w x Z H G} e r=>by
  cases t with
  |str z=>rw[show x=_ from r.1];exact rfl
  |_=>cases e) tM)
theorem nP (k:SE X sf C ea a)(l:SE X sf C eb b)(j:K7 [eb] X.env=(K0,Q9 eb X.env)::K7 [] X.env:=by rfl)
  (f:M3 ea "split" X.env (Q9 ea X.env)=Q9 ea X.env:=by rfl) (g:(apos.endLine==cpos.line)=true:=by rfl) (d:(Lu cpos<|K7 [] X.env).any (·.1)=false:=by rfl)
  (i:((Lu cpos<|K7 [eb] X.env).all (λx=>!x.1)&&(MJ cpos<|MK [] X.env).all (λx=>x.1.isSome)&&decide ([eb].length+([]:U LN).length+(if([]:U LN).isEmpty then 0 else 1)<30))=true:=by rfl):SE X sf C (.Call (.Attribute ea "split" apos) [eb] [] cpos) (.op .split h [a,b]):=
 av (gX Qz PySem.F.slot_str_split PySem.F.type_str_split rY k (slc l sl0 j) f i g j d) (Bu (λ{m t o w x Z H G} e r=>by
  cases t with
  |str z=>rw[show x=_ from r.1];exact rfl
  |_=>cases e) qc)
end
end
end MR

namespace MR
open PySem PySem.Spec PyProof.Rows L2 L3
theorem slx {X:Cx}{d:O->B O}{C:M.Call}{b:Q1}{a:M.E}{c:U Q1}{bs:U M.E}(e:SE X d C b a)(f:SL X d C c bs)(g:K7 (b::c) X.env=(K0,Q9 b X.env)::K7 c X.env):SL X d C (b::c) (a::bs):=slc e f g
theorem sTx {X:Cx}{c:O->B O}{C:M.Call}{a:Pos}{b:U Q1}{bs:U M.E}{e:O}(d:bs.length<=M.LIM)(h:SL X c C b bs):SE X c C (.Tuple b e a) (.tup bs):=sT h d
theorem sLx {X:Cx}{c:O->B O}{C:M.Call}{a:Pos}{h:QT}{b:U Q1}{bs:U M.E}(e:bs.length<=M.LIM)(d:SL X c C b bs):SE X c C (.List b a) (.lst h bs):=sLs d e
theorem aJ {X:Cx}{e:O->B O}{C:M.Call}{d:Pos}{h:QT}{f c:Q1}{a b:M.E}(g:SE X e C f a)(i:SE X e C c b)(j:fI c):SE X e C (.Subscript f c d) (.op .ix h [a,b]):=sIx g i j
end MR

namespace TP
open PySem PySem.W
noncomputable def en (P:LC)(k:Str)(t:O)(v:L):Rh:=⟨PyData.keyHash P k,.str k t,v⟩
def tu (a:U L):Obj:=⟨.type "tuple",J,.seq a.toArray 0,#[]⟩
def fe (a:U L):Obj:=⟨.none,J,.fields a.toArray,#[]⟩
noncomputable def di (a:U Rh)(n:O):Obj:=⟨.type "dict",J,.dict a.toArray n,#[]⟩
abbrev fl:Str:="/claim/cut.py"
def iv (i:I):L:=.int i 0
def cdo (n q:Str)(t t2:O)(c d:O)(f:O)(a:O)(b:QT)(x y z:L):Obj:=
 ⟨.type "code",J,.fields #[.str n t,.str q<|t+1,.str fl<|t+2,iv c,iv d,iv 0,iv 0,iv f,.ref a,.bool b,iv 181,.ref<|a+1,.none,x,y,z,iv t2,iv c,.str fl<|t2+1],#[]⟩
def ofn (c:L)(h:Rf)(q:Str)(g:O)(d m:L)(e:L):Obj:=match h with
|.FunctionDef n a b _ _ _ f _ _ _=>⟨c,J,.func {name:=n,qualname:=q,params:=a,body:=.stmts b,scope:=f,globals:=g,closure:=[],defaults:=d,kwdefaults:=.none,pyModule:=m,code:=e},#[]⟩
|_=>default
noncomputable def tks:U Str->O->U L
|[],_=>[]
|x::r,t=>.str x t::tks r (t+1)
structure R where
 os:U Obj
 ns:U Rh
 tb:U L
 n:O
 tk:O
 md:L
 ss:U Rh
inductive Rc where
 |d|m|c
 |x (k:Str) (kt:O) (v:L) (os:LC->U Obj) (tb:U L) (n tk:O)
 |y (k:Str) (kt:O) (v:L) (os:LC->U Obj) (tb:U L) (n tk:O) (ss:LC->U Rh)
def cv:Q1->L
|.Constant (.bool b) _ _=>.bool b
|_=>.none
def dO (P:LC)(n d:O)(f:L)(g:Rf):R:=match g with
| .FunctionDef e h b _ _ _ i _ _ c =>
 let pr:U Obj×L×O:=match h.defaults with
  |[]=>([],.none,n)
  |ds=>([tu<|ds.map cv],.ref n,n+1)
 let a:=pr.2.2
 match localNames h i (.stmts b) with
 | none=>⟨pr.1++[tu [],fe [],ofn .none g e 0 .none .none .none,cdo e e d (d+3) c.line h.args.length 3 a K1 .none .none (.ref (a+2)),ofn (.type "function") g e 3 pr.2.1 f (.ref (a+3))],
   [en P e (d+5)<|.ref<|a+4],[iv c.line,iv c.col,.ref<|a+3],a+5,d+6,f,[]⟩
 | some l =>
  let k:=l.1.length;let j:=l.2.length
  ⟨pr.1++[tu [],fe [],tu (tks l.1 (d+3)),tu (tks l.2 (d+3+k)),ofn .none g e 0 .none .none .none,cdo e e d (d+3+k+j) c.line h.args.length 3 a K1 (.ref (a+2)) (.ref (a+3)) (.ref (a+4)),ofn (.type "function") g e 3 pr.2.1 f (.ref (a+5))],
   [en P e (d+5+k+j)<|.ref<|a+6],[iv c.line,iv c.col,.ref<|a+5],a+7,d+6+k+j,f,[]⟩
|_=>⟨[],[],[],n,d,f,[]⟩
def one (P:LC)(n a:O)(b:L)(h:Rf):Rc->R
|.d=>dO P n a b h
|.m=>match h with
 |.Assign _ (.Constant (.str s) _ _) _=>⟨[],[],[],n,a+2,.str s a,[]⟩
 |_=>⟨[],[],[],n,a,b,[]⟩
|.c=>match h with
 |.Assign (.Name x _::_) (.Constant (.str s) _ _) _=>⟨[],[en P x (a+1)<|.str s a],[],n,a+2,b,[]⟩
 |.Assign (.Name x _::_) (.Constant (.int i) _ _) _=>⟨[],[en P x (a+1)<|.int i a],[],n,a+2,b,[]⟩
 |_=>⟨[],[],[],n,a,b,[]⟩
|.x k f v os j g e=>⟨os P,[en P k f v],j,g,e,b,[]⟩
|.y k f v os j g e l=>⟨os P,[en P k f v],j,g,e,b,l P⟩
def go (P:LC):U (Rf×Rc)->O->O->L->U R
|[],_,_,_=>[]
|(b,r)::l,n,c,a=>let x:=one P n c a b r
 x::go P l x.n x.tk x.md
def GU (x:R):U R->R
|[]=>x
|y::l=>GU y l
def ds:Data->U Rh
|.dict a _=>a.toList
|_=>[]
noncomputable def ep:Data->O
|.dict _ n=>n
|_=>0
def r0:R:=⟨[],[],[],15,187,.str "__main__" 164,[]⟩
def rs (P:LC)(l:U<|Rf×Rc):U R:=go P l 15 187<|.str "__main__" 164
def o3 (P:LC)(l:U R):Obj:=di (en P "__name__" 165 (GU r0 l).md::((ds (boot_o_3 P).data).tail++l.flatMap R.ns))<|ep (boot_o_3 P).data+(l.flatMap R.ns).length
noncomputable def o2 (P:LC):U Rh->Obj
|[]=>boot_o_2 P
|es=>⟨.none,J,.dict es.toArray es.length,#[]⟩
def os (P:LC)(l:U R):U Obj:=
 boot_o_0 P::boot_o_1 P::o2 P (l.flatMap R.ss)::o3 P l::boot_o_4 P::boot_o_5 P::boot_o_6 P::boot_o_7 P::boot_o_8 P::boot_o_9 P::boot_o_10 P ::
 tu []::fe (l.flatMap R.tb)::cdo "<module>" "<module>" 182 185 1 0 0 11 K0 .none .none .none ::
 ⟨.type "frame",J,.plain,#[Y<|.ref 13,Y<|.ref 3,Y<|.ref 3,J,Y<|.str "__main__" 164,J,Y<|.ref 0]⟩::l.flatMap R.os
def odd {a:Type}:U a->U a×U a
|[]=>([],[])
|x::l=>(x::(odd l).2,(odd l).1)
noncomputable def bt:O->U Obj->BT
|0,_=>.nil
|_+1,[]=>.nil
|k+1,x::l=>.node x (bt k (odd l).1)<|bt k (odd l).2
noncomputable abbrev p0:Pos:=⟨0,0,0,0⟩
abbrev B0:U Frame:=[topFrame p0]
abbrev an:B L:=Y<|.ref 6
noncomputable def ev (p:QZ):Env:={scope:=p.main.scope,locals:=mainNs,globals:=mainNs,cells:=[],code:=.ref 13,frame:=Y 14}
def cE (p:QZ):Code:=.body (NS p)<|ev p
def sT (p:QZ)(rc:U Rc)(P:LC)(m n a:O)(o:RP):SharedT:=⟨bt 12<|os P<|rs P<|(p.main.body.zip rc).take m,n,{},#[],{},a,o⟩
def hp (p:QZ)(rc:U Rc)(m n:O)(P:LC):Q5:=absHeap (bt 12<|os P<|rs P<|(p.main.body.zip rc).take m) n {}
def Cut (p:QZ)(rc:U Rc)(i n t:O)(ps:Pos)(k N b c:O)(a:Pos)(w:K6):Prop:=∀o,segRunT MZ p w 11 an 1 N (sT p rc w.params i n t o) (piecesOf ((p.main.body.drop i).take k) (ev p) (cE p) ps B0)=Y (.next,sT p rc w.params (i+k) b c o,cE p,a)
def Ch (p:QZ)(rc:U Rc)(m a t1:O)(i n t:O)(ps:Pos)(M:O):Prop:=∀w o,topRun MZ p w 11 an M (sT p rc w.params i n t o).abs (restOf (p.main.body.drop i) (ev p) (cE p) ps B0)=Y (sT p rc w.params m a t1 o).abs
theorem bo {p:QZ}{rc:U Rc}{m d t1 i n t k N b e M:O}{ps a:Pos}(c:∀w,Cut p rc i n t ps k N b e a w)(h:Ch p rc m d t1 (i+k) b e a M):Ch p rc m d t1 i n t ps (N+M):=λw o=>by have x:=piece_app (segRun_of<|c w o)<|h w o;rw[<- O9,O6] at x;exact x
theorem Fq {p:QZ}{rc:U Rc}{m a t1:O}{ps:Pos}(hd:p.main.body.drop m=[]):Ch p rc m a t1 m a t1 ps 2:=λw o=>by rw[hd];exact piece_nil rfl
theorem zC (w:K6):((Mc w.params).isNs Ll&&(Oj []:Rg RK).size==0,(Mc w.params).objs.size,(Mc w.params).nsMap Ll "__annotations__")=(K1,11,an):=by kernel_rfl
theorem zd {p q:QZ}{a:U Str}{Xt:K2->QT}{j:Type}{i:K2->j}{h:K6->j}{N M m b t1:O}{rc:U Rc}
  (e:opening p=plainProg p.main.scope.names) (l:Nat.ble 600 N=K1) (f:∀s,fenceModules? p s=Y s) (n:NS p=p.main.body)
  (g:∀w:K6,((Mc w.params).isNs Ll&&(Oj []:Rg RK).size==0,(Mc w.params).objs.size,(Mc w.params).nsMap Ll "__annotations__")=(K1,11,an))
  (pre:∀(w:K6) (o:RP),topGo MZ p w 11 an 12 ⟨Mc w.params,Oj [],boot_drawn,boot_toks,o⟩ (topStub p)=Y ((sT p rc w.params 0 15 187 o).abs,⟨denote MZ<|cE p,cE p,p0,B0⟩))
  (blk:∀(w:K6) (o:RP),segRun MZ p w 11 an 1 1 (sT p rc w.params 0 15 187 o).abs (blockOf (NS p) (ev p) (cE p) p0 B0)=Y (.next,(sT p rc w.params 0 15 187 o).abs,cE p,p0))
  (ch:Ch p rc m b t1 0 15 187 p0 M) (le:Nat.ble (12+(1+M)) N=K1)
  (c:∀w:K6,(λo=>((staticsOk (Oe p.main.body) (Mc w.params) (hp p rc m b w.params)&&namesBound p (hp p rc m b w.params)&&gensDone ⟨hp p rc m b w.params,#[],{},t1,o⟩&&laidKept (Mc w.params) (hp p rc m b w.params)),
    openSeen q a (Oe p.main.body) Xt K1 ⟨hp p rc m b w.params,#[],{},t1,o⟩,i ⟨hp p rc m b w.params,#[],{},t1,o⟩))=λ_=>(K1,openGood q a,h w)):LeftO p q a Xt i h N:=
 LeftO.of_pieces (H₀:=Mc) (H₁:=hp p rc m b) (gs₁:=#[]) (d₁:={}) (k₁:=t1) (boot_open e l f) g
  (λw o=>go_top (pre w o)<|piece_block (blk w o) (by have x:=ch w o;rw[Mr,<- n] at x;exact x)) le c
noncomputable def cb (a:Rf)(j:O):Rf:=match a with
|.ClassDef _ _ _ b _ _ _ _ _ _ _=>b.getD j a
|_=>a
noncomputable def drec (e:Rf):PySem.DefRec:=match e with
|.FunctionDef n a b _ _ _ d _ _ c=>⟨n,a,b,d,c⟩
|_=>⟨default,default,[],default,default⟩
theorem gy {a:Type}:∀(l:U a) (i:O),(odd l).1[i]?=l[2 * i]?/\(odd l).2[i]?=l[2 * i+1]?
|[],i=>by simp[odd]
| x::l,i=>by
 refine⟨?_,?_⟩
 .cases i with
  |zero=>simp[odd]
  |succ j=>rw[show 2 * (j+1)=2 * j+1+1 by lia];simp only[odd,L6];exact(gy l j).2
 .simp only[odd,L6];exact(gy l i).1
theorem oE {a:Type}:∀(l:U a),(odd l).1.length=(l.length+1) / 2/\(odd l).2.length=l.length / 2
|[]=>by simp[odd]
|x::l=>by have h:=oE l;simp only[odd,Lk,h.1,h.2];exact⟨by lia,trivial⟩
theorem mU:∀(k:O) (l:U Obj) (a:O),l.length<2 ^ k->(bt k l).get a=l[a]?
|0,l,a,h=>by have:l=[]:=List.length_eq_zero_iff.mp (by simpa using h);subst this;simp[bt,BT.get]
|k+1,[],a,h=>by simp[bt,BT.get]
| k+1,x::l,a,h=>by
 have e:2 ^ (k+1)=2 * 2 ^ k:=by rw[ON];lia
 have f:=oE l;simp only[Lk] at h;unfold bt;rw[BT.get_node];by_cases c:a=0
 .simp[c]
 .rw [Q0 c];by_cases d:a % 2=1
  .rw [QY d,mU k _ _<|by lia,(gy l<|a / 2).1];obtain⟨b,rfl⟩:∃b,a=b+1:=⟨a-1,by lia⟩;rw[L6];congr 1;lia
  .rw [Q0 d,mU k _ _<|by lia,(gy l<|a / 2-1).2];obtain⟨b,rfl⟩:∃b,a=b+1:=⟨a-1,by lia⟩;rw[L6];congr 1;lia
def lL (p:QZ)(rc:U Rc)(m:O)(P:LC):U Obj:=os P<|rs P<|(p.main.body.zip rc).take m
def kK (p:QZ)(rc:U Rc)(m:O)(as:U QS)(P:LC):Frag:=as.map λa=>(a,(lL p rc m P).getD a default)
noncomputable def okO:B Obj->QT
|some ⟨_,_,.freed,_⟩=>K0
|some _=>K1
|none=>K0
theorem ph {p:QZ}{rc:U Rc}{m:O}{P:LC}{a:QS}{o:Obj}:∀{as:U QS},(kK p rc m as P).lookup a=Y o->a∈as/\o=(lL p rc m P).getD a default
|[],h=>by simp[kK] at h
| b::as,h=>by
 unfold kK at h;rw[Ln,Mo] at h;by_cases e:a=b
 .subst e;rw[Q2] at h;exact⟨Lg ..,(LG h).symm⟩
 .rw [Rt e] at h;have x:=ph (as:=as) h;exact⟨Lr _ x.1,x.2⟩
def hkk (p:QZ)(rc:U Rc)(m n:O):Hook where
 α:=Rg Obj
 obs s:=s.heap.objs
 val w:=(hp p rc m n w.params).objs
 says w h:=∀a o,(hp p rc m n w.params).get? a=Y o->h.get? a=Y o
 of w s e a o x:=by unfold Heap.get? at *;rw[e];exact x
 keeps w h h' X k a o x:=k _ _<|X a o x
theorem J1 {p:QZ}{rc:U Rc}{m n:O}{as:U QS}{w:K6}{h:Q5}(j:Nat.blt (lL p rc m w.params).length 4096=K1)(i:(as.all λa=>Nat.blt a n&&okO (lL p rc m w.params)[a]?)=K1)
  (b:(hkk p rc m n).says w h):(kK p rc m as w.params).In h:=λa o e=>by
 obtain⟨e1,e2⟩:=ph e;obtain⟨c1,c⟩:=LB.mp<|MV.mp i a e1;refine b a o ?_;have f:a<n:=LI c1;have c4:(lL p rc m w.params).length<2 ^ 12:=LI j;have g:=mU 12 (lL p rc m w.params) a c4;unfold hp Heap.get?;rw[absHeap_at,QY f];show(match Y (((bt 12<|lL p rc m w.params).get a).getD default) with|some ⟨_,_,.freed,_⟩=>J|o=>o)=Y o;rw[g];rw[Oy] at e2;rw[<- e2];cases q:(lL p rc m w.params)[a]? with
 |none=>rw[q] at c;cases c
 |some x=>rw[q] at c e2;have e3:o=x:=e2;subst e3;obtain⟨_,_,d,_⟩:=o;cases d<;>first|rfl|cases c
noncomputable def pmO:B Obj->L
|some ⟨_,_,.func f,_⟩=>f.pyModule
|_=>.none
def rfO:B (B L)->O
|some (Y (.ref a))=>a
|_=>0
noncomputable def tkO:B (B L)->O
|some (Y (.int _ t))=>t
|some (Y (.str _ t))=>t
|_=>0
theorem raw_mk {K:Frag}{x:Str}{a:Rf}{dV:L}(b:RQ K Ll x=Y (Y<|.ref<|rfO<|RQ K Ll x))
  (c:K.lookup (rfO<|RQ K Ll x)=Y ⟨.type "function",J,.func<|fnOf x x (L2.defArgs a) (L2.defBody a) (L2.defScope a) dV .none .none (pmO<|K.lookup<|rfO<|RQ K Ll x) J (.ref<|rfO (RQ K Ll x)-1) .none,#[]⟩)
  (d:codeIn K (.ref<|rfO (RQ K Ll x)-1) x=K1) (e:keepIn K (.ref<|rfO<|RQ K Ll x)=K1):MR.Raw K x a dV:=⟨_,_,_,_,_,_,_,_,_,_,b,c,d,e⟩
noncomputable def toV:L->L2.V
|.bool b=>.bl b
|.int i _=>.int i
|.str s _=>.str s
|.ref a=>.ref a
|_=>.non
noncomputable def okV:L->QT
|.none=>K1
|.bool _=>K1
|.int _ _=>K1
|.str _ _=>K1
|.ref _=>K1
|_=>K0
theorem pX:∀{v:L},okV v=K1->L2.RelV (toV v) v
|.none,_=>rfl
|.bool _,_=>rfl
|.int _ _,_=>⟨_,rfl⟩
|.str _ _,_=>⟨_,rfl⟩
|.ref _,_=>rfl
|.ellipsis,h=>by cases h
|.notImplemented,h=>by cases h
|.float _ _,h=>by cases h
|.bytes _ _,h=>by cases h
|.type _,h=>by cases h
|.builtin _,h=>by cases h
theorem l7:∀{l:U L},l.all okV=K1->L2.Vals (l.map toV) l
|[],_=>.nil
|v::l,h=>by rw[NF,LB] at h;exact .cons (pX h.1)<|l7 h.2
noncomputable def eK (e:Rh):Str×O×L:=match e.key with
|.str k t=>(k,t,e.val)
|_=>("",0,e.val)
def tE:B Obj->U (Str×O×L)
|some o=>(ds o.data).map eK
|none=>[]
def tN:B Obj->O
|some o=>ep o.data
|none=>0
def enL (P:LC)(l:U<|Str×O×L):U Rh:=l.map λe=>en P e.1 e.2.1 e.2.2
def tL (l:U<|Str×O×L):U (Str×L2.V):=l.map λe=>(e.1,toV e.2.2)
theorem mi {P:LC}:∀l:U<|Str×O×L,KeysLit P<|enL P l
|[]=>trivial
|e::l=>⟨⟨_,_,rfl,rfl⟩,mi l⟩
theorem l8 {P:LC}:∀{l:U<|Str×O×L},(l.all λe=>okV e.2.2)=K1->PySem.Paired (λ(p:Str×L2.V) (e:Rh)=>(∃t,e.key=.str p.1 t)/\L2.RelV p.2 e.val) (tL l) (enL P l)
|[],_=>.nil
|e::l,h=>by rw[NF,LB] at h;exact .cons ⟨⟨_,rfl⟩,pX h.1⟩<|l8 h.2
theorem tab_mk {K:Frag}{w:K6}{x:Str}(a:RQ K Ll x=Y (Y<|.ref<|rfO<|RQ K Ll x))
  (b:K.lookup (rfO<|RQ K Ll x)=Y (di (enL w.params<|tE<|K.lookup<|rfO<|RQ K Ll x)<|tN<|K.lookup<|rfO<|RQ K Ll x))
  (c:((tE<|K.lookup<|rfO<|RQ K Ll x).all λe=>okV e.2.2)=K1) (d:(rfO (RQ K Ll x)==L0)=K0):MR.TabRaw K w x (tL<|tE<|K.lookup<|rfO<|RQ K Ll x):=
 ⟨_,_,_,a,b,mi _,l8 c,d⟩
def iN {c d:Type}(f:c->d->QT):U c->U d->QT
|[],[]=>K1
|a::l,b::r=>f a b&&iN f l r
|_,_=>K0
def nu (K:Frag):O->M.T->L2.V->QT
|_+1,.int i,.int j=>decide (i=j)
|_+1,.non,.non=>K1
|_+1,.bl a,.bl b=>decide (a=b)
|_+1,.str x,.str y=>decide (x=y)&&M.sOk x
|n+1,.tup d,.ref a=>match K.lookup a with
 |some ⟨.type "tuple",_,.seq c _,_⟩=>Nat.ble c.size 1000&&(c.toList.all okV&&iN (nu K n) d (c.toList.map toV))
 |_=>K0
|_,_,_=>K0
theorem oB {K:Frag}{n:O}(c:∀t v,nu K n t v=K1->MR.CstR K t v):∀{a:U M.T} {b:U L2.V},iN (nu K n) a b=K1->MR.CstRs K a b
|[],[],_=>MR.cst_nil
|t::a,x::b,h=>by unfold iN at h;rw[LB] at h;exact MR.cst_cons (c _ _ h.1)<|oB c h.2
|[],_::_,h=>by cases h
|_::_,[],h=>by cases h
theorem x6 {K:Frag}:∀n t v,nu K n t v=K1->MR.CstR K t v:=by
 intro n;induction n with
 |zero=>intro t v h;simp[nu] at h
 | succ n b =>
  intro t v h;unfold nu at h;split at h
  .rename_i q;cases q;have e:=QU h;subst e;exact MR.cst_int _
  .exact MR.cst_non
  .have e:=QU h;subst e;exact MR.cst_bl _
  .rw[LB] at h;have e:=QU h.1;subst e;exact MR.cst_str h.2
  .rename_i q;cases q;split at h
   .rename_i c k d q;rw[LB,LB] at h;have a:=LI h.1;exact MR.cst_tup q rfl rfl (Lf a<|by decide) (l7 h.2.1) (by rw[K9,Mp];exact Lf a<|by decide) (oB b h.2.2)
   .cases h
  .cases h
theorem cst_of {K:Frag}{n:O}:∀{tab:U<|Str×M.T} {T:U<|Str×L2.V},iN (λ(e:Str×M.T) (p:Str×L2.V)=>decide (p.1=e.1)&&nu K n e.2 p.2) tab T=K1->MR.CstL K tab T
|[],[],_=>trivial
|e::tab,p::T,h=>by unfold iN at h;rw[LB,LB] at h;exact⟨⟨QU h.1.1,x6 n _ _ h.1.2⟩,cst_of h.2⟩
|[],_::_,h=>by cases h
|_::_,[],h=>by cases h
end TP

namespace MR
open PySem PySem.Spec PyProof.Rows L2 L3
theorem walkX {sx:Str}{C:M.Call}{ix k:O}{l:Pd}{q:QZ}{c:U Str}{t:(Str->B L)->Q5->Prop}{j:K6->Q5->Prop}{d:DefRec}{K:LC->K3}(hp:∀g:U I,g.length<=63->∃m bs,C ix [(.d,.scr g)]=.ok ((m,.bl K1),bs))(D:l.most=Y 63)(i:d.params.defaults=[])(G:Room k MW)
  (A:∀(w:K6) (h:Q5),j w h->(K w.params).In h)
  (F:∀ (w:K6) (e:Str->B L) (o:QS) (h:Q5),(K w.params).In h->h.Ns Ll e->e d.name=Y (.ref o) ->
   ∃p:LZ,(∀(s:K2) (u:L),MX s p ⟨[u],[]⟩ [(sx,u)])/\∀b:Q5,(K w.params).In b->b.Ns Ll e->dJ l.prog w (K w.params) e b CX0 k o p [sx] (spS (K w.params) C ix [])):
  Qa q c t j l.row.toRowW d [] (λf H=>OS f H):=
 L2.walk_of (n:=63) (k:=k) (x:=sx) (CX:=λ_=>CX0) (sp:=λw=>spS (K w.params) C ix []) D (by decide) i G A F (λ_ _ a g r v y=>ET (hp g r) r v y) λ_ _ _ _ _ z=>z
theorem yt {d:Str}{w:K6}{K:K3}{c:Str->B L}{st:Rf}{h:Q5}{n:QS}{pr:QZ}{k:O}{sp:Sp}(X:K.In h)(G:h.Ns Ll c)(l:c "law"=Y (.ref n))(r:Raw K "law" st .none)(x:∀(kV j m:L) (an:B QS) (g i:L) (s:K2) (v:L),MX s (MP "law" "law" (defArgs st) (defBody st) (defScope st) .none kV j m an g i) ⟨[v],[]⟩ [(d,v)])
  (ok:∀f b,Fun K "law" "law" st f b->∀a,dJ pr w K c a CX0 k f b [d] sp):∃b:LZ,(∀(s:K2) (v:L),MX s b ⟨[v],[]⟩ [(d,v)])/\∀a:Q5,K.In a->a.Ns Ll c->dJ pr w K c a CX0 k n b [d] sp:=by
 obtain⟨f,y,z,A,kV,j,m,an,g,i,o,p,t,u⟩:=r;have e:=l.symm.trans<|Ox X G o;cases e;exact⟨_,x kV j m an g i,λa _ _=>ok _ _ (sR (st:=st) p t u) a⟩
end MR


namespace L3
open PySem PySem.Spec PyProof.Rows L2
noncomputable abbrev eT1 (h:Q5)(a:QS):Q5:=h.push {cls:=.type "tuple_iterator",data:=.fields #[.ref a,.int 0 0]}
abbrev eT2 (h:Q5)(a:QS):Q5:=(eT1 h a).push {cls:=.type "enumerate",data:=.fields #[.none,.bool K0,.ref h.objs.size,MA 0,.none,.none]}
theorem Ek {e:Type}{c:Prop}[Decidable c]{M:Model}{A:Lj}{E:L->K2->Prop}{s:K2}{a b:Sem e}{Q:e->K2->Prop}(f:QX M A a Q E s)(g:QX M A b Q E s):QX M A (if c then a else b) Q E s:=by
 by_cases d:c
 .rw[QY d];exact f
 .rw[Q0 d];exact g
theorem la (a:QS)(c:Rg L):
  Meets (ML.«enumerate.__new__» ⟨[.type "enumerate",.ref a],[]⟩) (λ_ R s=>s.heap.IsTuple a c/\R (.ok<|.ret<|.ref (eT1 s.heap a).objs.size) {s with heap:=eT2 s.heap a}):=
 .of_wp λprog w A R s h=>by
  obtain⟨hp,g,d,f,os⟩:=s;obtain⟨e,h⟩:=h;have b:=sub_enumerate;have e1:Heap.IsTuple (Shared.heap ⟨hp,g,d,f,os⟩) a c:=e
  wp_walk using MY e1
  refine wpAny_stack λi _ _ _=>Lc ?_;show QX _ _ (if _=K1 then(pure (Value.ref a,(none:B L)) >>= _) else(pure (Value.ref a,(none:B L)) >>= _)) _ _ _;refine Ek ?_ ?_
  .refine K4 (Lc ?_);show QX _ _ (pyIter (.ref a) >>= _) _ _ _
   wp_walk using MY e1
   exact⟨_,rfl,h⟩
  .refine K4 (Lc ?_);show QX _ _ (pyIter (.ref a) >>= _) _ _ _
   wp_walk using MY e1
   exact⟨_,rfl,h⟩
theorem mB {prog:QZ}{w:K6}{A:Lj}{E:L->K2->Prop}{s:K2}{a:QS}{e:Rg L}{Q:L->K2->Prop}(g:s.heap.IsTuple a e)
  (h:∀b,IsEnum b (s.heap.objs.size+1) s.heap.objs.size 0 .none->b.IsTupleIter s.heap.objs.size a 0->(∀c o,s.heap.get? c=Y o->b.get? c=Y o)->Q (.ref<|s.heap.objs.size+1) {s with heap:=b}):
  QX (K5 prog w) A (call (.type "enumerate") [.ref a]) Q E s:=by
 refine callType_new F.called_enumerate (by decide) (F.typeCall_enumerate_1 _) (F.newCall_enumerate_1 _) (λobj=>F.args_object_init_2 obj _) F.entry_enumerate_new (la a e) ⟨g,?_⟩;have e1:(eT1 s.heap a).objs.size=s.heap.objs.size+1:=Heap.size_push ..;have d:(eT2 s.heap a).get? (eT1 s.heap a).objs.size=Y _:=Heap.get?_push_size _ rfl;have f:(eT2 s.heap a).get? s.heap.objs.size=Y _:=Heap.get?_push_of_some _<|Heap.get?_push_size _ rfl;show _/\_;rw[e1] at d;rw[e1];exact⟨⟨_,d,rfl⟩,h _ d ⟨_,f,rfl,rfl⟩ λc o x=>Heap.get?_push_of_some _<|Heap.get?_push_of_some _ x⟩
theorem rH {prog:QZ}{w:K6}{A:Lj}(p:A.handled=J)(b t:QS)(f:t≠b)(d:Rg L):Draws prog w A b [b,t] d.size (λi v=>d[i]?=Y v) (λi h=>h.IsTupleIter b t i/\h.IsTuple t d) where
 live:=λi h a=>let ⟨o,e,_⟩:=a.1;⟨o,e⟩
 frame:=λi h c a k=>⟨a.1.at λo e=>k b (by simp) o e,by obtain⟨o,e,r⟩:=a.2;exact⟨o,k t (by simp) o e,r⟩⟩
 item:=λi s Q E j a q=>by refine gW a.1 a.2 (x:=d[i]) (Qq j) λc g l=>q _ c s.toks (Qq j) ⟨g,?_⟩ l;obtain⟨o,e,r⟩:=a.2;exact⟨o,(l.2 t f).trans e,r⟩
 done:=λs Q E a q=>fR p a.1 a.2 (Pp<|La _) λc e m n=>q c e m n
theorem rq {prog:QZ}{w:K6}{A:Lj}(j:A.handled=J)(b t:QS)(n:O)(d:Rg L)(m:d.size<=n):Draws prog w A b [b,t] n (λ_ _=>Q6) (λi h=>i=n/\h.IsTupleIter b t n/\h.IsTuple t d) where
 live:=λi h a=>let ⟨o,e,_⟩:=a.2.1;⟨o,e⟩
 frame:=λi h c a k=>⟨a.1,a.2.1.at λo e=>k b (by simp) o e,by obtain⟨o,e,r⟩:=a.2.2;exact⟨o,k t (by simp) o e,r⟩⟩
 item:=λi s Q E l a q=>QW a.1<|Lp l
 done:=λs Q E a q=>fR j a.2.1 a.2.2 (Pp m) λc e f g=>q c e f g
def HD (K:K3)(a:QS):It:=
 ⟨fun i H=>∃ b x,SqT K H a b/\b[i]?=Y x,
  λi H v c=>∃p x,v=.ref p/\H p=J/\c=upd H p (.tup [.int (i:I),x])/\∀b,SqT K H a b->b[i]?=Y x,
  λi H=>∃b,SqT K H a b/\b.length<=i⟩
theorem nD {P:QZ}{w:K6}{K:K3}{es:U Q1}{kt:O}{pt:Pos}{e l a:QS}(r:e≠l)(hae:a≠e)(hai:a≠l):qr P w K (.Tuple es kt pt) (HD K a) [e,l] e (λi h=>(∃j,IsEnum h e l (i:I) j)/\h.IsTupleIter l a i) where
 mem:=by simp
 obj:=λi h n b g=>by
  obtain⟨⟨j,m⟩,p⟩:=n;simp only[Lm,LY,Rm] at g;rcases g with rfl|rfl
  .exact⟨_,m,λv y=>by cases y⟩
  .obtain ⟨o,M,_,d⟩:=p;exact⟨o,M,λv y=>by rw[d] at y;cases y⟩
 keep:=λi h D n k=>by obtain⟨⟨j,m⟩,p⟩:=n;exact⟨⟨j,k e (by simp) _ m⟩,p.at λo z=>k l (by simp) o z⟩
 item:=by
  intro X Z hw Q hc i u s σ H E c F n hg;subst Z hw Q;obtain⟨xs,x,G,hx⟩:=hg;obtain⟨⟨j,m⟩,p⟩:=n;obtain⟨f,v1,o1,z1⟩:=c.tuple G;obtain⟨u1,e1,r1⟩:=v1.get hx
  have lt:∀b∈[e,l],b<s.heap.objs.size:=λb g=>by
   simp only[Lm,LY,Rm] at g;rcases g with rfl|rfl
   .exact Heap.lt_size m
   .obtain⟨o,M,_⟩:=p;exact Heap.lt_size M
  have hit:i<f.toArray.size:=by have:=(L8.mp e1).1;simpa using this
  refine wpAny_pyNext_enum_itemD (rH (A:=X.A.in1) (c.ok.hd hc) l a hai f.toArray) m ⟨p,(show s.heap.IsTuple a f.toArray from o1)⟩ hit r (by simp only[Lm,LY,Rm,not_or];exact⟨r,LF hae⟩) λx' D tk px y1 y2 y3 y4 y5=>⟨_,rfl,?_⟩
  have ex:x'=u1:=by
   have:f[i]?=Y x':=by simpa using px
   rw[e1] at this;cases this;rfl
  subst ex;refine wpAny_letOwnedTupleGo_enum (s:={s with heap:=D,toks:=tk+1}) y1 λN w1 sb=>?_;have t:Heap.SameBut e D N:=sb;have nz:s.heap.objs.size≠e:=MQ (lt e<|by simp);have kk:∀b o,b ∉ [e,l]->s.heap.get? b=Y o->N.get? b=Y o:=λb o g z=>by simp only[Lm,LY,Rm,not_or] at g;exact(t.2 b g.1).trans<|y5 b o g.1 g.2 z
  have tp:RB N s.heap.objs.size [.int (i:I) tk,x'].toArray:=⟨_,(t.2 _ nz).trans y3,rfl,_,rfl⟩
  refine⟨.ref s.heap.objs.size,upd H s.heap.objs.size<|.tup [.int (i:I),x],eh (s:=s) (t':=tk+1) c F kk (La _) (by show 2<=sizeLine;decide) (.cons ⟨_,rfl⟩<|.cons r1 .nil) tp,rfl,
   ⟨_,x,rfl,c.fresh,rfl,λzs hz=>by rw[c.tuple_inj hz G];exact hx⟩,?_,λb g=>?_⟩
  .exact⟨⟨_,w1⟩,y2.1.at λo z=>(t.2 _<|LF r).trans z⟩
  .rw[ag<|Lp<|lt b g];exact(F b g).1
 done:=by
  intro X Z hw Q hc i u s σ H E c F n hg;subst Z hw Q;obtain⟨xs,G,hl⟩:=hg;obtain⟨⟨j,m⟩,p⟩:=n;obtain⟨f,v1,o1,z1⟩:=c.tuple G;have l1:=v1.length;have l2:f.toArray.size<=i:=by simp;lia
  refine wpAny_pyNext_enum_endD (rq (A:=X.A.in1) (c.ok.hd hc) l a i f.toArray l2) m ⟨rfl,p,(show s.heap.IsTuple a f.toArray from o1)⟩ λD eb=>⟨rfl,gG (t':=s.toks) c F λb o g z=>eb b o (λy=>g<|by simp[y]) z⟩
 self:=λ_ _ _ _ _ n h=>by obtain⟨⟨j,m⟩,_⟩:=n;exact wpAny_pyIter_enum m h
def vW (K:K3)(c:TA):TI:=λf H R=>c f H λd b=>∃a,d=[.ref a]/\(∃e,SqT K b a e)/\R (HD K a) b
theorem tR {X:Cx}{a:Q1}{v:TA}{p i pt:Pos}{x:U Q1}{M:O}(A:Gl X "enumerate")(D:X.mg "enumerate"=J)(z:PA X [a] v)(F:K7 [a] X.env=[(K0,Q9 a X.env)]:=by rfl):
  PI X (.Tuple x M pt) (.Call (.Name "enumerate" p) [a] [] i) (vW X.K v):=by
 intro g s Q H R c h;refine Call_<|fT c A D boot_enumerate<|Oz (thn (z i g s Q H _ c h) λZ j ⟨vs,w,k,r1,l⟩=>?_) F rfl;obtain⟨a,rfl,⟨xs,n⟩,q⟩:=l;cases r1 with
 | cons r P =>
  cases P;cases r;obtain⟨m,v1,u,z1⟩:=k.tuple n;have f:a<j.heap.objs.size:=by obtain⟨o,e,_⟩:=u;exact Heap.lt_size e
  refine mB (show j.heap.IsTuple a m.toArray from u) λy l N G=>?_;refine wpAny_pyIter_enum (s:={j with heap:=y}) l ?_;refine⟨_,_,_,_,w,rfl,k.kept (t':=j.toks) G,nD (Nat.succ_ne_self _) (Lp<|PM f)<|Lp f,⟨⟨_,l⟩,N⟩,λb t=>?_,q⟩;have d:j.heap.objs.size<=b:=by simp only[Lm,LY,Rm] at t;rcases t with e|e<;>(rw[e];first|exact Pz _ _|exact La _)
  exact k.fpOk d<|k.hok.fresh d
end L3
namespace MR
open PySem PySem.Spec PyProof.Rows L2 L3
section
variable {X:Cx}{sf sg:O->B O}{C:M.Call}{pos p p2 p3:Pos}{ea eb ec:Q1}{a b c:M.E}{h:QT}{n:O}{io:U O}{K:K3}
theorem yN {e:M.E}(D:L2.St)(H:Hp)(R:It->Hp->Prop)(h:wI K sf C 2 .enmT [e] D H R):vW K (wL K sf C [e]) D H R:=by
 obtain⟨pv,Z,F,η,ws,u,ts,A,ev,w,k⟩:=h;refine⟨pv,Z,F,η,ws,u,A,ev,λvs Z' N t G f r s=>?_⟩;obtain⟨⟨m,a⟩,η1,us,e1,e2,rfl⟩:=az ev;cases e2;obtain⟨x,rfl,r1⟩:=bC rfl r;obtain⟨t1,rfl⟩:∃t1,a=.tup t1:=by cases a<;>first|exact⟨_,rfl⟩|cases w
 cases w;obtain⟨a,o,rfl,q,l,p⟩:=Rep.sh r1;have l1:=p.length;refine⟨a,rfl,⟨o,q⟩,k _ _ N t f.freeze (bg f.own s) ⟨λv i s g=>?_,λv i s g=>?_,by rw[dj];lia⟩ λv i x H1 s g y=>?_⟩
 .rw [dj] at g;exact⟨o,o[i]'(by lia),s.sqt q,by simp⟩
 .rw [dj] at g;exact⟨o,s.sqt q,by lia⟩
 .rw [dj] at g;obtain⟨P,x1,rfl,hp,rfl,hx⟩:=y;obtain⟨x',j,Q⟩:=p.get (show t1[i]?=Y t1[i] by simp);rw[hx o<|s.sqt q] at j;cases j;refine⟨P,.int i,x1,(.d,.int ((0+i:O):I)),(.s,t1[i]),rfl,vU hp,.inl<|.inl af,jB<|by simp,?_,Q.sany.keep s (λ_ z=>z) λ_ _ z=>z.elim⟩;show V.int (i:I)=V.int ((0+i:O):I);rw[NK]
theorem sL {e:U Q1}{g:O}{pt p:Pos}(hm:X.mg "enumerate"=J)(f:Gl X "enumerate":=by rfl)(ha:SE X sf C ea a)(d:K7 [ea] X.env=[(K0,Q9 ea X.env)]:=by rfl):PI X (.Tuple e g pt) (.Call (.Name "enumerate" p) [ea] [] pos) (wI X.K sf C 2 .enmT [a]):=lX (tR f hm (slc ha sl0 d) d) yN
end
end MR

namespace L3
open PySem PySem.Spec PyProof.Rows L2
theorem JD {prog:QZ}{w:K6}{A:Lj}{E:L->K2->Prop}{s:K2}{t b:QS}{k:U L}{Q:L->K2->Prop}(p:RB s.heap t ([]:U L).toArray)(o:RB s.heap b k.toArray)(h:Q (.ref b) s):QX (K5 prog w) A (LU .Add (.ref t)<|.ref b) Q E s:=by
 obtain⟨⟨l,m,i,u⟩,ho,j,n,hd⟩:=id p;obtain⟨⟨g,e,data2,f⟩,d,a,r,c⟩:=id o;simp only at j hd a c;subst j hd a c
 exact RM ⟨_,ho,rfl⟩ ⟨_,d,rfl⟩ OI RF Pq Pf (Pk _ _)
  (tuple_addW0 t b ([]:U L).toArray k.toArray n r m e u f rfl) ⟨ho,d,h⟩
def sF (K:K3):R2:=λx y H Q=>∃a b e f,x=.ref a/\y=.ref b/\SqT K H a e/\SqT K H b f/\e.length+f.length<=sizeLine/\∀v d,Same H d->(∃c,v=.ref c/\SqT K d c (e++f))->Q v d
theorem pN {X:Cx}:OpR X (LU .Add) (sF X.K):=λd s r H x y v u Q c j k h=>by
 obtain⟨a,b,l,p,e1,e2,g,e,m,q⟩:=h;by_cases hx:l=[]
 .subst hx e1 e2;cases j;cases k;obtain⟨f,r1,n,_⟩:=c.tuple g;obtain⟨i,r2,o,_⟩:=c.tuple e;have:f=[]:=by cases r1;rfl
  subst this;exact JD n o ⟨.ref b,H,c,rfl,q _ _ (Same.refl _) ⟨b,rfl,e⟩⟩
 .exact pB d s r H x y v u Q c j k ⟨a,b,l,p,e1,e2,g,e,hx,m,q⟩
theorem y0 {X:Cx}{o e:Q1}{c d:Pos}{ty:TE}{ad:QS}{T:U<|Str×V}(D:DTab X.K X.w ad T)(ho:PE X o<|tC<|.ref ad)(M:PE X e ty)(m:M1 X o "get" c e d):PE X (.Call (.Attribute o "get" c) [e] [] d) (λk H Q=>ty k H λy i=>∃z,y=.str z/\Q ((T.lookup z).getD .non) i):=by
 intro g s k H Q a h;refine Og m.base m.few m.line OF Nu Pn<|thn (ho g s k H (λx l=>x=.ref ad/\ty k l λy i=>∃z,y=.str z/\Q ((T.lookup z).getD .non) i) a ⟨rfl,h⟩) λu s1 ⟨x,l,p,rx,A,q1⟩=>?_;subst A;obtain rfl:u=Value.ref ad:=rx;obtain⟨f,N,hf⟩:=D.map (P:=X.prog) p.kIn;obtain⟨es,n,Z,k2,k3⟩:=D.ex;refine⟨N.typeIs,λb q=>?_,?_⟩
 .cases q;exact⟨_,p.kIn _ _ Z,rfl⟩
 rw[m.trees];refine Calls.callWith_builtin rfl (Calls.evalArgs_plain<|Calls.spliced_cons<|thn (M g s1 k l _ p q1) λiv s2 ⟨y,i,v,ry,z,F,q2⟩=>Calls.spliced_nil ?_);subst F;obtain⟨t,rfl⟩:=ry;obtain⟨G,j,r⟩:=D.map (P:=X.prog) v.kIn;exact NQ Nu j.typeIs OE (Pr _ _) (meets_dict_get (strKind X.prog X.w) ad (NO X.prog X.w z t) D.lo) ⟨G,j,(T.lookup z).getD .non,i,v.tok _,(r z).getD<|show L2.RelV .non Value.none from rfl,q2⟩
theorem je:∀{a:U Str} {b:U L},StrsAre b a->Vals (a.map V.str) b
|_,_,.nil=>.nil
|_,_,.cons n t h=>.cons ⟨t,rfl⟩<|je h
end L3
namespace MR
open PySem PySem.Spec PyProof.Rows L2 L3
section
variable {X:Cx}{sf sg:O->B O}{C:M.Call}{pos p p2 p3:Pos}{ea eb ec:Q1}{a b c:M.E}{h:QT}{n:O}{io:U O}{K:K3}
theorem vj:Loc K 2 .catT h λf H Q=>∀x y,f=[x,y]->sF K x y H Q:=by
 intro ws w f Z H G Q hn e r N za k x y hx;subst hx;obtain⟨⟨m,a⟩,⟨n,b⟩,rfl⟩:=cW r.length.symm;obtain⟨G1,G2,P,w2,d,r1,r2⟩:=bA r;cases a with
 | tup o =>
  cases b with
  | tup t =>
   have g:(if M.fits (o.length+t.length)=K1 then Y ((.s,.tup (o++t)):M.W) else J)=Y w:=e;split at g
   .rename_i u;cases g;obtain⟨a,f,rfl,D,hl,p⟩:=cF r1;obtain⟨b,ys,rfl,j,A,p2⟩:=cF r2;have l:=cM u;have e1:=p.length;have e2:=p2.length;refine⟨a,b,f,ys,rfl,rfl,D,j,LIM_le (by lia),λv H' same F=>fB (m:=.s) (G':=no) N (λ_ z=>z.elim) (by rw[K8];lia) (RepL.append (G1:=no) (G2:=no) (λ_ z=>z) (λ_ z=>z) (λ_ z _=>z) ((RepL.sh p).zmono λb i=>?_) ((RepL.sh p2).zmono λb i=>?_)) k same F⟩
    .exact i.imp id λz=>⟨P b z,λq=>q⟩
    .exact i.imp id λz=>⟨w2 b z,λq=>q⟩
   .cases g
  |_=>cases e
 |_=>cases e
theorem aq (d:SE X sf C ea a)(e:SE X sf C eb b):SE X sf C (.BinOp ea .Add eb pos) (.op .catT h [a,b]):=av (eM pN d e)<|aK vj
theorem yQ {w:K6}{ad:QS}{T:U<|Str×V}{tab:U<|Str×M.T}{e:M.E}(ht:∀z,match tab.lookup z with
  |some t=>∃v,T.lookup z=Y v/\CstR K t v
  |none=>T.lookup z=J) (F:L2.St) (H:Hp) (Q:VK) (h:wE K sf C (.getT tab e) F H Q):wE K sf C e F H λy P=>∃z,y=.str z/\Q ((T.lookup z).getD .non) P:=by
 obtain⟨pv,Z,N,D,x,η',A,ev,k⟩:=h;obtain⟨⟨u,η1⟩,h1,h2⟩:=aa<|show(M.evE C e D).bind (M.kGet tab)=_ from ev;obtain⟨z,e1,e2,e3⟩:=mr h2;cases e2;refine⟨pv,Z,N,D,u,_,A,h1,λy i g f G d r s=>?_⟩;obtain⟨m,t0⟩:=u;cases(show t0=_ from e1);have q:=ht z;refine⟨z,r.1,?_⟩;cases o:tab.lookup z with
 |none=>rw[o] at q e3;rw[show T.lookup z=J from q];have j:x=(.s,.non):=e3;subst j;exact k _ i g f no d.bare rfl (s.mono (λ_ z=>z) λa l=>l.elim .inl λz=>z.elim)
 |some t=>rw[o] at q e3;obtain⟨v,q1,q2⟩:=q;rw[q1];have j:x=(.s,t):=e3;subst j;exact k v i g f no d.bare (q2 i g)<|s.mono (λ_ z=>z) λa l=>l.elim .inl λz=>z.elim
theorem G7 {x:Str}{tab:U<|Str×M.T}{d e:Pos}(T:kq X.K X.w X.mg x tab)(f:SE X sf C ea a)(g:Gl X x:=by rfl)(hd:(x==("__debug__":Str))=false:=by decide)(m:M1 X (.Name x p2) "get" d ea e:=by exact⟨rfl,rfl,rfl,rfl⟩):SE X sf C (.Call (.Attribute (.Name x p2) "get" d) [ea] [] e) (.getT tab a):=by obtain⟨ad,k,i,D,j⟩:=T;exact av (y0 D (iA g i hd) f m)<|yQ (w:=X.w) (ad:=ad) j
theorem zY {Z:Fp}{H:Hp}{G:Fp}{Q:VK}{p:QS}(e:Own Z H G)(f:∀a,Z a->H a≠J)(k:Out K Z H G (.d,.dct [] []) Q)(hp:H p=J):Q (.ref p) (upd H p<|.dK []):=by refine k _ Z _ (λa=>a=p) ⟨p,[],rfl,LH _,⟨rfl,af⟩,⟨N9,λ_ z=>nomatch z⟩,rfl,rfl⟩ ?_<|d9 hp e (λa h=>.inr h) Z (λ_ z=>z) λ_ z=>.inl z;rintro a rfl;exact⟨λz=>f a z hp,.inr [],af⟩
theorem xQ (e:L2.St)(H:Hp)(Q:VK)(j:wE K sf C (.op .dnew h []) e H Q):uq e H Q:=by obtain⟨pv,Z,d,l,w,m,A,ev,k⟩:=j;obtain⟨r,g,i⟩:=cD ev;cases g;cases i;intro p hp;have f:At K ⟨sf,pv⟩ e Z H d l no:=A;have o:=bE (F:=tot d) f ((Step.refl Z H<|tot d).mono (λ_ z=>z) λ_ z=>z.elim id λq=>q.elim) k;exact zY b7 A.gd.zal o hp
theorem r8:SE X sf C (.Dict [] [] pos) (.op .dnew h []):=av xn xQ
end
end MR

namespace L3
open PySem PySem.Spec PyProof.Rows L2
theorem wQ:∀{b:U Str} {c:U V} {a:U<|Key×L},KV (MR.mkD (b.map LP) c) a->c.length=b.length->∀(j:O) (k:Key) (x:L),a[j]?=Y (k,x)->∃z,b[j]?=Y z/\k=LP z
|[],[],a,r,_,j,k,x,h=>by
 have:a=[]:=by cases r;rfl
 subst this;simp at h
|[],_::_,_,_,e,_,_,_,_=>by cases e
|_::_,[],_,_,e,_,_,_,_=>by cases e
| z::b,y::c,a,r,e,j,k,x,h=>by
 cases r with
 | cons d f =>
  cases j with
  |zero=>rw[NN] at h;cases h;exact⟨z,rfl,d.1.symm⟩
  |succ j=>rw[L6] at h;exact wQ f (Mm e) j k x h
theorem eZ:∀{a:U Str} {b:U L},b.length=a.length->(∀(j:O) v,b[j]?=Y v->∃z t,a[j]?=Y z/\v=Value.str z t)->StrsAre b a
|[],[],_,_=>.nil
|[],_::_,e,_=>by cases e
|_::_,[],e,_=>by cases e
|z::a,u::b,e,h=>by obtain⟨g,t,c,d⟩:=h 0 u rfl;cases c;subst d;exact .cons _ _<|eZ (Mm e) λj v f=>h (j+1) v f
theorem m7 {X:Cx}(hc:X.calm=K1):dR X (.builtin "sorted") (λxs H Q=>∃(a:QS) (f:U Str) (F:U V),xs=[.ref a]/\H a=Y (.dK<|MR.mkD (f.map LP) F)/\F.length=f.length/\f.length<64/\∀l:U Str,l.Perm f->sortedS l=K1->∀p,H p=J->Q (.ref p) (upd H p<|.lst<|l.map V.str)):=by
 intro y s σ H xs us Q c r h;obtain⟨a,f,F,rfl,ha,hl,h64,q⟩:=h;obtain⟨u,rfl,ru⟩:=gJ r;cases ru;obtain⟨z,hd,vs,A,dd⟩:=oq c.hok ha;obtain⟨o,es,ep,g1,g2,g3,g4,g5,g6⟩:=dd;have OK:Heap.DictAt (aL X.prog X.w) s.heap a vs ep:=⟨o,es,g1,g2,g3,g4,g5,g6⟩;have N:vs.length=f.length:=by rw[<- A.length];show((f.map LP).zip F).length=_;rw[Oo,K9,hl,Ov]
 refine call_function_tree kind_sorted plain_sorted entry_sorted (args_sorted1 _) ?_;unfold Builtin.sorted;refine K4<|wpAny_of_eq (a:=()) rfl ?_;refine K4<|PySem.W.kdu_collect (PySem.W.kdl_dict hd) (c.ok.hd hc) OK (by rw[N,Nb];lia) λg tk d keep items=>?_
 have P:StrsAre d.toList f:=eZ (by rw[Mp,items.1,N]) λj v hj=>by
  obtain⟨k,x,e1,e2⟩:=items.2 j v (by simpa using hj);obtain⟨z,e3,rfl⟩:=wQ A hl j k x e1;rcases aO (show gH (LP z) v=K1 from e2) with⟨i,t,G,_⟩|⟨z',t,G,e5⟩
  .cases G
  .cases G;exact⟨z,t,e3,e5⟩
 have M:d.toList.length=f.length:=by rw[Mp,items.1,N]
 refine K4 (wpAny_newList (items:=d.toList) ?_<|by rw[M,Nb];lia);refine K4<|M4<|Nc slot_list_sort (T:="list") ⟨_,Heap.get?_push_size _ rfl,rfl⟩ entry_list_sort (list_sort_treeK strKind_oneLt (a:=g.objs.size) (vs:=d.toList) (n:=0) (Heap.get?_push_size _ rfl) P.keysOf (λv1 v2 rest e=>keyKind_strs<|by rw[<- e];exact P) (by lia) λD hp Z=>⟨_,rfl,?_⟩)<|args_list_sort _;obtain⟨l,m1,m2,m3⟩:=sorted_out_str P hp Z;have I1:Inv X y σ H {s with heap:=g,toks:=tk}:=c.kept (t':=tk) keep;obtain⟨e,he⟩:=sortedHeap_at (h:=g.push {cls:=Value.type "list",data:=Data.seq d.toList.toArray}) (a:=g.objs.size) (vs:=d.toList) (n:=0) (out:=Array.map (λx=>x.snd)<|arrOf D)<|Heap.get?_push_size _ rfl;have hml:l.length=f.length:=m2.length_eq;refine Lc ?_;refine⟨.ref g.objs.size,upd H g.objs.size<|.lst<|l.map V.str,I1.laid (t':=tk) (λb u hb=>?_) (La _) ⟨by rw[K9,Nb];lia,(Array.map (λx=>x.snd)<|arrOf D).toList,e,je m1,by rw[he,Array.toArray_toList]⟩,rfl,q l m2 m3 _<|I1.hok.fresh<|La _⟩;have m:b<g.objs.size:=Heap.lt_size hb;rw[sortedHeap_old (Lp m)<|by rw[Heap.size_push];exact PM m];exact Heap.get?_push_of_some _ hb
end L3
namespace MR
open PySem PySem.Spec PyProof.Rows L2 L3
section
variable {X:Cx}{sf sg:O->B O}{C:M.Call}{pos p p2 p3:Pos}{ea eb ec:Q1}{a b c:M.E}{h:QT}{n:O}{io:U O}{K:K3}
theorem ja:∀(x:Str) (l:U Str),risingS x l=K1->(x::l).Pairwise λa b=>¬(b.cps.toList<a.cps.toList)
|x,[],_=>QC _ _
| x,y::r,h=>by
 rw[risingS.eq_2,Li] at h;have f:=ja y r h.2;have e:¬(y.cps.toList<x.cps.toList):=by have:=h.1;rw[ltCps_eq,OW,decide_eq_false_iff_not] at this;exact this
 refine N8.mpr ⟨λz d=>?_,f⟩;rcases Lm.mp d with rfl|d
 .exact e
 .have g:=(N8.mp f).1 z d;exactλq=>e<|QF (Oh.mp g) q
theorem qo {l:U Str}(h:sortedS l=K1):l.Pairwise λa b=>¬(b.cps.toList<a.cps.toList):=by
 cases l with
 |nil=>exact .nil
 |cons x r=>exact ja x r h
theorem oz (x:Str):∀l:U Str,(l.Pairwise λa b=>¬(b.cps.toList<a.cps.toList))->(M.insS x l).Perm (x::l)/\(M.insS x l).Pairwise λa b=>¬(b.cps.toList<a.cps.toList)
|[],_=>⟨.refl _,QC _ _⟩
| y::k,hp=>by
 obtain⟨j,m⟩:=N8.mp hp;obtain⟨a,b⟩:=oz x k m;unfold M.insS;by_cases d:M.ltS y x=K1
 .rw [QY d];have i:y.cps.toList<x.cps.toList:=QU d;refine⟨(a.cons y).trans (.swap x y k),N8.mpr ⟨λz f=>?_,b⟩⟩;rcases Lm.mp (a.mem_iff.mp f) with rfl|f
  .exactλq=>Std.lt_irrefl<|Std.lt_trans q i
  .exact j z f
 .rw [Q0 d];have g:¬(y.cps.toList<x.cps.toList):=λq=>d<|QV q;exact⟨.refl _,N8.mpr ⟨λz f=>(Lm.mp f).elim (λe=>e ▸ g) λf=>λq=>g<|QF (Oh.mp<|j z f) q,hp⟩⟩
theorem fj:∀l:U Str,(M.sortS l).Perm l/\(M.sortS l).Pairwise λa b=>¬(b.cps.toList<a.cps.toList)
|[]=>⟨.refl _,.nil⟩
|x::e=>by obtain⟨a,b⟩:=fj e;obtain⟨c,d⟩:=oz x (M.sortS e) b;exact⟨c.trans<|a.cons x,d⟩
theorem zq {a b:Str}(h:a.cps.toList=b.cps.toList):a=b:=by cases a;cases b;exact Q8 Str.mk<|N6.mp h
theorem mD {d e:U Str}(hp:d.Perm e)(j:sortedS d=K1):d=M.sortS e:=by obtain⟨a,b⟩:=fj e;have f:∀x y:Str,x∈d->y∈M.sortS e->(λa b:Str=>¬(b.cps.toList<a.cps.toList)) x y->(λa b:Str=>¬(b.cps.toList<a.cps.toList)) y x->x=y:=λx y _ _ g i=>zq<|Std.le_antisymm (Oh.mp g)<|Oh.mp i;exact(hp.trans a.symm).eq_of_pairwise f (qo j) b
theorem jk:∀{d:U<|I ⊕ Str} {g:U Str},M.strsK d=Y g->d=g.map LP
|[],_,e=>by cases e;rfl
|.inr x::d,g,e=>by
 have f:(M.strsK d).map (x::·)=Y g:=e;cases e1:M.strsK d with
 |none=>rw[e1] at f;cases f
 |some i=>rw[e1] at f;cases f;rw[jk e1];rfl
|.inl _::_,_,e=>by cases e
theorem kR:Loc K 1 .sortedD h λA H Q=>∃(a:QS) (g:U Str) (j:U V),A=[.ref a]/\H a=Y (.dK<|mkD (g.map LP) j)/\j.length=g.length/\g.length<64/\∀l:U Str,l.Perm g->sortedS l=K1->∀p,H p=J->Q (.ref p) (upd H p<|.lst<|l.map V.str):=by
 intro ws w A Z H G Q hn e r ow za k
 match ws,hn with
 | [(m,a)],_ =>
  obtain⟨x,rfl,r1⟩:=bC rfl r;cases a with
  | dct g vs =>
   have e2:((M.strsK g).bind λf=>if decide (f.length<64)=K1 then Y ((.d,.lst ((M.sortS f).map M.T.str)):M.W) else J)=Y w:=e;cases e3:M.strsK g with
   |none=>rw[e3] at e2;cases e2
   | some f =>
    rw[e3] at e2;have o:(if decide (f.length<64)=K1 then Y ((.d,.lst ((M.sortS f).map M.T.str)):M.W) else J)=Y w:=e2;split at o
    .rename_i v;cases o;obtain⟨q,j,hq,hl,hd,u,i,pr⟩:=r1;have t:=pr.length;have s:=jk e3;subst s;rw[K9] at i;have N:H q=Y (.dK (mkD (f.map LP) j)):=by cases m<;>exact hd.2
     refine⟨q,f,j,by rw[show x=_ from hq],N,by rw[t,i],QU v,λl D F p hp=>?_⟩;rw[mD D F];have P:=QU v;have y:(M.sortS f).length=f.length:=(fj f).1.length_eq;exact bV (G':=no) ow za (λ_ z=>z.elim) (by rw[K9];show _<=16777215;lia) (mV λz hz=>u.2 (.inr z)<|List.mem_map_of_mem<|(fj f).1.mem_iff.mp hz) (by simp) k hp
    .cases o
  |_=>cases e
theorem sy (f:X.calm=true:=by rfl)(hm:X.mg "sorted"=J)(g:Gl X "sorted":=by rfl)(ha:SE X sf C ea a)(e:K7 [ea] X.env=(K0,Q9 ea X.env)::K7 [] X.env:=by rfl)(d:(Lu pos<|K7 [] X.env).any (·.1)=false:=by rfl):SE X sf C (.Call (.Name "sorted" p) [ea] [] pos) (.op .sortedD h [a]):=
 av (bK (m7 f) g hm QO (slc ha sl0 e) (by decide) (by decide) e d) (iI kR rfl)
end
end MR

namespace MR
open L2 L3 M
open PySem (Addr Str sizeLine)
section
variable {K:K3}{Wx:L2.St->VK}{sl:Cf}{sf sg:O->B O}{C:Call}{σ σ2:L2.St}{Z Z' Z1:Fp}{H H' H1:Hp}{Fs Fs' Fs1:Fps}{η η' η1 ηb:Env}{G G' G1 R F F':Fp}{tg is vs ls io:U O}{pv val:O->B V}{D:bP}
theorem yK {Z:Fp}{H:Hp}{G:Fp}{a:QS}{o:HO}{m:Md}(b:m≠.s)(h:G a/\H a=Y o):DctR Z H G a o m:=by
 cases m with
 |s=>exact QW rfl b
 |d=>exact h
 |o m=>exact h
theorem kM {i:O}{a:QS}{d:U<|I ⊕ Str}{vs':U T}{f:U V}{m':Md}(hm:m'≠.s)(A:At K ⟨sf,pv⟩ σ Z H Fs η G){w0:W}(hi:rd η i=Y w0)(ha:Fs i a)(hx:∀j,sf i=Y j->σ[j]?=Y (Y<|.ref a))(hl:d.length<=LIM)(hnd:d.Nodup/\∀k∈d,kOk k=K1)(hvl:vs'.length=d.length)(hpv:∀u,pv i=Y u->V.ref a=u)
  (hg:∀b,G' b->(Fs i b\/G b)/\b≠a) (hR:∀b,R b->(Fs i b\/G b)/\b≠a) (hRG:∀b,R b->¬G' b) (p:RepL K (λb=>Z b\/((Fs i b\/G b)/\b≠a/\¬G' b/\¬R b)) H (dmd m') vs' f λ_=>Q6) {Q:Hp->Prop}
  (k:∀Z' Fs',At K ⟨sf,pv⟩ σ Z' (upd H a<|.dK<|mkD d f) Fs' (M.put η i (m',.dct d vs')) R->Step Z H (λb=>tot Fs b\/G b) Z' (upd H a<|.dK<|mkD d f) (λb=>tot Fs' b\/R b)->(∀{m t v},Rep K (λb=>Z b\/((Fs i b\/G b)/\b≠a/\¬G' b/\¬R b)) H m t v R->Rep K Z' (upd H a<|.dK<|mkD d f) m t v R)->Q (upd H a<|.dK<|mkD d f)):Q (upd H a<|.dK<|mkD d f):=by
 have N:tot Fs a:=⟨i,ha⟩;obtain⟨nza,ys,hya⟩:=A.gd.own a N;have nGa:¬G a:=λq=>A.dis a q N
 have x:∀b,(Z b\/((Fs i b\/G b)/\b≠a/\¬G' b/\¬R b))->b≠a:=λb h z=>by
  subst z;rcases h with h|h
  .exact nza h
  .exact h.2.1 rfl
 have keep:∀b o,H b=Y o->b≠a->upd H a (.dK (mkD d f)) b=Y o:=λb o e g=>by rw[ag g];exact e
 have neT:∀b xs,H b=Y (.tup xs)->b≠a:=λb xs e z=>by rw[z,hya] at e;exact m8 e.symm
 have neF:∀b o u,H b=Y (.frz o u)->b≠a:=λb o u e z=>by rw[z,hya] at e;exact kD e.symm
 have stay:∀{c:Fp},(∀b,c b->b≠a)->Stay c H (upd H a (.dK (mkD d f))):=λ{c} hY=>⟨λb o g e=>keep b o e<|hY b g,λb xs e=>by
  rcases e with e|⟨u,e⟩
  .exact .inl (keep b _ e<|neT b xs e)
  .exact .inr ⟨u,keep b _ e<|neF b u _ e⟩,λb o u e=>keep b _ e<|neF b o u e⟩
 have al:∀b,H b≠J->upd H a (.dK (mkD d f)) b≠none:=λb h=>by
  by_cases e:b=a
  .rw[e,af];simp
  .rw[ag e];exact h
 have P:∀b,(Z b\/((Fs i b\/G b)/\b≠a/\¬G' b/\¬R b))->H b≠none:=λb h=>by
  rcases h with h|⟨h|h,_⟩
  .exact A.gd.zal b h
  .obtain⟨_,zs,e⟩:=A.gd.own b ⟨i,h⟩;rw[e];simp
  .obtain⟨_,zs,e⟩:=A.own b h;rw[e];simp
 have listAt:∀b,(tot Fs b\/G b)->∃zs:OO,upd H a (.dK (mkD d f)) b=Y zs.ho:=λb h=>by
  by_cases e:b=a
  .exact⟨(.inr<|mkD d f),by rw[e,af];rfl⟩
  .rcases h with h | h
   .obtain⟨_,zs,q⟩:=A.gd.own b h;exact⟨zs,by rw[ag e];exact q⟩
   .obtain⟨_,zs,q⟩:=A.own b h;exact⟨zs,by rw[ag e];exact q⟩
 have nZ:∀b,(Fs i b\/G b)->¬Z b:=λb h z=>h.elim (λy=>(A.gd.own b ⟨i,y⟩).1 z) λy=>(A.own b y).1 z
 have de:∀b,tot (lN Fs i λb=>G' b\/b=a) b->(∃j,j≠i/\Fs j b)\/G' b\/b=a:=λb h=>by
  obtain⟨j,h|h⟩:=h
  .exact .inr h.2
  .exact .inl ⟨j,h⟩
 refine k (λb=>Z b\/((Fs i b\/G b)/\b≠a/\¬G' b/\¬R b)) (lN Fs i λb=>G' b\/b=a) ⟨⟨λb h=>⟨λz=>?_,?_⟩,λj l b w hk=>?_,λb h=>al b<|P b h⟩,λl m t e=>?_,λb h=>⟨λz=>?_,listAt b<|(hR b h).1.imp (λz=>⟨i,z⟩) id⟩,λb h q=>?_,A.lk,A.ln⟩ ⟨λb o e n=>keep b o e λz=>n<|.inl<|z ▸ N,λb h=>.inl h,λb h=>h.imp id λq=>.inl<|q.1.imp (λz=>⟨i,z⟩) id,λb h=>?_,al,λ_ b h=>al b<|P b h⟩ λ{m t v} r=>r.keep (stay x) (λ_ z=>z) λb o g e=>keep b o e (hR b g).2
 .rcases de b h with ⟨j,w,q⟩ | q | q
  .rcases z with z | ⟨z | z,_⟩
   .exact(A.gd.own b ⟨j,q⟩).1 z
   .exact w (A.gd.dis j i b q z)
   .exact A.dis b z ⟨j,q⟩
  .rcases z with z | z
   .exact nZ b (hg b q).1 z
   .exact z.2.2.1 q
  .exact x b z q
 .rcases de b h with ⟨j,w,q⟩ | q | q
  .exact listAt b (.inl ⟨j,q⟩)
  .exact listAt b ((hg b q).1.imp (λz=>⟨i,z⟩) id)
  .exact⟨(.inr<|mkD d f),by rw[q,af];rfl⟩
 .have key:∀ {j:O},(G' b\/b=a)->Fs j b->j=i:=fun {j} h q=>by
   rcases h with h|h
   .rcases (hg b h).1 with y | y
    .exact A.gd.dis j i b q y
    .exact QW ⟨j,q⟩ (A.dis b y)
   .rw[h] at q;exact A.gd.dis j i a q ha
  rcases w with⟨rfl,w⟩|⟨nj,w⟩
  .rcases hk with ⟨rfl,_⟩ | ⟨nk,hk⟩
   .rfl
   .exact QW (key w hk) nk
  .rcases hk with ⟨rfl,hk⟩ | ⟨nk,hk⟩
   .exact QW (key hk w) nj
   .exact A.gd.dis j l b w hk
 .rw [bB] at e;split at e
  .rename_i hc;obtain⟨rfl,_⟩:=hc;cases e;refine⟨.ref a,⟨a,f,rfl,hl,yK hm ⟨.inl ⟨rfl,.inr rfl⟩,af⟩,hnd,hvl,?_⟩,hx,hpv⟩;exact p.keep (stay x) (λ_ z=>z) λb o g e=>g.elim
  .rename_i hc;have hl':l≠i:=λz=>hc ⟨z,dH hi⟩;obtain⟨v,r,h⟩:=A.env l m t e;have nea:∀b,Fs l b->b≠a:=λb q z=>hl'<|A.gd.dis l i a (z ▸ q) ha;exact⟨v,((r.keep (stay λb g z=>nza<|z ▸ g) (λ_ z=>z) λb o g e=>keep b o e<|nea b g).zmono λb h=>.inl h).mono λb h=>.inr ⟨hl',h⟩,h⟩
 .rcases z with z | z
  .exact nZ b (hR b h).1 z
  .exact z.2.2.2 h
 .rcases de b q with ⟨j,w,y⟩ | y | y
  .rcases (hR b h).1 with z | z
   .exact w (A.gd.dis j i b y z)
   .exact A.dis b z ⟨j,y⟩
  .exact hRG b h y
  .exact(hR b h).2 y
 .rcases h with h | h
  .rcases de b h with ⟨j,_,q⟩ | q | q
   .exact .inl (.inl ⟨j,q⟩)
   .exact .inl ((hg b q).1.imp (λz=>⟨i,z⟩) id)
   .exact .inl (.inl<|q ▸ N)
  .exact .inl ((hR b h).1.imp (λz=>⟨i,z⟩) id)
theorem kh {m:Md}{b:U<|I ⊕ Str}{vs:U T}{v:V}(g:m≠.s)(r:Rep K Z H m (.dct b vs) v G):∃a c,v=.ref a/\b.length<=LIM/\G a/\H a=Y (.dK<|mkD b c)/\(b.Nodup/\∀k∈b,kOk k=K1)/\vs.length=b.length/\RepL K Z H (dmd m) vs c (λ_=>Q6):=by
 obtain⟨a,c,e,l,q,n,f,p⟩:=r;cases m with
 |s=>exact QW rfl g
 |d=>exact⟨a,c,e,l,q.1,q.2,n,f,p⟩
 |o m=>exact⟨a,c,e,l,q.1,q.2,n,f,p⟩
def kT:I ⊕ Str->T
|.inl n=>.int n
|.inr x=>.str x
theorem dS {k:T}{q:I ⊕ Str}(h:keyT k=Y q):k=kT q:=by
 cases k with
 |int n=>cases h;rfl
 |str x=>cases h;rfl
 |_=>cases h
theorem iw {m:Md}{q:I ⊕ Str}{v:V}(r:Rep K Z H m (kT q) v G):v=kV q/\kOk q=true:=by
 cases q with
 |inl n=>exact⟨r,rfl⟩
 |inr x=>exact⟨r.1,r.2⟩
theorem rC {u kw w r:W}(h:gi u kw w=Y r):∃m f vs n k,u=(m,.dct f vs)/\kw=(n,kT k)/\m≠.s/\f.length<LIM/\flatT w.2=K1/\r=(m,.dct (putT k w.2 f vs).1 (putT k w.2 f vs).2):=by
 obtain⟨m,t⟩:=u;obtain⟨n,k⟩:=kw;obtain⟨v,x⟩:=w
 have i:∀f vs,m≠.s->((keyT k).bind λq=>if(decide (f.length<LIM)&&flatT x)=K1 then Y ((m,.dct (putT q x f vs).1 (putT q x f vs).2):W) else J)=Y r->∃g,(n,k)=(n,kT g)/\f.length<LIM/\flatT x=K1/\r=(m,.dct (putT g x f vs).1 (putT g x f vs).2):=λf vs p h=>by
  cases e:keyT k with
  |none=>rw[e] at h;cases h
  | some q =>
   rw[e] at h;have j:(if(decide (f.length<LIM)&&flatT x)=K1 then Y ((m,.dct (putT q x f vs).1 (putT q x f vs).2):W) else J)=Y r:=h;split at j
   .rename_i l;rw[Li] at l;cases j;exact⟨q,by rw[dS e],QU l.1,l.2,rfl⟩
   .cases j
 cases m<;>first|(cases h;done)|(cases t<;>try (cases h;done))
 .obtain ⟨g,a,b,c,d⟩:=i _ _ (by simp) h;exact⟨.d,_,_,n,g,rfl,a,by simp,b,c,d⟩
 .obtain ⟨g,a,b,c,d⟩:=i _ _ (by simp) h;exact⟨.o _,_,_,n,g,rfl,a,by simp,b,c,d⟩
noncomputable def i5 (k:I ⊕ Str)(y:V):U (I ⊕ Str)->U V->U V
|[],_=>[y]
|z::b,x::a=>if z=k then y::a else x::i5 k y b a
|_::_,[]=>[]
theorem fg (k:I ⊕ Str)(t:T):∀(c:U<|I ⊕ Str) (vs:U T),vs.length=c.length->(putT k t c vs).2.length=(putT k t c vs).1.length/\(putT k t c vs).1.length<=c.length+1
|[],[],_=>⟨rfl,La _⟩
|[],_::_,e=>by cases e
|_::_,[],e=>by cases e
| z::d,v::vs,e=>by
 unfold putT;split
 .exact⟨e,Nat.le_succ _⟩
 .obtain ⟨a,b⟩:=fg k t d vs<|Mm e;exact⟨by rw[Lk,Lk,a],by rw[Lk,Lk];lia⟩
theorem ed (k:I ⊕ Str)(t:T):∀(a:U<|I ⊕ Str) (vs:U T),vs.length=a.length->∀z,z∈(putT k t a vs).1 ↔ z=k\/z∈a
|[],[],_,z=>by simp[putT]
|[],_::_,e,_=>by cases e
|_::_,[],e,_=>by cases e
| y::c,v::vs,e,z=>by
 unfold putT;split
 .rename_i b;subst b;simp
 .have:=ed k t c vs (Mm e) z;rw[Lm,this,Lm];constructor
  .rintro (h | h | h)
   .exact .inr (.inl h)
   .exact .inl h
   .exact .inr (.inr h)
  .rintro (h | h | h)
   .exact .inr (.inl h)
   .exact .inl h
   .exact .inr (.inr h)
theorem dF (k:I ⊕ Str)(t:T):∀(a:U<|I ⊕ Str) (vs:U T),vs.length=a.length->a.Nodup->(putT k t a vs).1.Nodup
|[],[],_,_=>by simp[putT]
|[],_::_,e,_=>by cases e
|_::_,[],e,_=>by cases e
| y::b,v::vs,e,h=>by
 unfold putT;split
 .exact h
 .rename_i f;obtain⟨c,d⟩:=Mg.mp h;refine Mg.mpr ⟨λq=>?_,dF k t b vs (Mm e) d⟩;rcases(ed k t b vs (Mm e) y).mp q with q|q
  .exact f q
  .exact c q
theorem gD (k:I ⊕ Str)(t:T)(y:V):∀(g:U<|I ⊕ Str) (vs:U T) (c:U V),vs.length=g.length->c.length=g.length->g.Nodup->cj (mkD g c) k y=mkD (putT k t g vs).1 (i5 k y g c)
|[],[],[],_,_,_=>rfl
|[],[],_::_,_,e,_=>by cases e
|[],_::_,_,e,_,_=>by cases e
|_::_,[],_,e,_,_=>by cases e
|_::_,_::_,[],_,e,_=>by cases e
| z::d,v::vs,x::c,e1,e2,n=>by
 obtain⟨l,m⟩:=Mg.mp n;have j:=gD k t y d vs c (Mm e1) (Mm e2) m;unfold putT i5;by_cases f:z=k
 .rw [QY f,QY f];subst f;have i:∀p∈mkD d c,p.1≠z:=λp hp q=>by obtain⟨a,b⟩:=p;have:=(Oq hp).1;have o:a=z:=q;rw[o] at this;exact l this
  show cj ((z,x)::mkD d c) z y=(z,y)::mkD d c;unfold cj;rw[QY<|by simp];rw[Ln,QY rfl];congr 1
  conv=>rhs;rw[<- Qk (mkD d c)]
  refine OB λp hp=>?_;rw[Q0<|i p hp];rfl
 .rw [Q0 f,Q0 f];show cj ((z,x)::mkD d c) k y=(z,x)::mkD (putT k t d vs).1 (i5 k y d c);rw[<- j];have h:¬(z=k):=f;unfold cj;rw[LS,Q7 h,P9];split
  .rw[Ln,Q0 h]
  .rfl
theorem jt {m m':Md}{t:T}{v:V}{G G' Z':Fp}{H':Hp}(a:flatT t=K1)(r:Rep K Z H m t v G):Rep K Z' H' m' t v G':=by
 cases t with
 |non=>exact r
 |bl _=>exact r
 |int _=>exact r
 |str _=>exact r
 |_=>cases a
theorem k6 {m:Md}{k:I ⊕ Str}{t:T}{y:V}{l:Fp}{u:Md}(d:flatT t=K1)(h:Rep K Z H u t y l):∀(f:U<|I ⊕ Str) (vs:U T) (c:U V),vs.length=f.length->RepL K Z H m vs c (λ_=>Q6)->RepL K Z H m (putT k t f vs).2 (i5 k y f c) (λ_=>Q6)
|[],[],c,_,r=>by cases r;exact⟨y,[],λ_=>Q6,λ_=>Q6,rfl,λ_ z=>z,λ_ z=>z,λ_ z=>z.elim,jt d h,rfl⟩
|[],_::_,_,e,_=>by cases e
|_::_,[],_,e,_=>by cases e
| z::j,v::vs,c,e,⟨x,g,G1,n,o,s,i,hd,p,q⟩=>by
 subst o;unfold putT i5;by_cases b:z=k
 .rw [QY b,QY b];exact⟨y,g,λ_=>Q6,n,rfl,λ_ z=>z,i,λ_ z=>z.elim,jt d h,q⟩
 .rw [Q0 b,Q0 b];exact⟨x,i5 k y j g,G1,λ_=>Q6,rfl,s,λ_ z=>z,λa _ z=>z,p,k6 d h j vs g (Mm e)<|q.mono i⟩
theorem xX {x:M.X}{i j:O}{k e:E}(hs:sf i=Y j)(D:bP)(σ:L2.St)(H:Hp)(h:wS K Wx sf io C (.setK x i k e) D σ H):
  wE K sf C e σ H λy H1=>bJ j σ H1 λo H1=>wE K sf C k σ H1 λz H2=>∃a Q q,o=.ref a/\z=kV q/\H2 a=Y (.dK Q)/\Q.length<sizeLine/\D.nx σ (upd H2 a<|.dK<|cj Q q y):=by
 obtain⟨pv,Z,Fs,η,N,A,f⟩:=h;obtain⟨⟨w,η1⟩,h2,h3⟩:=a7<|show Fin K Wx ⟨sf,pv⟩ Z H (tot Fs) D (Fl.of η (evX C x e η)<|oA i (evX C x k) η) from f;obtain⟨⟨kw,g⟩,h6,h7⟩:=a7<|show Fin K Wx ⟨sf,pv⟩ Z H (tot Fs) D (Fl.of η (evX C x k η1)<|nM i w) from h3;obtain⟨η3,t,h5⟩:=eA<|show Fin K Wx ⟨sf,pv⟩ Z H (tot Fs) D (nxO g<|((rd g i).bind λu=>gi u kw w).map λu=>M.put g i u) from h7;refine gk (sl:=⟨sf,pv⟩) A h2 λy Z' H' Fs' G c r s=>?_;cases e1:rd g i with
 |none=>rw[e1] at t;cases t
 | some u1 =>
  rw[e1] at t;cases e2:gi u1 kw w with
  |none=>rw[show(Y u1).bind (λu=>gi u kw w)=gi u1 kw w from rfl,e2] at t;cases t
  | some r1 =>
   rw[show(Y u1).bind (λu=>gi u kw w)=gi u1 kw w from rfl,e2] at t;cases t;obtain⟨m,l,vs,n,P,rfl,rfl,hm,hlen,hfl,rfl⟩:=rC e2;have n1:rd η1 i≠none:=λz=>by rw[nU h6 i z] at e1;cases e1
   cases e3:rd η1 i with
   |none=>exact QW e3 n1
   | some u3 =>
    obtain⟨v3,r3,l3,p3⟩:=c.env i u3.1 u3.2 e3;refine⟨v3,l3 j hs,gk (sl:=⟨sf,pv⟩) c.bare h6 λz Z2 H2 Fs2 G2 B2 rz s2=>?_⟩;obtain⟨B3,s3,d3⟩:=c.frame B2 s2;have r':=r.frame c.gd.own s2 c.dis;have B4:=B3.mono (G':=G) λ_ z=>.inl z;obtain⟨v4,r4,l4,p4⟩:=B4.env i m _ e1;have hv:v3=v4:=by have e5:=l3 j hs;have e6:=l4 j hs;rw[e5] at e6;cases e6;rfl
    subst hv;obtain⟨a,xs,rfl,hl,hf,hx,v,d,p⟩:=kh hm r4;have hxl:xs.length=l.length:=by rw[p.length,d]
    obtain⟨q1,q2⟩:=fg P w.2 l vs d;have rz':z=kV P/\kOk P=true:=iw rz;refine⟨a,mkD l xs,P,rfl,rz'.1,hx,?_,?_⟩
    .show (l.zip xs).length<_;rw[Oo,hxl,Ov];exact LD hlen<|LIM_le<|La _
    .rw [gD P w.2 y l vs xs d hxl v.1];exact kM (K:=K) (G':=no) (R:=no) hm B4 e1 hf (λk hk=>by rw[show sf i=Y k from hk] at hs;cases hs;exact l3 _ hk) (by lia) ⟨dF P w.2 l vs d v.1,λz hz=>((ed P w.2 l vs d z).mp hz).elim (λe=>e ▸ rz'.2)<|v.2 z⟩ q1 p4 (λ_ z=>z.elim) (λ_ z=>z.elim) (λ_ z=>z.elim) ((k6 hfl r' l vs xs d p).zmono λb h=>.inl h) λZ5 Fs5 B5 s5 _=>h5 σ Z5 _ Fs5 B5<|(s.trans<|s3.mono (λ_ z=>z) λb h=>h.imp id .inl).trans<|s5.mono (λ_ z=>z) λ_ z=>.inl z
end
end MR
namespace MR
open PySem PySem.Spec PyProof.Rows L2 L3
section
variable {X:Cx}{sf sg:O->B O}{C:M.Call}{pos p p2 p3:Pos}{ea eb ec:Q1}{a b c:M.E}{h:QT}{n:O}{io:U O}{K:K3}
theorem Gk (j:O)(hr:Room n X.A){i:O}{x:Str}{xx:M.X}{px ps:Pos}(ha:SE X sf C ea a)(hb:SE X sf C eb b)(hs:sf i=Y j:=by rfl)(hN:X.N[j]?=Y x:=by rfl)(hv:Vis X.env.scope x:=by first|exact Lh rfl|exact Ld (Lh rfl)|exact Ld<|Ld rfl)(hd:(x==("__debug__":Str))=false:=by decide)(m:(x==("__classdict__":Str))=false:=by decide)
  (t:L7 ea (Y<|.Subscript (.Name x px) eb ps) pos.line X.env=pure false:=by rfl):
  SS X sf io C (.Assign [.Subscript (.Name x px) eb ps] ea pos) (.setK xx i b a):=
 cT (pH (jw hr) (bM hN hv hd m) hb ha t) λD σ H hw=>by obtain⟨pv,Z,Fs,η,w,F,A,ev,k⟩:=xX hs D σ H hw;refine⟨pv,Z,Fs,η,w,F,A,ev,λv Z' H' e G d r s=>?_⟩;obtain⟨o,ho,y,Z2,f,P,w2,Q,A2,l,k2⟩:=k v Z' H' e G d r s;refine⟨o,ho,y,Z2,f,P,w2,Q,A2,l,λz Z3 H3 g G3 B3 r3 s3=>?_⟩;obtain⟨q,u,kk,rfl,rfl,g1,g2,g3⟩:=k2 z Z3 H3 g G3 B3 r3 s3;exact⟨q,_,rfl,.inl ⟨u,kk,g1,rfl,g2,rfl⟩,g3⟩
end
end MR




namespace MR
open PySem PySem.Spec PyProof.Rows L2 L3
section
variable {X:Cx}{sf sg:O->B O}{C:M.Call}{pos p p2 p3:Pos}{ea eb ec:Q1}{a b c:M.E}{h:QT}{n:O}{io:U O}{K:K3}
theorem yu {o f:B M.W}{w:M.W}(e:M.ixVT o f=Y w):∃m d n j t,o=Y (m,.lst d)/\m.kid=.s/\f=Y (n,.int j)/\M.atI d j=Y t/\w=(.s,t):=by
 unfold M.ixVT at e;split at e
 .rename_i d n j;cases e1:M.atI d j with
  |none=>rw[e1] at e;cases e
  |some t=>rw[e1] at e;cases e;exact⟨_,d,n,j,t,rfl,rfl,rfl,e1,rfl⟩
 .rename_i d n j;cases e1:M.atI d j with
  |none=>rw[e1] at e;cases e
  |some t=>rw[e1] at e;cases e;exact⟨_,d,n,j,t,rfl,rfl,rfl,e1,rfl⟩
 .cases e
end
end MR

namespace MR
open L2 L3 M
open PySem (Addr Str sizeLine)
section
variable {K:K3}{Wx:L2.St->VK}{sl:Cf}{sf sg:O->B O}{C:Call}{σ σ2:L2.St}{Z Z' Z1:Fp}{H H' H1:Hp}{Fs Fs' Fs1:Fps}{η η' η1 ηb:Env}{G G' G1 R F F':Fp}{tg is vs ls io:U O}{pv val:O->B V}{D:bP}
theorem q9 {u kw w r:W}(h:eN u kw w=Y r):∃m c vs n k,u=(m,.dct c vs)/\kw=(n,kT k)/\m≠.s/\c.length<LIM/\r=(.o .s,.dct (putT k w.2 c vs).1 (putT k w.2 c vs).2):=by
 obtain⟨m,t⟩:=u;obtain⟨n,k⟩:=kw;obtain⟨l,x⟩:=w
 have g:∀c vs,((keyT k).bind λq=>if(decide (c.length<LIM))=K1 then Y ((.o .s,.dct (putT q x c vs).1 (putT q x c vs).2):W) else J)=Y r->∃f,(n,k)=(n,kT f)/\c.length<LIM/\r=(.o .s,.dct (putT f x c vs).1 (putT f x c vs).2):=λc vs h=>by
  cases e:keyT k with
  |none=>rw[e] at h;cases h
  | some q =>
   rw[e] at h;have i:(if(decide (c.length<LIM))=K1 then Y ((.o .s,.dct (putT q x c vs).1 (putT q x c vs).2):W) else J)=Y r:=h;split at i
   .rename_i j;cases i;exact⟨q,by rw[dS e],QU j,rfl⟩
   .cases i
 cases m<;>first|(cases h;done)|(cases t<;>try (cases h;done))
 .obtain ⟨f,a,b,d⟩:=g _ _ h;exact⟨.d,_,_,n,f,rfl,a,by simp,b,d⟩
 .obtain ⟨f,a,b,d⟩:=g _ _ h;exact⟨.o _,_,_,n,f,rfl,a,by simp,b,d⟩
theorem f7 {k:I ⊕ Str}{t:T}{y:V}(g:Rep K Z H .s t y no):∀(d:U<|I ⊕ Str) (vs:U T) (c:U V),vs.length=d.length->RepL K Z H .s vs c (λ_=>Q6)->RepL K Z H .s (putT k t d vs).2 (i5 k y d c) (λ_=>Q6)
|[],[],c,_,r=>by cases r;exact⟨y,[],λ_=>Q6,λ_=>Q6,rfl,λ_ z=>z,λ_ z=>z,λ_ z=>z.elim,g,rfl⟩
|[],_::_,_,e,_=>by cases e
|_::_,[],_,e,_=>by cases e
| z::i,v::vs,c,e,⟨x,f,G1,j,l,m,h,hd,p,q⟩=>by
 subst l;unfold putT i5;by_cases b:z=k
 .rw [QY b,QY b];exact⟨y,f,λ_=>Q6,j,rfl,λ_ z=>z,h,λ_ z=>z.elim,g,q⟩
 .rw [Q0 b,Q0 b];exact⟨x,i5 k y i f,G1,λ_=>Q6,rfl,m,λ_ z=>z,λa _ z=>z,p,f7 g i vs f (Mm e)<|q.mono h⟩
theorem zD {x:M.X}{i j:O}{k e:E}(hs:sf i=Y j)(D:bP)(σ:L2.St)(H:Hp)(h:wS K Wx sf io C (.setS x i k e) D σ H):
  wE K sf C e σ H λy H1=>bJ j σ H1 λo H1=>wE K sf C k σ H1 λz H2=>∃a Q q,o=.ref a/\z=kV q/\H2 a=Y (.dK Q)/\Q.length<sizeLine/\D.nx σ (upd H2 a<|.dK<|cj Q q y):=by
 obtain⟨pv,Z,Fs,η,N,A,f⟩:=h;obtain⟨⟨w,η1⟩,h2,h3⟩:=a7<|show Fin K Wx ⟨sf,pv⟩ Z H (tot Fs) D (Fl.of η (evX C x e η)<|oo i (evX C x k) η) from f;obtain⟨⟨kw,g⟩,h6,h7⟩:=a7<|show Fin K Wx ⟨sf,pv⟩ Z H (tot Fs) D (Fl.of η (evX C x k η1)<|nN i w) from h3;obtain⟨η3,t,h5⟩:=eA<|show Fin K Wx ⟨sf,pv⟩ Z H (tot Fs) D (nxO g<|((rd g i).bind λu=>eN u kw w).map λu=>M.put g i u) from h7;refine gk (sl:=⟨sf,pv⟩) A h2 λy Z' H' Fs' G c r s=>?_;cases e1:rd g i with
 |none=>rw[e1] at t;cases t
 | some u1 =>
  rw[e1] at t;cases e2:eN u1 kw w with
  |none=>rw[show(Y u1).bind (λu=>eN u kw w)=eN u1 kw w from rfl,e2] at t;cases t
  | some r1 =>
   rw[show(Y u1).bind (λu=>eN u kw w)=eN u1 kw w from rfl,e2] at t;cases t;obtain⟨m,l,vs,n,P,rfl,rfl,hm,hlen,rfl⟩:=q9 e2;have n1:rd η1 i≠none:=λz=>by rw[nU h6 i z] at e1;cases e1
   cases e3:rd η1 i with
   |none=>exact QW e3 n1
   | some u3 =>
    obtain⟨v3,r3,l3,p3⟩:=c.env i u3.1 u3.2 e3;refine⟨v3,l3 j hs,gk (sl:=⟨sf,pv⟩) c.bare h6 λz Z2 H2 Fs2 G2 B2 rz s2=>?_⟩;obtain⟨B3,s3,d3⟩:=c.frame B2 s2;have r':=r.frame c.gd.own s2 c.dis;have B4:=B3.mono (G':=G) λ_ z=>.inl z;obtain⟨v4,r4,l4,p4⟩:=B4.env i m _ e1;have hv:v3=v4:=by have e5:=l3 j hs;have e6:=l4 j hs;rw[e5] at e6;cases e6;rfl
    subst hv;obtain⟨a,xs,rfl,hl,hf,hx,v,d,p⟩:=kh hm r4;have hxl:xs.length=l.length:=by rw[p.length,d]
    obtain⟨q1,q2⟩:=fg P w.2 l vs d;have rz':z=kV P/\kOk P=true:=iw rz;have nGa:¬G a:=λq=>B4.dis a q ⟨i,hf⟩;have pS:RepL K (λb=>Z2 b\/((Fs2 i b\/G b)/\b≠a/\¬no b/\¬no b)) H2 .s vs xs (λ_=>Q6):=by have:=RepL.sh p;exact(this.zmono λb h=>h.elim .inl λz=>z.elim).mono λ_ z=>z
    have rS:Rep K (λb=>Z2 b\/((Fs2 i b\/G b)/\b≠a/\¬no b/\¬no b)) H2 .s w.2 y no:=(Rep.sh r').zmono λb h=>h.imp id λq=>⟨.inr q,λe=>nGa<|e ▸ q,λz=>z,λz=>z⟩;refine⟨a,mkD l xs,P,rfl,rz'.1,hx,?_,?_⟩
    .show (l.zip xs).length<_;rw[Oo,hxl,Ov];exact LD hlen<|LIM_le<|La _
    .rw [gD P w.2 y l vs xs d hxl v.1];exact kM (K:=K) (m':=.o .s) (G':=no) (R:=no) (by simp) B4 e1 hf (λk hk=>by rw[show sf i=Y k from hk] at hs;cases hs;exact l3 _ hk) (by lia) ⟨dF P w.2 l vs d v.1,λz hz=>((ed P w.2 l vs d z).mp hz).elim (λe=>e ▸ rz'.2)<|v.2 z⟩ q1 p4 (λ_ z=>z.elim) (λ_ z=>z.elim) (λ_ z=>z.elim) (f7 rS l vs xs d pS) λZ5 Fs5 B5 s5 _=>h5 σ Z5 _ Fs5 B5<|(s.trans<|s3.mono (λ_ z=>z) λb h=>h.imp id .inl).trans<|s5.mono (λ_ z=>z) λ_ z=>.inl z
end
end MR
namespace MR
open PySem PySem.Spec PyProof.Rows L2 L3
section
variable {X:Cx}{sf sg:O->B O}{C:M.Call}{pos p p2 p3:Pos}{ea eb ec:Q1}{a b c:M.E}{h:QT}{n:O}{io:U O}{K:K3}
theorem BB (j:O)(hr:Room n X.A){i:O}{x:Str}{xx:M.X}{px ps:Pos}(ha:SE X sf C ea a)(hb:SE X sf C eb b)(hs:sf i=Y j:=by rfl)(hN:X.N[j]?=Y x:=by rfl)(hv:Vis X.env.scope x:=by first|exact Lh rfl|exact Ld (Lh rfl)|exact Ld<|Ld rfl)(hd:(x==("__debug__":Str))=false:=by decide)(m:(x==("__classdict__":Str))=false:=by decide)
  (t:L7 ea (Y<|.Subscript (.Name x px) eb ps) pos.line X.env=pure false:=by rfl):
  SS X sf io C (.Assign [.Subscript (.Name x px) eb ps] ea pos) (.setS xx i b a):=
 cT (pH (jw hr) (bM hN hv hd m) hb ha t) λD σ H hw=>by obtain⟨pv,Z,Fs,η,w,F,A,ev,k⟩:=zD hs D σ H hw;refine⟨pv,Z,Fs,η,w,F,A,ev,λv Z' H' e G d r s=>?_⟩;obtain⟨o,ho,y,Z2,f,P,w2,Q,A2,l,k2⟩:=k v Z' H' e G d r s;refine⟨o,ho,y,Z2,f,P,w2,Q,A2,l,λz Z3 H3 g G3 B3 r3 s3=>?_⟩;obtain⟨q,u,kk,rfl,rfl,g1,g2,g3⟩:=k2 z Z3 H3 g G3 B3 r3 s3;exact⟨q,_,rfl,.inl ⟨u,kk,g1,rfl,g2,rfl⟩,g3⟩
theorem dr {Z:Fp}{H:Hp}{G:Fp}{q:I ⊕ Str}{t:M.T}:∀{d:U<|I ⊕ Str} {g:U M.T} {j:U V},RepL K Z H .s g j G->M.lookD q d g=Y t->∃x,cZ (mkD d j) q=Y x/\Rep K Z H .s t x no
|[],[],_,_,e=>by cases e
|[],_::_,_,_,e=>by cases e
|_::_,[],_,_,e=>by cases e
| k::d,v::g,j,⟨x,r,u,w,l,_,z,_,p,r2⟩,e=>by
 subst l;have f:(if k=q then Y v else M.lookD q d g)=Y t:=e;by_cases hk:k=q
 .rw [QY hk] at f;cases f;refine⟨x,?_,p.sany⟩;show(((k,x)::mkD d r).find? λi=>decide (i.1=q)).map (·.2)=Y x;rw[Qy<|by simpa using hk];rfl
 .rw [Q0 hk] at f;obtain⟨y,m,o⟩:=dr r2 f;refine⟨y,?_,o⟩;show(((k,x)::mkD d r).find? λi=>decide (i.1=q)).map (·.2)=Y y;rw[Po<|by simpa using hk];exact m
theorem An:Loc K 2 .ixD h λo H Q=>∀x y,o=[x,y]->∃a v,x=.ref a/\DGet H a y (Y v)/\Q v H:=by
 intro ws w o Z H G Q hn e r P za k x y hx;subst hx;obtain⟨⟨m,a⟩,⟨n,b⟩,rfl⟩:=cW r.length.symm;obtain⟨G1,G2,w1,w2,d,r1,r2⟩:=bA r;obtain⟨f,g,rfl,rfl⟩:∃f g,a=.dct f g/\m=.s:=by cases m<;>first|(cases e;done)|(cases a<;>first|exact⟨_,_,rfl,rfl⟩|(cases e;done))
 have i:((M.keyT b).bind λq=>(M.lookD q f g).map λt=>((.s,t):M.W))=Y w:=e;cases e1:M.keyT b with
 |none=>rw[e1] at i;cases i
 | some q =>
  rw[e1] at i;have e2:((M.lookD q f g).map λt=>((.s,t):M.W))=Y w:=i;cases e3:M.lookD q f g with
  |none=>rw[e3] at e2;cases e2
  |some t=>rw[e3] at e2;cases e2;obtain⟨ad,ys,A,hl,hd,z,F,pr⟩:=r1;have u:=dS e1;subst u;obtain⟨N,_⟩:=iw r2;obtain⟨v,D,rv⟩:=dr pr e3;have j:x=.ref ad:=A;have l:y=kV q:=N;subst j l;refine⟨ad,v,rfl,?_,cH P k<|rv.sany⟩;rw[<- D];exact DGet.k hd.2
theorem Ey (f:Room n X.A)(d:SE X sf C ea a)(e:SE X sf C eb b)(g:sH eb:=by intro _ _;rfl):SE X sf C (.Subscript ea eb pos) (.op .ixD h [a,b]):=av (Ab (jw f) d e g)<|aK An
end
end MR








namespace MR
open PySem PySem.Spec PyProof.Rows L2 L3
section
variable {X:Cx}{sf sg:O->B O}{C:M.Call}{pos p p2 p3:Pos}{ea eb ec:Q1}{a b c:M.E}{h:QT}{n:O}{io:U O}{K:K3}
theorem rX (j:O){i:O}{x:Str}{px:Pos}(ha:SE X sf C ea a)(D:fI ea:=by intro _ _;rfl)(hs:sf i=Y j:=by rfl)(hN:X.N[j]?=Y x:=by rfl)(hv:Vis X.env.scope x:=by first|exact Lh rfl|exact Ld (Lh rfl)|exact Ld<|Ld rfl)(hd:(x==("__debug__":Str))=false:=by decide)(r:(x==("__classdict__":Str))=false:=by decide):
  SE X sf C (.Subscript (.Name x px) ea pos) (.ixQ i a):=
 av (vH ix_any (bM hN hv hd r) ha D) λσ H Q hw=>by obtain⟨pv,Z,Fs,g,w,η',A,ev,k⟩:=hw;obtain⟨_,h0,h1⟩:=aa<|show(M.chkL<|M.rd g i).bind (M.kPopN0 (M.evE C a) g<|M.kIxQ i)=_ from ev;obtain⟨m0,t0,o⟩:=iR h0;obtain⟨a',xs0,hj,ha'⟩:=A.listAt hs o;obtain⟨⟨u,f⟩,h2,h3⟩:=aa<|show(M.evE C a g).bind (M.kIxQ i)=_ from h1;obtain⟨w',e1,e2⟩:=aI<|show M.ret f (M.ixVT (M.rd f i)<|Y u)=_ from h3;cases e2;obtain⟨m,ts,n,q,t,r1,hm,r2,r3,rfl⟩:=yu e1;cases r2;refine⟨.ref a',hj,pv,Z,Fs,g,_,_,A,h2,λz Z' H' l G d rz s=>?_⟩;obtain⟨v,rv,P⟩:=d.env i m (.lst ts) r1;have e:=P.1 j hs;rw[hj] at e;cases e;obtain⟨a2,xs,e3,F,hl,p⟩:=bH rv;cases e3;rw[hm] at p;obtain⟨y,hy,ry⟩:=nR p r3;obtain rfl:z=V.int q:=rz;exact⟨a',xs,q,y,rfl,rfl,.inl<|.inl<|.inl F,hy,k y Z' H' l no d.bare ry.sany<|s.mono (λ_ z=>z) λb hb=>hb.elim .inl λz=>z.elim⟩
end
end MR

namespace MR
open PySem PySem.Spec PyProof.Rows L2 L3
def nIo:M.E->QT
|.io _=>K0
|_=>K1
noncomputable def lcl (o:B O8):QT:=match o with
|some .local=>K1
|some .cell=>K1
|_=>K0
def lcO (o:B O8):QT:=match o with
|some .local=>K1
|_=>K0
theorem DG {a:M.E}(h:nIo a=K1)(i:O):a≠.io i:=by rintro rfl;cases h
theorem zt {a:Rj}{x:Str}(h:lcl (a.names.lookup x)=K1):L2.Loc a x:=by
 unfold lcl at h;split at h
 .rename_i e;exact Lh e
 .rename_i e;exact Ld e
 .cases h
theorem xJ {o:B O8}{b:QT}(h:(b || lcO o)=K1):b=K1\/o=Y .local:=by
 cases b
 .refine Ld ?_;unfold lcO at h;simp at h;split at h
  .rfl
  .cases h
 .exact Lh rfl
section
variable {X:Cx}{sf:O->B O}{io:U O}{C:M.Call}{pos:Pos}{ea eb:Q1}{a b:M.E}{h:QT}
theorem zA (j:O){i:O}{x:Str}{n:M.X}{c:Pos}(f:X.N.Nodup)(g:SE X sf C ea a)(e:io.contains i=K0)(m:sf i=Y j)(l:X.N[j]?=Y x)(hx:lcl (X.env.scope.names.lookup x)=K1)
  (d:L7 ea (Y<|.Name x c) pos.line X.env=pure K0) (k:(X.fn x || lcO (X.env.scope.names.lookup x))=K1):SS X sf io C (.Assign [.Name x c] ea pos) (.asg n i a):=KG j f g (λz=>by rw[show io.contains i=K1 from List.elem_eq_true_of_mem z] at e;cases e) m l (zt hx) d<|xJ k
theorem say {c:U Q1}{bs:U M.E}(d:SE X sf C ea a)(e:SA X sf C c bs)(f:nIo a=K1)(g:K7 (ea::c) X.env=(K0,Q9 ea X.env)::K7 c X.env):SA X sf C (ea::c) (a::bs):=sac d e (DG f) g
end
end MR

namespace MR
open PySem
section
variable {p:U L->Prop}
theorem u0 (h:p [])(a:U L)(e:a.length=0):p a:=by cases a;exact h;cases e
theorem uS {n:O}(h:∀a b,NW b=n->p (a::b))(b:U L)(e:b.length=n+1):p b:=by
 cases b with
 |nil=>cases e
 |cons a r=>exact h a r<|Mm e
theorem u1 (h:∀a,p [a])(b:U L)(e:b.length=1):p b:=uS (λa=>u0<|h a) b e
theorem u2 (h:∀a b,p [a,b])(c:U L)(e:c.length=2):p c:=uS (λa=>u1<|h a) c e
theorem u3 (h:∀a b c,p [a,b,c])(d:U L)(e:d.length=3):p d:=uS (λa=>u2<|h a) d e
theorem u4 (h:∀a b c d,p [a,b,c,d])(f:U L)(e:f.length=4):p f:=uS (λa=>u3<|h a) f e
theorem u5 (h:∀a b c d e,p [a,b,c,d,e])(f:U L)(e:f.length=5):p f:=uS (λa=>u4<|h a) f e
end
end MR


namespace L3
open PySem PySem.Spec PyProof.Rows L2
theorem rO {X:Cx}:dR X (.type "dict") (λf H Q=>∃(a:QS) (c:U<|Key×V),f=[.ref a]/\H a=Y (.dK c)/\∀p,H p=J->Q (.ref p) (upd H p<|.dK c)):=by intro d s l H f k Q b r h;obtain⟨a,c,rfl,e,q⟩:=h;obtain⟨u,rfl,i⟩:=gJ r;cases i;exact vf b (.inl e) λp j hp g=>⟨.ref p,_,g,rfl,q p hp⟩
end L3
namespace MR
open PySem PySem.Spec PyProof.Rows L2 L3
section
variable {X:Cx}{sf sg:O->B O}{C:M.Call}{pos p p2 p3:Pos}{ea eb ec:Q1}{a b c:M.E}{h:QT}{n:O}{io:U O}{K:K3}
theorem eB {Z:Fp}{H:Hp}{G:Fp}{q:I ⊕ Str}:∀{d:U<|I ⊕ Str} {f:U M.T} {i:U V},RepL K Z H .s f i G->f.length=d.length->M.lookD q d f=J->cZ (mkD d i) q=J
|[],[],_,r,_,_=>by cases(show _=[] from r);rfl
|[],_::_,_,_,e,_=>by cases e
|_::_,[],_,_,e,_=>by cases e
| k::d,v::f,i,⟨x,r,t,u,j,_,w,_,p,r2⟩,l,e=>by
 subst j;have g:(if k=q then Y v else M.lookD q d f)=none:=e;by_cases hk:k=q
 .rw[QY hk] at g;cases g
 .rw [Q0 hk] at g;have m:=eB r2 (Mm l) g;show(((k,x)::mkD d r).find? λo=>decide (o.1=q)).map (·.2)=J;rw[Po<|by simpa using hk];exact m
theorem AA {Z:Fp}{H:Hp}{G:Fp}{q:I ⊕ Str}{d:U<|I ⊕ Str}{f:U M.T}{g:U V}(r:RepL K Z H .s f g G)(i:f.length=d.length):(cZ (mkD d g) q).isSome=(M.lookD q d f).isSome:=by
 cases e:M.lookD q d f with
 |none=>rw[eB r i e];rfl
 |some t=>obtain⟨x,hx,_⟩:=dr r e;rw[hx];rfl
theorem xH:Loc K 2 .inD h λu H Q=>∀y x,u=[y,x]->∃a o,x=.ref a/\DGet H a y o/\Q (.bl o.isSome) H:=by
 intro ws w u Z H G Q hn e r ow za k y x hx;subst hx;obtain⟨⟨n,b⟩,⟨m,a⟩,rfl⟩:=cW r.length.symm;obtain⟨F,N,w1,w2,d,r1,r2⟩:=bA r;obtain⟨l,t,rfl,rfl⟩:∃l t,a=.dct l t/\m=.s:=by cases m<;>first|(cases e;done)|(cases a<;>first|exact⟨_,_,rfl,rfl⟩|(cases e;done))
 have f:((M.keyT b).map λq=>((.d,.bl (M.lookD q l t).isSome):M.W))=Y w:=e;cases e1:M.keyT b with
 |none=>rw[e1] at f;cases f
 |some q=>rw[e1] at f;cases f;obtain⟨ad,ys,A,P,hd,z,g,pr⟩:=r2;have v:=dS e1;subst v;obtain⟨D,_⟩:=iw r1;have i:x=.ref ad:=A;have j:y=kV q:=D;subst i j;refine⟨ad,_,rfl,DGet.k hd.2,?_⟩;rw[AA pr g];exact bS k
theorem Dr {u v w:M.W}(e:M.oSem .inD h [u,v]=Y w):∃b,w.2=.bl b:=by
 obtain⟨n,b⟩:=u;obtain⟨m,a⟩:=v;obtain⟨g,i,rfl,rfl⟩:∃g i,a=.dct g i/\m=.s:=by cases m<;>first|(cases e;done)|(cases a<;>first|exact⟨_,_,rfl,rfl⟩|(cases e;done))
 have f:((M.keyT b).map λq=>((.d,.bl (M.lookD q g i).isSome):M.W))=Y w:=e;cases e1:M.keyT b with
 |none=>rw[e1] at f;cases f
 |some q=>rw[e1] at f;cases f;exact⟨_,rfl⟩
theorem Gz (i:Room n X.A)(d:SE X sf C ea a)(f:SE X sf C eb b)(g:Ms .In eb=false:=by rfl):SB X sf C (.Compare ea [.In] [eb] pos) (.op .inD h [a,b]):=
 i8 (Dp (DR (jw i) d f) g) λk H Q j=>aK xH k H _<|Bz (Bm λu v w e=>Dr e) j
theorem AX {e1 e2:M.E}(σ:L2.St)(H:Hp)(Q:VK)(hw:wE K sf C (.op .getD h [e1,e2]) σ H Q):wH (wE K sf C e1) (wE K sf C e2) σ H Q:=by
 obtain⟨pv,Z,Fs,η,w,η',A,ev,k⟩:=hw;obtain⟨ws,h1,r⟩:=cD ev;obtain⟨⟨m,t⟩,η1,us,g1,g2,rfl⟩:=az h1;obtain⟨⟨m',t'⟩,η2,us,g3,g4,rfl⟩:=az g2;cases g4;obtain⟨l,o,rfl,rfl⟩:∃l o,t=.dct l o/\m=.s:=by cases m<;>first|(cases r;done)|(cases t<;>first|exact⟨_,_,rfl,rfl⟩|(cases r;done))
 have j:((M.keyT t').map λq=>((.s,(M.lookD q l o).getD .non):M.W))=Y w:=r;refine i4 A g1 λx Z1 H1 Fs1 G1 P r1 _ s1 _=>?_;have d:=P.mono (G':=G1) λ_ z=>.inr z;obtain⟨ad,ys,hq,hl,hd,hnk,hvl,pr⟩:=id r1;refine⟨ad,hq,.inl ⟨_,.inl hd.2⟩,?_⟩;refine i4 d g3 λy Z2 H2 Fs2 G2 i r2 d2 s2 t2=>?_;have N:=r1.frame P.gd.own s2 d.dis;obtain⟨ad',ys',e,hl',D,hnk',f,g⟩:=N;have F:x=.ref ad:=hq;rw[F] at e;cases e;cases e1:M.keyT t' with
 |none=>rw[e1] at j;cases j
 | some q =>
  rw[e1] at j;cases j;have hb:=dS e1;subst hb;obtain⟨hy,_⟩:=iw r2;have G:y=kV q:=hy;subst G;refine⟨_,DGet.k D.2,?_⟩;cases e3:M.lookD q l o with
  |none=>rw[eB g f e3];dsimp only at k;rw[e3] at k;exact cH (m:=.s) (t:=.non) i.own (bE i (s1.trans t2) k) rfl
  |some u=>obtain⟨v,hv,rv⟩:=dr g e3;rw[hv];dsimp only at k;rw[e3] at k;exact cH i.own (bE i (s1.trans t2) k) rv.sany
theorem Gg {d e:Pos}(i:Room n X.A)(f:SE X sf C ea a)(g:SE X sf C eb b)(m:M1 X ea "get" d eb e:=by exact⟨rfl,rfl,rfl,rfl⟩):SE X sf C (.Call (.Attribute ea "get" d) [eb] [] e) (.op .getD h [a,b]):=av (uo (jw i) f g m) AX
theorem vT {Z:Fp}{H:Hp}{G:Fp}{Q:VK}{p:QS}{d:U<|I ⊕ Str}{i:U M.T}{j:U V}(r:Own Z H G)(t:∀a,Z a->H a≠J)(l:d.length<=M.LIM)(f:d.Nodup/\∀k∈d,M.kOk k=K1)(g:i.length=d.length)(pr:RepL K Z H .s i j λ_=>Q6)(k:Out K Z H G (.o .s,.dct d i) Q)(hp:H p=J):Q (.ref p) (upd H p<|.dK<|mkD d j):=by
 have m:∀{a u},H a=Y u->a≠p:=λ{a u} e q=>by subst q;rw[hp] at e;cases e
 refine k _ Z _ (λa=>a=p) ⟨p,j,rfl,l,⟨rfl,af⟩,f,g,pr.keep (fH hp) (λ_ z=>z) λa u _ e=>by rw[ag<|m e];exact e⟩ ?_<|d9 hp r (λa h=>.inr h) Z (λ_ z=>z) λ_ z=>.inl z;rintro a rfl;exact⟨λz=>t a z hp,.inr _,af⟩
theorem uC:Loc K 1 .dcpy h λl H Q=>∃(a:QS) (d:U<|Key×V),l=[.ref a]/\H a=Y (.dK d)/\∀p,H p=J->Q (.ref p) (upd H p<|.dK d):=by
 intro z w l Z H G Q u e r y A k
 match z,u with
 |[(m,a)],_=>
  obtain⟨x,rfl,r1⟩:=bC rfl r;obtain⟨i,j,rfl,rfl⟩:∃i j,a=.dct i j/\m=.s:=by cases m<;>first|(cases e;done)|(cases a<;>first|exact⟨_,_,rfl,rfl⟩|(cases e;done))
  cases(show Y ((.o .s,.dct i j):M.W)=Y w from e);obtain⟨ad,D,v,t,hd,f,g,pr⟩:=r1;exact⟨ad,_,by rw[show x=_ from v],hd.2,λp hp=>vT y A t f g pr k hp⟩
theorem Ip (hm:X.mg "dict"=J)(f:Gl X "dict":=by rfl)(ha:SE X sf C ea a)(e:K7 [ea] X.env=(K0,Q9 ea X.env)::K7 [] X.env:=by rfl)(d:(Lu pos<|K7 [] X.env).any (·.1)=false:=by rfl):SE X sf C (.Call (.Name "dict" p) [ea] [] pos) (.op .dcpy h [a]):=
 av (eC rO f hm Qx (slc ha sl0 e) (by decide) (by decide) e d) (iI uC rfl)
theorem zr {x:Str}{e2:M.E}(hx:M.sOk x=K1)(N:L2.St)(H:Hp)(Q:VK)(hw:wE K sf C (.op .dsp1 h [.cst<|.str x,e2]) N H Q):Bh [(tC<|.str x,wE K sf C e2)] N H Q:=by
 obtain⟨pv,Z,y,η,w,η',A,ev,k⟩:=hw;obtain⟨ws,h1,h2⟩:=cD ev;obtain⟨u0,η1,us,g1,g2,rfl⟩:=az h1;obtain⟨⟨m',t'⟩,η2,us,g3,g4,rfl⟩:=az g2;cases g4;cases g1;cases(show Y ((.o .s,.dct [.inr x] [t']):M.W)=Y w from h2);intro p hp;have t:Own Z (upd H p (.dK [])) (λa=>a=p):=by rintro a rfl;exact⟨λz=>A.gd.zal a z hp,.inr [],af⟩
 have st:Step Z H no Z (upd H p (.dK [])) (λa=>a=p):=d9 hp b7 (λa h=>.inr h) Z (λ_ z=>z) λ_ z=>.inl z;obtain⟨P,s0⟩:=A.op t st;have np:¬tot y p:=λq=>by obtain⟨_,d,e⟩:=A.gd.own p q;rw[hp] at e;cases e
 refine i4 (R:=λa=>a=p) P g3 λv m f Fs2 l j r2 d2 s2 t2=>?_;have hk:=s2.keep p _ af np;refine⟨hk,[(.inr x,v)],rfl,by show 1<=15;decide,?_⟩;have o:=bE j ((s0.mono (F':=λc=>tot y c\/c=p) (λ_ q=>q.elim id λq=>q.elim) λ_ q=>q).trans t2) k;have G:¬m p:=(j.own p<|.inl rfl).1;have F:¬l p:=d2 p rfl;have neT:∀b d,f b=Y (.tup d)->b≠p:=λb d e z=>by rw[z,hk] at e;cases e
 have i:∀b o u,f b=Y (.frz o u)->b≠p:=λb o u e z=>by rw[z,hk] at e;cases e
 have r:∀b,m b\/l b->b≠p:=λb h z=>by subst z;exact h.elim G F
 have D:∀b,f b≠J->upd f p (.dK (mkD [.inr x] [v])) b≠none:=λb h=>by
  by_cases e:b=p
  .rw[e,af];simp
  .rw[ag e];exact h
 refine o (.ref p) (λa=>m a\/l a) (upd f p<|.dK<|mkD [.inr x] [v]) (λa=>a=p) ⟨p,[v],rfl,by show 1<=16777215;decide,⟨rfl,af⟩,⟨by simp,λk hk=>by rw[Lv.mp hk];exact hx⟩,rfl,?_⟩ ?_ ?_
 .refine ⟨v,[],no,no,rfl,fun _ z=>z.elim,fun _ z=>z.elim,fun _ z=>z.elim,r2.sh.keep ⟨fun b o hb e=>by rw [ag (r b hb)]; exact e,fun b d e=>?_,fun b o u e=>by rw [ag (i b o u e)]; exact e⟩ (fun _ z=>z) fun _ _ z=>z.elim,rfl⟩;rcases e with e|⟨u,e⟩
  .exact .inl (by rw[ag<|neT b d e];exact e)
  .exact .inr ⟨u,by rw[ag<|i b u _ e];exact e⟩
 .rintro a rfl;exact⟨λz=>z.elim G F,.inr _,af⟩
 .exact⟨λa o e hF=>by rw[ag λz=>hF<|.inl z];exact e,λ_ z=>.inl z,λa h=>h.elim .inl λz=>.inr<|.inl<|.inr z,λa h=>.inl<|.inl h,D,λz a h=>D a (h.elim (z a) λg=>by
   obtain⟨_,d,e⟩:=j.own a<|.inr g;rw[e];simp)⟩
theorem Hc {s:Q4}{e:O}{pk:Pos}(d:s.length<=1000:=by decide)(ha:SE X sf C ea a):SE X sf C (.Dict [Y<|.Constant (.str<|Str.ofString s) e pk] [ea] pos) (.op .dsp1 h [.cst<|.str<|Str.ofString s,a]):=
 av (yU (vC wz ha AH) rfl rfl (by simp) (by show 1<=15;decide)) (zr<|oK s d)
end
end MR

namespace L3
open PySem PySem.Spec PyProof.Rows L2
section
variable {X:Cx}{pins:U (QS×Obj)}{σ:L2.St}{H:Hp}{s:K2}{a:QS}{A:Lj}{E:L->K2->Prop}{pos apos cpos:Pos}{o e f:Q1}{td ty tx:TE}
theorem FH {c:U<|Key×V}{k:Key}{z:V}{u r:L}{Q:L->K2->Prop}(b:L2.Inv X pins σ H s)(e:H a=Y (.dK c))(hl:c.length<sizeLine)(N:RelV (kV k) u)(P:RelV z r)
  (t:∀v,cZ c k=Y v->∀n i,L2.Inv X pins σ H i->RelV v n->Q n i) (x:cZ c k=J->∀i,L2.Inv X pins σ (upd H a<|.dK<|cj c k z) i->Q r i):
  QX (K5 X.prog X.w) A (call (.builtin "dict.setdefault") [.ref a,u,r]) Q E s:=by
 obtain⟨zl,hd,Z,g,m⟩:=oq b.hok e;have d:=g.val k;refine NQ Qs m.typeIs PySem.F.entry_dict_setdefault (PySem.F.args_dict_setdefault_3 _ _ _) (kt_meets_setdefault (aL X.prog X.w) a (hW N) hd r) ⟨Z,m,by rw[<- g.length];exact zl,λv' l=>?_,λD p h M=>?_⟩
 .rw [l] at d;cases ev:cZ c k with
  |none=>rw[ev] at d;exact d.elim
  |some v=>rw[ev] at d;exact t v ev _ _ (b.tok _) d
 .rw [D] at d
  have ev:cZ c k=none:=by
   cases ev:cZ c k with
   |none=>rfl
   |some v=>rw[ev] at d;exact d.elim
  have y:∃q,p.get? a=Y q:=let ⟨q,_,_,G,_⟩:=h;⟨q,G⟩;have j:(cj c k z).length<=sizeLine:=by have:=cR c k z;lia
  exact x ev _<|gB b (by rw[e];exact LW) M y<|kf j hd (g.put k P) h
def IA (td ty tx:TE):TE:=λσ H Q=>td σ H λx d=>∃a,x=.ref a/\IsD d a/\ty σ d λy g=>tx σ g λz c=>∃(b:U<|Key×V) (k:Key),c a=Y (.dK b)/\y=kV k/\b.length<sizeLine/\(∀v,cZ b k=Y v->Q v c)/\(cZ b k=J->Q z (upd c a<|.dK<|cj b k z))
theorem Az (ho:PE X o td)(N:PE X e ty)(P:PE X f tx)(m:M2 X o "setdefault" apos e f cpos):PE X (.Call (.Attribute o "setdefault" apos) [e,f] [] cpos) (IA td ty tx):=by intro pins s σ H Q b h;refine Og m.base m.few m.line OF Qs PySem.F.type_dict_setdefault<|thn (ho pins s σ H _ b h) λu s1 ⟨x,l,i,rx,a,w,d,q1⟩=>?_;subst w;cases(show u=Value.ref a from rx);obtain⟨t1,t2,_⟩:=wW i d;refine⟨t1,t2,?_⟩;rw[m.trees];refine Calls.callWith_builtin rfl (Calls.evalArgs_plain<|Calls.spliced_cons<|thn (N pins s1 σ l _ i q1) λiv s2 ⟨y,n,r,ry,q2⟩=>Calls.spliced_cons<|thn (P pins s2 σ n _ r q2) λfv s3 ⟨z,p,t,j,kvs,k,hx,D,Z,G,M⟩=>Calls.spliced_nil ?_);subst D;exact FH t hx Z ry j (λv hv w' s4 c g=>⟨v,p,c,g,G v hv⟩) λhn s4 c=>⟨z,_,c,j,M hn⟩
end
end L3
namespace MR
open PySem PySem.Spec PyProof.Rows L2 L3
section
variable {X:Cx}{sf sg:O->B O}{C:M.Call}{pos p p2 p3:Pos}{ea eb ec:Q1}{a b c:M.E}{h:QT}{n:O}{io:U O}{K:K3}
theorem sE {u v w:B M.W}{r:M.W×M.W}(e:M.sdfT u v w=Y r):∃m d f n x t,u=Y (m,.dct d f)/\v=Y (n,.str x)/\w=Y (.s,t)/\m≠.s/\d.length<M.LIM/\((∃z,M.lookD (.inr x) d f=Y z/\r=((.s,z),(m,.dct d f)))\/(M.lookD (.inr x) d f=J/\r=((.s,t),(.o .s,.dct (M.putT (.inr x) t d f).1 (M.putT (.inr x) t d f).2)))):=by
 unfold M.sdfT at e;split at e
 .cases e
 .rename_i m d f n x t i;split at e
  .rename_i g;refine⟨m,d,f,n,x,t,rfl,rfl,rfl,λz=>i z,QU g,?_⟩;cases e1:M.lookD (.inr x) d f with
   |none=>rw[e1] at e;cases e;exact .inr ⟨rfl,rfl⟩
   |some z=>rw[e1] at e;cases e;exact .inl ⟨z,rfl,rfl⟩
  .cases e
 .cases e
theorem lA:∀{η:M.Env} {i:O} {w:M.W},M.rd η i=Y w->M.put η i w=η
|o::η,0,w,e=>by have e:o=Y w:=e;subst e;rfl
|o::η,i+1,w,e=>by show o::M.wr η i (Y w)=o::η;rw[show M.wr η i (Y w)=η from lA (η:=η) (i:=i) (w:=w) e]
theorem Cd {i j k si sj sk:O}(hi:sf i=Y si)(hj:sf j=Y sj)(hk:sf k=Y sk)(σ:L2.St)(H:Hp)(Q:VK)(hw:wE K sf C (.sdf i j k) σ H Q):IA (bJ si) (bJ sj) (bJ sk) σ H Q:=by
 obtain⟨pv,Z,P,η,w,η',A,ev,k0⟩:=hw;obtain⟨r,h4,h5⟩:=aa<|show(M.ofO<|M.sdfT (M.rd η i) (M.rd η j)<|M.rd η k).bind (M.kSdf i η)=_ from ev;cases h5;obtain⟨m,g,u,nn,x,t,e1,e2,e3,hm,F,hc⟩:=sE<|cO h4;obtain⟨v1,r1,l1,p1⟩:=A.env i m _ e1;obtain⟨v2,r2,l2,_⟩:=A.env j nn _ e2;obtain⟨v3,r3,l3,_⟩:=A.env k .s t e3;obtain⟨a,D,rfl,hl,hf,hx,l,d,p⟩:=kh hm r1;have G:D.length=g.length:=by rw[p.length,d]
 have pS:RepL K (λb=>Z b\/Q6) H .s u D no:=RepL.sh p;refine⟨.ref a,l1 si hi,a,rfl,.inl ⟨_,.inl hx⟩,v2,l2 sj hj,v3,l3 sk hk,mkD g D,.inr x,hx,r2.1,?_,λv hv=>?_,λhn=>?_⟩
 .show (g.zip D).length<_;rw[Oo,G,Ov];exact LD F<|LIM_le<|La _
 .rcases hc with ⟨z,f,rfl⟩ | ⟨f,rfl⟩
  .obtain ⟨y,N,ry⟩:=dr pS f;rw[hv] at N;cases N;rw[lA e1] at k0;exact k0 v Z H P no A (ry.zmono λb h=>h.elim id Ml)<|(Step.refl Z H<|tot P).mono (λ_ z=>z) λ_ z=>z.elim id λq=>q.elim
  .rw[eB pS d f] at hv;cases hv
 .rcases hc with ⟨z,f,rfl⟩ | ⟨f,rfl⟩
  .obtain ⟨y,N,ry⟩:=dr pS f;rw[hn] at N;cases N
  .obtain ⟨q1,q2⟩:=fg (.inr x) t g u d;have rS:Rep K (λb=>Z b\/((P i b\/no b)/\b≠a/\¬no b/\¬no b)) H .s t v3 no:=(r3.sany (G':=no)).zmono λb h=>.inl h;have pS2:RepL K (λb=>Z b\/((P i b\/no b)/\b≠a/\¬no b/\¬no b)) H .s u D (λ_=>Q6):=pS.zmono λb h=>h.elim .inl Ml;rw[gD (.inr x) t v3 g u D d G l.1];exact kM (K:=K) (m':=.o .s) (G':=no) (R:=no) (by simp) A e1 hf (λk hk=>by rw[show sf i=Y k from hk] at hi;cases hi;exact l1 _ hk) (by lia) ⟨dF (.inr x) t g u d l.1,λz f=>((ed (.inr x) t g u d z).mp f).elim (λe=>e ▸ r2.2)<|l.2 z⟩ q1 p1 (λ_ z=>z.elim) (λ_ z=>z.elim) (λ_ z=>z.elim) (f7 rS g u D d pS2) λZ5 Fs5 B5 s5 tr=>k0 v3 Z5 _ Fs5 no B5 (tr rS)<|s5.mono (λ_ z=>z.elim id λq=>q.elim) λ_ z=>z
theorem Jl (o r s:O){i j k:O}{x y z:Str}{d e f g l:Pos}(F:sf i=Y o:=by rfl)(G:sf j=Y r:=by rfl)(hk:sf k=Y s:=by rfl)(H:X.N[o]?=Y x:=by rfl)(M:X.N[r]?=Y y:=by rfl)(P:X.N[s]?=Y z:=by rfl)
  (Q:Vis X.env.scope x:=by first|exact Lh rfl|exact Ld (Lh rfl)|exact Ld<|Ld rfl) (Z:Vis X.env.scope y:=by first|exact Lh rfl|exact Ld (Lh rfl)|exact Ld<|Ld rfl) (vz:Vis X.env.scope z:=by first|exact Lh rfl|exact Ld (Lh rfl)|exact Ld<|Ld rfl)
  (w:(x==("__debug__":Str))=false:=by decide) (A:(y==("__debug__":Str))=false:=by decide) (D:(z==("__debug__":Str))=false:=by decide) (t:(x==("__classdict__":Str))=false:=by decide) (u:(y==("__classdict__":Str))=false:=by decide) (v:(z==("__classdict__":Str))=false:=by decide)
  (m:M2 X (.Name x f) "setdefault" d (.Name y g) (.Name z l) e:=by exact⟨rfl,rfl,rfl,rfl⟩):SE X sf C (.Call (.Attribute (.Name x f) "setdefault" d) [.Name y g,.Name z l] [] e) (.sdf i j k):=
 av (Az (bM H Q w t) (bM M Z A u) (bM P vz D v) m) (Cd F G hk)
end
end MR

namespace L3
open PySem PySem.Spec PyProof.Rows L2
theorem wF {X:Cx}{o e f:Q1}{i j:Pos}{ty tx:TE}{ad:QS}{T:U<|Str×V}(D:DTab X.K X.w ad T)(ho:PE X o<|tC<|.ref ad)(he:PE X e ty)(hf:PE X f tx)(m:M2 X o "get" i e f j):PE X (.Call (.Attribute o "get" i) [e,f] [] j) (λk H Q=>ty k H λy l=>tx k l λd p=>∃z,y=.str z/\Q ((T.lookup z).getD d) p):=by
 intro c s k H Q a h;refine Og m.base m.few m.line OF Nu Pn<|thn (ho c s k H (λx v=>x=.ref ad/\ty k v λy l=>tx k l λd p=>∃z,y=.str z/\Q ((T.lookup z).getD d) p) a ⟨rfl,h⟩) λu s1 ⟨x,v,A,rx,Z,q1⟩=>?_;subst Z;cases(show u=Value.ref ad from rx);obtain⟨g,hm,hg⟩:=D.map (P:=X.prog) A.kIn;obtain⟨es,n,k1,k2,k3⟩:=D.ex;refine⟨hm.typeIs,λb q=>?_,?_⟩
 .cases q;exact⟨_,A.kIn _ _ k1,rfl⟩
 rw[m.trees];refine Calls.callWith_builtin rfl (Calls.evalArgs_plain<|Calls.spliced_cons<|thn (he c s1 k v _ A q1) λiv s2 ⟨y,l,N,ry,q2⟩=>Calls.spliced_cons<|thn (hf c s2 k l _ N q2) λfv s3 ⟨d,p,M,rd,z,ey,q3⟩=>Calls.spliced_nil ?_);subst ey;obtain⟨t,rfl⟩:=ry;obtain⟨f2,r,G⟩:=D.map (P:=X.prog) M.kIn;exact NQ Nu r.typeIs OE (PySem.F.args_dict_get_3 _ _ _) (meets_dict_get_default (strKind X.prog X.w) ad (NO X.prog X.w z t) D.lo fv) ⟨f2,r,(T.lookup z).getD d,p,M.tok _,(G z).getD rd,q3⟩
end L3
namespace MR
open PySem PySem.Spec PyProof.Rows L2 L3
section
variable {X:Cx}{sf sg:O->B O}{C:M.Call}{pos p p2 p3:Pos}{ea eb ec:Q1}{a b c:M.E}{h:QT}{n:O}{io:U O}{K:K3}
theorem gb (z:Str):∀d:U<|Str×I,(d.map λp=>(p.1,M.T.int p.2)).lookup z=(d.lookup z).map M.T.int
|[]=>rfl
|(x,i)::d=>by rw[Ln,Mo,Mo,gb z d];cases z==x<;>rfl
theorem ur {T:U<|Str×V}{f:U<|Str×I}(o:∀z,match (f.map λp=>(p.1,M.T.int p.2)).lookup z with
  |some t=>∃v,T.lookup z=Y v/\CstR K t v
  |none=>T.lookup z=J):Loc K 2 (.getI f) h λl H Q=>∀y d,l=[y,d]->∃z,y=.str z/\Q ((T.lookup z).getD d) H:=by
 intro ws w l Z H G Q N e r P za k y d hx;subst hx;obtain⟨⟨m,a⟩,⟨n,b⟩,rfl⟩:=cW r.length.symm;obtain⟨A,D,w1,w2,F,r1,r2⟩:=bA r;obtain⟨x,i,rfl,rfl⟩:∃x i,a=.str x/\b=.int i:=by cases a<;>first|(cases e;done)|(cases b<;>first|exact⟨_,_,rfl,rfl⟩|(cases e;done))
 cases(show Y ((.d,.int<|(f.lookup x).getD i):M.W)=Y w from e);refine⟨x,r1.1,?_⟩;have q:=o x;rw[gb] at q;cases g:f.lookup x with
 |none=>rw[g] at q k;rw[show T.lookup x=J from q,show d=.int i from r2];exact a9 k
 |some j=>rw[g] at q k;obtain⟨v,s,u⟩:=q;rw[s,show v=.int j from u Z H];exact a9 k
theorem GK {x:Str}{tab:U<|Str×M.T}{g:U<|Str×I}{d e:Pos}(T:kq X.K X.w X.mg x tab)(i:SE X sf C ea a)(j:SE X sf C eb b)(f:tab=g.map λp=>(p.1,M.T.int p.2):=by rfl)(k:Gl X x:=by rfl)(hd:(x==("__debug__":Str))=false:=by decide)(m:M2 X (.Name x p2) "get" d ea eb e:=by exact⟨rfl,rfl,rfl,rfl⟩):SE X sf C (.Call (.Attribute (.Name x p2) "get" d) [ea,eb] [] e) (.op (.getI g) h [a,b]):=by subst f;obtain⟨ad,r,l,D,o⟩:=T;exact av (wF D (iA k l hd) i j m)<|aK<|ur o
end
end MR



namespace MR
open PySem PySem.Spec PyProof.Rows L2 L3
section
variable {X:Cx}{sf sg:O->B O}{C:M.Call}{pos p p2 p3:Pos}{ea eb ec:Q1}{a b c:M.E}{h:QT}{n:O}{io:U O}{K:K3}
theorem xK {e:M.E}(σ:L2.St)(H:Hp)(R:It->Hp->Prop)(h:wI K sf C 2 .sq2T [e] σ H R):Dq K (wE K sf C e) σ H R:=by
 obtain⟨pv,Z,Fs,η,ws,η',ts,A,ev,P,k⟩:=h;obtain⟨⟨m,a⟩,η1,us,e1,e2,rfl⟩:=az ev;cases e2;obtain⟨t1,rfl⟩:∃t1,a=.tup t1:=by cases a<;>first|exact⟨_,rfl⟩|cases P
 have g:M.pairsT t1=Y ts:=P;have N:=iJ g;refine⟨pv,Z,Fs,η,_,_,A,e1,λv Z' H' t G f r s=>?_⟩;obtain⟨a,o,rfl,q,l,p⟩:=Rep.sh r;have hl:=p.length;refine⟨a,rfl,⟨o,q⟩,k _ _ H' t f.freeze (bg f.own s) ⟨λD i s F=>?_,λD i s F=>?_,by lia⟩ λD i x H1 s F y=>?_⟩
 .exact⟨o,o[i]'(by lia),s.sqt q,by simp⟩
 .exact⟨o,s.sqt q,by lia⟩
 .obtain ⟨rfl,y⟩:=y;have hx:=y o (s.sqt q);have hi':i<t1.length:=by lia
  obtain⟨x',j,Q⟩:=p.get (show t1[i]?=Y t1[i] by simp);rw[hx] at j;cases j;obtain⟨u,w,et,eu⟩:=iF g (show t1[i]?=Y t1[i] by simp);rw[et] at Q;obtain⟨c,ys,rfl,hq,_,y1,r1,G1,G2,rfl,g1,g2,d,p1,y2,r2,G3,G4,e2,g3,g4,d2,p2,q2⟩:=Q;cases e2;obtain rfl:r2=[]:=q2;refine⟨c,y1,y2,(.s,u),(.s,w),rfl,λ_ _ e=>e,s.sqt hq,eu,(p1.mono (G':=no) λa h=>g1 a h).sany.keep s (λ_ z=>z) λ_ _ z=>z.elim,(p2.mono (G':=no) λa h=>g2 a<|g3 a h).sany.keep s (λ_ z=>z) λ_ _ z=>z.elim⟩
theorem vQ {e:Q1}(d:SE X sf C ea a):PI X e ea (wI X.K sf C 2 .sq2T [a]):=lX (nC d) xK
end
end MR


namespace MR
open L2 L3 M
open PySem (Addr Str sizeLine)
section
variable {K:K3}{Wx:L2.St->VK}{sf:O->B O}{C:Call}{io:U O}
theorem wD {x:X}{t l t2 j j' j2:O}{e:E}(hi:t ∉ io)(M:l ∉ io)(P:t2 ∉ io)(hs:sf t=Y j)(Q:sf l=Y j')(hs2:sf t2=Y j2)(D:bP)(σ:L2.St)(H:Hp)(h:wS K Wx sf io C (.asgT x [t,l,t2] e) D σ H):
  kz (wE K sf C e) (AI K 3<|gf (bO j)<|gf (bO j')<|gf (bO j2) zU) D σ H:=by
 obtain⟨pv,Z,Fs,η,N,A,f⟩:=h;obtain⟨⟨w,k⟩,h1,h2⟩:=a7<|show Fin K Wx ⟨sf,pv⟩ Z H (tot Fs) D (Fl.of η (evX C x e η)<|pG [t,l,t2]) from f;obtain⟨η2,h3,h4⟩:=eA<|show Fin K Wx ⟨sf,pv⟩ Z H (tot Fs) D (nxO k<|(BY w).bind λws=>bf [t,l,t2] ws k) from h2;refine gk (sl:=⟨sf,pv⟩) A h1 λv Z' H' Fs' G g r s=>?_;obtain⟨m,t0⟩:=w;cases t0 with
 | tup ts =>
  have i:bf [t,l,t2] (ts.map λt=>(m.kid,t)) k=Y η2:=h3
  match ts,i with
  | [a,b,c],i =>
   cases i;obtain⟨p,xs,rfl,hq,hl,y1,r1,G1,G2,rfl,g1,n,d,p1,y2,r2,G3,G4,e2,y,F,d2,p2,u,r3,G5,G6,e3,o,g6,d3,p3,q⟩:=r;cases e2;cases e3;obtain rfl:r3=[]:=q;have B1:=At.setR (w:=(m.kid,a)) (R:=λa=>G3 a\/G5 a) N hi hs g p1 g1 (λa h=>h.elim (λh=>n a<|y a h) λh=>n a<|F a<|o a h) λa h z=>h.elim (λh=>d a z<|y a h) λh=>d a z<|F a<|o a h;have B2:=At.setR (w:=(m.kid,b)) (R:=G5) N M Q B1 p2 (λa h=>.inl h) (λa h=>.inr h) λa h z=>d2 a z<|o a h;have B3:=At.set (w:=(m.kid,c)) N P hs2 B2 p3;refine⟨p,[y1,y2,u],rfl,hq,rfl,y1,[y2,u],rfl,y2,[u],rfl,u,[],rfl,rfl,h4 _ Z' H' _ B3<|s.mono (λ_ z=>z) λa h=>?_⟩;rcases bz h with h|h
   .rcases bz h with h | h
    .exact(bz h).imp id (g1 a)
    .exact .inr (n a<|y a h)
   .exact .inr (n a<|F a<|o a h)
  |[],i=>cases i
  |[_],i=>cases i
  |[_,_],i=>cases i
  |_::_::_::_::_,i=>cases i
 |_=>cases h3
end
end MR
namespace MR
open PySem PySem.Spec PyProof.Rows L2 L3
section
variable {X:Cx}{sf sg:O->B O}{C:M.Call}{pos p p2 p3:Pos}{ea eb ec:Q1}{a b c:M.E}{h:QT}{n:O}{io:U O}{K:K3}
theorem mP (j l k:O){t u v:O}{x y z:Str}{A D F pt:Pos}{w:O}{xx:M.X}(d:X.N.Nodup)(G:SE X sf C ea a)(Q:t ∉ io:=by decide)(g:u ∉ io:=by decide)(m:v ∉ io:=by decide)(hs:sf t=Y j:=by rfl)(o:sf u=Y l:=by rfl)(r:sf v=Y k:=by rfl)(Z:X.N[j]?=Y x:=by rfl)(hl:X.N[l]?=Y y:=by rfl)(hk:X.N[k]?=Y z:=by rfl)
  (hx:L2.Loc X.env.scope x:=by first|exact Lh rfl|exact Ld rfl) (hy:L2.Loc X.env.scope y:=by first|exact Lh rfl|exact Ld rfl) (hz:L2.Loc X.env.scope z:=by first|exact Lh rfl|exact Ld rfl) (H:X.calm=true:=by rfl)
  (P:X.fn x=K1\/X.env.scope.names.lookup x=Y .local:=by first|exact .inl rfl|exact .inr rfl) (e:X.fn y=K1\/X.env.scope.names.lookup y=Y .local:=by first|exact .inl rfl|exact .inr rfl) (f:X.fn z=K1\/X.env.scope.names.lookup z=Y .local:=by first|exact .inl rfl|exact .inr rfl)
  (s:RC [.Tuple [.Name x A,.Name y D,.Name z F] w pt] ea pos.line X.env=pure false:=by rfl) (hw:RD [.Tuple [.Name x A,.Name y D,.Name z F] w pt] ea X.env=pure none:=by rfl):
  SS X sf io C (.Assign [.Tuple [.Name x A,.Name y D,.Name z F] w pt] ea pos) (.asgT xx [t,u,v] a):=
 cT (xr G (nY (n:=3) H<|cA (bN (i:=j) d Z hx P)<|cA (bN (i:=l) d hl hy e)<|cA (bN (i:=k) d hk hz f) jK) s hw) (wD Q g m hs o r)
end
end MR

namespace L3
open PySem PySem.Spec PyProof.Rows L2
section
variable {prog:QZ}{w:K6}{A:Lj}{E:L->K2->Prop}{s:K2}
abbrev tK (prog:QZ)(w:K6):HeapKind prog w (U I):=Ng<|intKind prog w
def PrAt (h:Q5)(v:L)(z:KZ):Prop:=∃p o n,v=.ref p/\h.get? p=Y o/\o.cls=.type "tuple"/\o.data=.seq #[.ref z.2.1,z.2.2] n
theorem mR {v:L}{z:KZ}{Q:U L->K2->Prop}(hp:PrAt s.heap v z)(h:Q [.ref z.2.1,z.2.2] s):QX (K5 prog w) A (Builtin.Dict.pairItems v) Q E s:=by obtain⟨p,o,n,rfl,e,c,d⟩:=hp;have hT:s.TypeIs (.ref p) "tuple":=⟨o,e,c⟩;unfold Builtin.Dict.pairItems;refine K4<|NV hT ?_;rw[QY<|by decide];refine K4<|MI e d ?_;exact Lc h
theorem PrAt.keep {h a:Q5}{v:L}{z:KZ}{d:QS}(x:PrAt h v z)(k:∀b o,b≠d->h.get? b=Y o->a.get? b=Y o)(hd:∀p,v=.ref p->p≠d):PrAt a v z:=by obtain⟨p,o,n,rfl,e,r⟩:=x;exact⟨p,o,n,rfl,k p o (hd p rfl) e,r⟩
inductive Prs (h:Q5):U L->U KZ->Prop
 |nil:Prs h [] []
 |cons {v:L} {z:KZ} {vs:U L} {zs:U KZ}:PrAt h v z->Prs h vs zs->Prs h (v::vs) (z::zs)
theorem Prs.length {h:Q5}:∀{a:U L} {b:U KZ},Prs h a b->a.length=b.length
|_,_,.nil=>rfl
|_,_,.cons _ r=>by rw[Lk,Lk,r.length]
theorem Prs.get {h:Q5}:∀{a:U L} {b:U KZ} {i:O} {v:L},Prs h a b->a[i]?=Y v->∃z,b[i]?=Y z/\PrAt h v z
|_,_,_,_,.nil,e=>by simp at e
|_,_,0,_,.cons x r,e=>by rw[NN] at e;cases e;exact⟨_,rfl,x⟩
|_,_,i+1,_,.cons x r,e=>by rw[L6] at e;obtain⟨z,c,d⟩:=r.get e;exact⟨z,by rw[L6];exact c,d⟩
theorem Prs.keep {h b:Q5}:∀{a:U L} {c:U KZ},(∀v∈a,∀z:KZ,PrAt h v z->PrAt b v z)->Prs h a c->Prs b a c
|_,_,_,.nil=>.nil
|_,_,k,.cons x r=>.cons (k _ Lg _ x)<|r.keep λv d=>k v<|Lr _ d
theorem hZ:∀{a:U KZ} {i:O} {z:KZ},(a.map (·.1)).Nodup->a[i]?=Y z->z.1 ∉ (a.take i).map (·.1)
|[],_,_,_,e=>by simp at e
|y::a,0,z,_,_=>by rw[Mw];simp
|y::a,i+1,z,d,e=>by
 rw[L6] at e;obtain⟨b,c⟩:=Mg.mp d;rw[MD,Ln,Lm];rintro(h|h)
 .exact b (LR.mpr ⟨z,ME e,h⟩)
 .exact hZ c e h
theorem AO {a:U KZ}{k:U I}(h:k ∉ a.map (·.1)):Rn a k=none:=by unfold Rn;rw[Option.map_eq_none_iff,List.find?_eq_none];intro x hx;simp only[Q3];exactλz=>h<|LR.mpr ⟨x,hx,z⟩
theorem Prs.mem {h:Q5}:∀{b:U L} {c:U KZ},Prs h b c->∀v∈b,∃z,PrAt h v z
|_,_,.nil,v,a=>nomatch a
|_,_,.cons x r,v,a=>(Lm.mp a).elim (λe=>⟨_,e ▸ x⟩)<|r.mem v
theorem n5 (a:U KZ)(z:KZ)(h:z.1 ∉ a.map (·.1)):storedH a z.1 z.2.1 z.2.2=a++[z]:=storedH_new (AO h) z.2.1 z.2.2
theorem jE:entryFor table "dict.update.loop"=Y ML.«dict.update.loop»:=entryFor_of_tree<|by kernel_rfl
theorem gC {h c:Q5}{k:U I}{b:QS}(x:(tK prog w).is h k b)(e:∀o,h.get? b=Y o->c.get? b=Y o):(tK prog w).is c k b:=by obtain⟨o,a,n,d,r⟩:=x;exact⟨o,a,n,e o d,r⟩
theorem ou {h a:Q5}{d:QS}{b:U KZ}(x:h.DictOfH (tK prog w) d b)(e:∀o,h.get? d=Y o->a.get? d=Y o)(f:∀z∈b,∀o,h.get? z.2.1=Y o->a.get? z.2.1=Y o):a.DictOfH (tK prog w) d b:=by obtain⟨o,g,ep,i,j,k,l,m,n⟩:=x;exact⟨o,g,ep,e o i,j,k,l,λz c=>gC (m z c)<|f z c,n⟩
theorem i9 (hh:A.handled=J)(hu:A.units+1<Rk){R:Result->K2->Prop}{I d t:QS}(h1:d≠I)(h2:d≠t)(h3:t≠I){items:Rg L}{zs:U KZ}(D:zs.length<=sizeLine)(G:(zs.map (·.1)).Nodup)(m:∀z∈zs,z.2.1≠I/\z.2.1≠d)(vI:∀v∈items.toList,v≠.ref I/\v≠.ref d):∀(k i:O) (s:K2) (j:L),i+k=zs.length->j=MA i->s.heap.IsListIter I t i->s.heap.IsList t items->Prs s.heap items.toList zs->(∀z∈zs,(tK prog w).is s.heap z.1 z.2.1)->s.heap.DictOfH (tK prog w) d (zs.take i) ->
 (∀f tk,(∀b o,b≠d->b≠I->s.heap.get? b=Y o->f.get? b=Y o)->f.DictOfH (tK prog w) d zs->R (.ok<|.ret .none) {s with heap:=f,toks:=tk}) ->
 MM (K5 prog w) A (.builtin "dict.update.loop" ⟨[.ref d,.ref I,j,.none],[]⟩) R s
|0,i,s,j,hk,hj,it,tp,ps,ks,Z,q=>by subst hj;have F:items.toList.length=zs.length:=ps.length;have hn:items[i]?=none:=Pp (by rw[<- Mp];lia);refine codeAny_builtin jE ?_;unfold ML.«dict.update.loop» MA;refine K4<|Rv hh it tp hn λf eb=>?_;rw[OD<|by lia] at Z;exact K4<|Lc<|Lc<|q f s.toks (λb o _ a D=>eb b o a D)<|ou Z (λo e=>eb d o h1 e) λz N o e=>eb _ o (m z N).1 e
| k+1,i,s,j,hk,hj,it,tp,ps,ks,Z,q=>by
 subst hj;have F:items.toList.length=zs.length:=ps.length;have hi:i<zs.length:=by lia
 obtain⟨v,hv⟩:∃v,items.toList[i]?=Y v:=⟨_,MG<|by lia⟩;obtain⟨z,N,hp⟩:=ps.get hv;have hvm:v∈items.toList:=ME hv;have P:z∈zs:=ME N;refine codeAny_builtin jE ?_;unfold ML.«dict.update.loop» MA;refine K4<|Rp it tp (x:=v) (by simpa using hv) λf it' sb=>?_;have c:∀b o,b≠I->s.heap.get? b=Y o->f.get? b=Y o:=λb o D e=>(sb.2 b D).trans e;have hp':PrAt f v z:=hp.keep c λp e z=>(vI v hvm).1 (by rw[e,z]);refine K4<|M4<|K4<|wpAny_tryCatch<|mR hp' ?_;have dd':f.DictOfH (tK prog w) d (zs.take i):=ou Z (λo e=>c d o h1 e) λy M o e=>c _ o (m y<|Qt M).1 e;refine M4 (wpAny_dictSet_heap (s:={s with heap:=f}) (knd:=tK prog w) (show A.in1.units<Rk from hu) (gC (ks z P) λo e=>c _ o (m z P).1 e) dd' (λg u Q=>?_)<|by rw[NJ];lia);refine Lc ⟨(by first|rfl|kernel_rfl|(unfold Code.quiet;kernel_rfl)|simp[Code.quiet]),?_⟩;have hnk:z.1 ∉ (zs.take i).map (·.1):=hZ G N;have et:zs.take (i+1)=zs.take i++[z]:=by rw[List.take_add_one,N];rfl
 rw[n5 _ _ hnk,<- et] at u;have l:∀b o,b≠d->b≠I->s.heap.get? b=Y o->g.get? b=Y o:=λb o h a e=>(Q.2 b h).trans<|c b o a e;refine i9 hh hu h1 h2 h3 D G m vI k (i+1) _ _ (by lia) (by show Value.int _ _=Value.int _ _;congr 1) (it'.at λo e=>(Q.2 I<|LF h1).trans e) ?_ (ps.keep λv' H z' x=>?_) (λy M=>gC (ks y M) λo e=>l _ o (m y M).2 (m y M).1 e) u λh'' tk keep dd3=>q h'' tk (λb o h a e=>keep b o h a<|l b o h a e) dd3
 .obtain ⟨o,e1,e2⟩:=tp;exact⟨o,l t o (LF h2) h3 e1,e2⟩
 .obtain ⟨p,o,n,rfl,e,r⟩:=x;exact⟨p,o,n,rfl,l p o (λz=>(vI _ H).2<|by rw[z]) (λz=>(vI _ H).1<|by rw[z]) e,r⟩
theorem ky:RI (.type "list") "keys"=pure none:=by rw[typeLookup_type,Rw];kernel_rfl
theorem nq {a:QS}{b:Rg L}{n:O}{h:Tok}{Q:Fin->K2->Prop}(hx:s.heap.get? a=Y {cls:=.type "list",data:=.seq b n})(d:A.handled=J)(f:∀c g e,Heap.NewAttrErr s.heap c e (.ref a) "keys"->E (.ref e) {s with heap:=c,toks:=g}):
  QX (K5 prog w) A (ML.«object.__getattribute__» ⟨[.ref a,.str "keys" h],[]⟩) Q E s:=by
 have hT:s.TypeIs (.ref a) "list":=⟨_,hx,rfl⟩;have i:=ky
 repeat (any_goals (first|assumption|wp_step))
 exact wpAny_raiseAttrError d f<|attrMsg_fits (by decide +kernel)<|by decide
theorem kA:RI (.type "list") "__getattr__"=pure none:=by rw[typeLookup_type,Rw];kernel_rfl
theorem rF {a:QS}{c:Rg L}{n:O}{Q:B L->K2->Prop}(hx:s.heap.get? a=Y {cls:=.type "list",data:=.seq c n})(p:A.handled=J)(r:∀f h,(∀b o,s.heap.get? b=Y o->f.get? b=Y o)->Q J {s with heap:=f,toks:=h}):QX (K5 prog w) A (getAttr? (.ref a) "keys") Q E s:=by
 have hT:s.TypeIs (.ref a) "list":=⟨_,hx,rfl⟩;have t:=sub_AttributeError;have u:=F.slot_list_getattribute.lookup;have v:=F.slot_list_getattribute.bind<|.ref a;have x:=kA;obtain⟨hp,g,d,l,os⟩:=s;unfold getAttr? getAttrBy? getAttrBy
 repeat (any_goals (first|assumption|wp_step))
 refine codeAny_call_builtin F.slot_list_getattribute.plain F.entry_list_ga<|F.slot_list_getattribute.check _ _ _ _ _ _ _ _ (show(⟨hp,g,d,l+1,os⟩:K2).TypeIs (.ref a) "list" from⟨_,hx,rfl⟩) (F.args_list_getattribute_2 _ _) ?_;refine nq (s:=⟨hp,g,d,l+1,os⟩) hx (by exact p) λf h e k=>?_;obtain⟨t1,u1,m⟩:=k.there;have i:∀t2,(⟨f,g,d,t2,os⟩:K2).TypeIs (.ref e) "AttributeError":=λt2=>⟨_,m,rfl⟩;have j:=i h;show QX _ _ (getattributeRaised _ _ _ _ _ _ _) _ _ _;unfold getattributeRaised
 repeat (any_goals (first|assumption|wp_step))
 exact r f h k.keeps
theorem nX {t:QS}{items:Rg L}{P:O}{Q:L->K2->Prop}(hh:A.handled=J)(hu:A.units+5<Rk)(Z:s.heap.get? t=Y {cls:=.type "list",data:=.seq items P}){zs:U KZ}(u:zs.length<=sizeLine)(D:(zs.map (·.1)).Nodup)(ps:Prs s.heap items.toList zs)(N:∀z∈zs,(tK prog w).is s.heap z.1 z.2.1)
  (q:∀k G,(∀b o,s.heap.get? b=Y o->k.get? b=Y o)->k.DictOfH (tK prog w) s.heap.objs.size zs->Q (.ref s.heap.objs.size) {s with heap:=k,toks:=G}):QX (K5 prog w) A (call (.type "dict") [.ref t]) Q E s:=by
 refine callType_codes (Q₁:=λobj h=>obj=.ref s.heap.objs.size/\h={s with heap:=s.heap.push {cls:=.type "dict",data:=.dict #[]}}) F.kt_called_dict (F.kt_typeCall_dict_1 _) F.entry_dict_init (kt_code_dict_new _ ⟨rfl,rfl⟩) ?_;rintro obj h ⟨rfl,rfl⟩;have g:(s.heap.push {cls:=.type "dict",data:=.dict #[]}).DictOf (intKind prog w) s.heap.objs.size []:=Heap.DictOf.new s.heap;have f:(s.heap.push {cls:=.type "dict",data:=.dict #[]}).get? t=Y {cls:=.type "list",data:=.seq items P}:=Heap.get?_push_of_some _ Z;have m:t<s.heap.objs.size:=Heap.lt_size Z;refine⟨g.typeIs,F.args_dict_init_2 _ _,?_⟩;unfold ML.«dict.__init__»;refine K4 ?_;unfold Builtin.Dict.selfAndRest;refine K4<|wpAny_notOrdered_dict g.typeIs ?_;show QX _ _ (pure (s.heap.objs.size,[Value.ref t])) _ _ _;refine Lc ?_;show QX _ _ (Builtin.Dict.updateFrom "dict.__init__" s.heap.objs.size (.ref t) [] .none) _ _ _;unfold Builtin.Dict.updateFrom;have hT:Shared.TypeIs {s with heap:=s.heap.push {cls:=.type "dict",data:=.dict #[]}} (.ref t) "list":=⟨_,f,rfl⟩;refine K4<|NV hT ?_;rw[QY<|by decide];refine K4<|rF f (by exact hh) λi t1 y=>?_;have H:i.IsList t items:=⟨_,y _ _ f,rfl,_,rfl⟩;rw[QY<|by rfl];refine K4<|Nw ?_;refine K4 ?_
 wp_walk using Nf H
 have kk:∀b o,s.heap.get? b=Y o->i.get? b=Y o:=λb o e=>y b o<|Heap.get?_push_of_some _ e;have l:i.get? s.heap.objs.size=Y {cls:=.type "dict",data:=.dict #[]}:=y _ _<|Heap.get?_push_size _ rfl;have a:s.heap.objs.size<i.objs.size:=Heap.lt_size l;refine⟨(by first|rfl|kernel_rfl|(unfold Code.quiet;kernel_rfl)|simp[Code.quiet]),?_⟩;have c:∀z∈zs,z.2.1<s.heap.objs.size:=λz j=>by obtain⟨o,_,_,e,_⟩:=N z j;exact Heap.lt_size e
 have pk:∀b o,s.heap.get? b=Y o->(i.push {cls:=.type "list_iterator",data:=.fields #[.ref t,.int 0 0]}).get? b=Y o:=λb o e=>Heap.get?_push_of_some _<|kk b o e;refine i9 (A:=A.in1) (hh:=hh) (hu:=by show A.units+1+1<Rk;lia) (I:=i.objs.size) (d:=s.heap.objs.size) (t:=t) (Lp a) (MQ m) (Lp<|NL m a) (items:=items) (zs:=zs) u D (λz j=>⟨Lp<|NL (c z j) a,Lp<|c z j⟩) (λv M=>?_) zs.length 0 _ _ (NK _) rfl ⟨_,Heap.get?_push_size _ rfl,rfl,rfl⟩ ⟨_,Heap.get?_push_of_some _<|y _ _ f,rfl,_,rfl⟩ (ps.keep λv M z x=>?_) (λz j=>gC (N z j) λo e=>pk _ o e) ?_ λk G keep dd=>?_
 .obtain ⟨z,p,o,n,rfl,e,_⟩:=ps.mem v M;have hp:=Heap.lt_size e;exact⟨λz=>QW (Value.ref.inj z)<|Lp<|NL hp a,λz=>QW (Value.ref.inj z)<|Lp hp⟩
 .obtain ⟨p,o,n,rfl,e,r⟩:=x;exact⟨p,o,n,rfl,pk p o e,r⟩
 .rw [Mw];exact⟨_,#[],0,Heap.get?_push_of_some _ l,⟨rfl,rfl,rfl⟩,rfl,rfl,(λx hx=>nomatch hx),N9⟩
 .refine ⟨rfl,q k G (fun b o e=>?_) dd⟩;have u:=Heap.lt_size e;exact keep b o (Lp u) (Lp<|NL u a)<|pk b o e
end
end L3

namespace L3
open PySem PySem.Spec PyProof.Rows L2
theorem ig {P:QZ}{w:K6}:∀{a:U I} {b:U L},Vals (a.map V.int) b->ItemsAre (intKind P w) a b
|[],_,r=>by rw[Ma] at r;cases r;exact .nil
| k::a,_,r=>by
 rw[Ln] at r;cases r with
 |cons h t=>refine .cons ?_<|ig t;obtain⟨u,rfl⟩:=(show∃u,_=Value.int k u from h);show(Value.int k u).isInt k=K1;simp[Value.isInt]
section
variable {X:Cx}{pins:U (QS×Obj)}{σ:L2.St}{H:Hp}{s:K2}
theorem n8 {b:QS}{k:U I}(a:Inv X pins σ H s)(q:SqT X.K H b<|k.map V.int):(tK X.prog X.w).is s.heap k b:=by obtain⟨c,r,g,_⟩:=a.tuple q;obtain⟨o,d,e,n,f⟩:=g;exact⟨o,c.toArray,n,d,e,f,by simpa using ig r⟩
theorem oX (a:Inv X pins σ H s):∀{i:U<|U I} {j:U V} {d:U KZ},KeyR X.K H i j->d.map (·.1)=i->d.map (λz=>V.ref z.2.1)=j->∀z∈d,(tK X.prog X.w).is s.heap z.1 z.2.1
|[],_,[],_,_,_,z,c=>nomatch c
|[],_,_::_,_,e,_,_,_=>by cases e
|_::_,_,[],_,e,_,_,_=>by cases e
|k::i,j,y::d,⟨b,r,l,q,h⟩,e1,e2,z,c=>by
 rw[Ln] at e1 e2;injection e1 with e1 f
 rw[l] at e2;injection e2 with e2 g
 injection e2 with e2
 rcases Lm.mp c with rfl|c
 .rw[e1,e2];exact n8 a q
 .exact oX a h f g z c
theorem uZ {a:QS}{c:U<|U I}{g f:U V}(b:Inv X pins σ H s)(e:H a=Y (DTO a c g f))(n:c.Nodup)(m:KeyR X.K H c g):∃d:U KZ,d.map (·.1)=c/\Vals f (d.map (·.2.2))/\s.heap.DictOfH (tK X.prog X.w) a d:=by obtain⟨⟨_,d,e1,e2,e3,o,h,ep,i,j,k,l⟩,_,_⟩:=(show ObjOk X.prog X.w H s.heap a (DTO a c g f) from b.hok a _ e);exact⟨d,e1,e3,o,h,ep,i,j,k,l,oX b m e1 e2,by rw[e1];exact n⟩
theorem vg:∀{a:U KZ} {i:O} {z:KZ},(a.map (·.1)).Nodup->a[i]?=Y z->Rn a z.1=Y z.2
|[],_,_,_,e=>by simp at e
|y::a,0,z,_,e=>by rw[NN] at e;cases e;unfold Rn;rw[Qy<|by simp];rfl
| y::a,i+1,z,f,e=>by
 rw[L6] at e;obtain⟨c,d⟩:=Mg.mp f;have b:=vg d e;unfold Rn at b ⊢;rw[Po ?_]
 .exact b
 .simp only [Q3];exactλq=>c<|LR.mpr ⟨z,ME e,q.symm⟩
theorem DS {A:Lj}{E:L->K2->Prop}{a b:QS}{g:U<|U I}{p o:U V}{k:U I}{i:O}{v:V}{Q:L->K2->Prop}(x:A.units+1<Rk)(c:Inv X pins σ H s)(e:H a=Y (DTO a g p o))(l:g.Nodup)(D:KeyR X.K H g p)(q:SqT X.K H b<|k.map V.int)(hk:g[i]?=Y k)(y:o[i]?=Y v)(h:∀n m,Inv X pins σ H m->RelV v n->Q n m):QX (K5 X.prog X.w) A (Mt (.ref a)<|.ref b) Q E s:=by
 obtain⟨r,e1,e3,t⟩:=uZ c e l D;obtain⟨u,d,F⟩:=e3.get y;rw[LQ] at d;cases f:r[i]? with
 |none=>rw[f] at d;cases d
 | some z =>
  rw[f] at d;cases d
  have j:z.1=k:=by
   have:(r.map (·.1))[i]?=Y z.1:=by rw[LQ,f];rfl
   rw[e1,hk] at this;cases this;rfl
  subst j;exact wpAny_getItem_heap (knd:=tK X.prog X.w) (NU x) (n8 c q) t (vg (by rw[e1];exact l) f)<|h _ _ (c.tok _) F
def PrR (K:K3)(H:Hp):U (U I)->U V->U V->U V->Prop
|[],ps,f,e=>ps=[]/\f=[]/\e=[]
|k::g,ps,f,e=>∃p b x a d c,ps=.ref p::a/\f=.ref b::d/\e=x::c/\SqT K H p [.ref b,x]/\SqT K H b (k.map V.int)/\PrR K H g a d c
theorem BE (a:Inv X pins σ H s):∀{f:U<|U I} {ps i g:U V} {c:U L},PrR X.K H f ps i g->Vals ps c->∃d:U KZ,Prs s.heap c d/\d.map (·.1)=f/\d.map (λz=>V.ref z.2.1)=i/\Vals g (d.map (·.2.2))/\∀z∈d,(tK X.prog X.w).is s.heap z.1 z.2.1
|[],_,_,_,c,⟨rfl,rfl,rfl⟩,r=>by cases r;exact⟨[],.nil,rfl,rfl,.nil,λz e=>nomatch e⟩
| k::f,_,_,_,c,⟨p,b,x,D,ys',xs',rfl,rfl,rfl,F,G,h⟩,r=>by
 cases r with
 | cons Q Z =>
  obtain⟨d,t,u,v,y,A⟩:=BE a h Z;obtain⟨us,r2,tp,_⟩:=a.tuple F;cases(show _=Value.ref p from Q);cases r2 with
  | cons P M =>
   cases M with
   |cons rx N=>
    cases N;rename_i ub ux;cases(show ub=Value.ref b from P);obtain⟨o,j,l,n,m⟩:=tp;refine⟨(k,b,ux)::d,.cons ⟨p,o,n,rfl,j,l,by simpa using m⟩ t,by rw[Ln,u],by rw[Ln,v],.cons rx y,λz e=>?_⟩;rcases Lm.mp e with rfl|e
    .exact n8 a G
    .exact A z e
theorem qR (Z:X.calm=K1)(hu:X.A.units+5<Rk):dR X (.type "dict") (λl H Q=>∃(a:QS) (c:U<|U I) (ps f d:U V),l=[.ref a]/\H a=Y (.lst ps)/\c.Nodup/\c.length<=sizeLine/\PrR X.K H c ps f d/\∀p,H p=J->Q (.ref p) (upd H p<|DTO p c f d)):=by
 intro pins s σ H l us Q b r h;obtain⟨a,c,ps,f,d,rfl,e,nd,k,pr,q⟩:=h;obtain⟨u,rfl,ru⟩:=gJ r;cases ru;obtain⟨_,its,n,rv,g⟩:=(show ObjOk X.prog X.w H s.heap a (.lst ps) from b.hok a _ e);obtain⟨m,G,i,M,N,P⟩:=BE b pr rv;have j:m.length<=sizeLine:=by rw[<- i,K9] at k;exact k
 refine nX (b.ok.hd Z) hu g j (by rw[i];exact nd) (by simpa using G) P λF tk keep z=>?_;obtain⟨o,D,ep,t,v,x,y,_,_⟩:=z;have ok:DTk s.heap.objs.size c f d F:=⟨beq_eq_false_iff_ne.mpr<|LF<|Lp b.big,m,i,M,N,o,D,ep,t,v,x,y⟩;exact⟨.ref s.heap.objs.size,_,b.laid (a:=s.heap.objs.size) (o:=DTO s.heap.objs.size c f d) (t':=tk) keep (La _) ok.ok,rfl,q _<|b.hok.fresh<|La _⟩
def EX (K:K3)(h ty:TE):TE:=λσ H Q=>h σ H λx g=>ty σ g λy c=>∃(a b:QS) (d:U<|U I) (f e:U V) (k:U I) (i:O) (v:V),x=.ref a/\y=.ref b/\c a=Y (DTO a d f e)/\d.Nodup/\KeyR K c d f/\SqT K c b (NB V.int k)/\d[i]?=Y k/\e[i]?=Y v/\Q v c
theorem vV {o i:Q1}{n ty:TE}{d:Pos}(N:X.A.units+1<Rk)(ho:PE X o n)(G:PE X i ty)(M:sH i):PE X (.Subscript o i d) (EX X.K n ty):=by intro pins s σ H Q c h;refine pV Pl.lookup M<|thn (ho pins s σ H _ c h) λu s1 ⟨x,p,t,rx,Z⟩=>thn (G pins s1 σ p _ t Z) λiv s2 ⟨y,r,g,ry,a,b,ks,ys,xs,k,j,v,D,F,e,m,l,sq,hk,P,q2⟩=>?_;subst D F;obtain rfl:u=Value.ref a:=rx;obtain rfl:iv=Value.ref b:=ry;obtain⟨zs,_,_,z⟩:=uZ g e m l;exact⟨z.typeIs,DS N g e m l sq hk P λw' s3 w f=>⟨v,r,w,f,q2⟩⟩
end
end L3
namespace MR
open PySem PySem.Spec PyProof.Rows L2 L3
section
variable {X:Cx}{sf sg:O->B O}{C:M.Call}{pos p p2 p3:Pos}{ea eb ec:Q1}{a b c:M.E}{h:QT}{n:O}{io:U O}{K:K3}
theorem ic:∀{d:U M.T} {k:U I},M.intsOf d=Y k->d=k.map M.T.int
|[],_,e=>by cases e;rfl
|.int i::d,k,e=>by
 have f:(M.intsOf d).map (i::·)=Y k:=e;cases e1:M.intsOf d with
 |none=>rw[e1] at f;cases f
 |some r=>rw[e1] at f;cases f;rw[ic e1];rfl
|.non::_,_,e=>by cases e
|.bl _::_,_,e=>by cases e
|.str _::_,_,e=>by cases e
|.tup _::_,_,e=>by cases e
|.lst _::_,_,e=>by cases e
|.dct _ _::_,_,e=>by cases e
|.ins _ _ _::_,_,e=>by cases e
|.dtt _ _::_,_,e=>by cases e
|.scr _::_,_,e=>by cases e
|.gone::_,_,e=>by cases e
theorem lh {Z:Fp}{H:Hp}{m:M.Md}:∀{k:U I} {d:U V} {G:Fp},RepL K Z H m (k.map M.T.int) d G->d=k.map V.int
|[],_,_,r=>r
|i::k,d,G,⟨x,r,f,g,e,_,_,_,p,q⟩=>by rw[e,show x=V.int i from p,lh q];rfl
theorem sZ {q:U I}{t:M.T}:∀{f:U<|U I} {g:U M.T},M.lookT q f g=Y t->∃i:O,f[i]?=Y q/\g[i]?=Y t
|[],_,e=>by cases e
|_::_,[],e=>by cases e
| y::f,v::g,e=>by
 have d:(if y=q then Y v else M.lookT q f g)=Y t:=e;by_cases h:y=q
 .rw[QY h] at d;cases d;exact⟨0,by rw[h];rfl,rfl⟩
 .rw [Q0 h] at d;obtain⟨i,j,k⟩:=sZ d;exact⟨i+1,j,k⟩
theorem og {Z:Fp}{H:Hp}{m:M.Md}{k:U I}{y:V}{G:Fp}(r:Rep K Z H m (.tup<|k.map M.T.int) y G):∃b,y=.ref b/\SqT K H b (k.map V.int):=by obtain⟨b,d,e,q,_,r⟩:=r;rw[lh r] at q;exact⟨b,e,q⟩
theorem uD:Loc K 2 .ixDT h λg H Q=>∀x y,g=[x,y]->∃(a b:QS) (f:U<|U I) (u g:U V) (k:U I) (i:O) (v:V),x=.ref a/\y=.ref b/\H a=Y (DTO a f u g)/\f.Nodup/\KeyR K H f u/\SqT K H b (NB V.int k)/\f[i]?=Y k/\g[i]?=Y v/\Q v H:=by
 intro ws w g Z H G Q hn e r ow za k x y hx;subst hx;obtain⟨⟨m,a⟩,⟨n,b⟩,rfl⟩:=cW r.length.symm;obtain⟨G1,G2,w1,w2,d,r1,r2⟩:=bA r;obtain⟨f,j,rfl⟩:∃f j,a=.dtt f j:=by cases a<;>first|exact⟨_,_,rfl⟩|(cases e;done)
 obtain⟨o,rfl⟩:∃o,b=.tup o:=by cases b<;>first|exact⟨_,rfl⟩|(cases e;done)
 have l:((M.intsOf o).bind λk=>(M.lookT k f j).map λt=>((.s,t):M.W))=Y w:=e;cases e1:M.intsOf o with
 |none=>rw[e1] at l;cases l
 | some q =>
  rw[e1] at l;have e2:((M.lookT q f j).map λt=>((.s,t):M.W))=Y w:=l;cases e3:M.lookT q f j with
  |none=>rw[e3] at e2;cases e2
  |some t=>rw[e3] at e2;cases e2;obtain⟨_,ad,u,g,D,za1,hd,nd,hl,P,kr,pr⟩:=r1;have F:=ic e1;subst F;obtain⟨bd,hy,sq⟩:=og r2;obtain⟨i,z,A⟩:=sZ e3;obtain⟨v,N,rv⟩:=pr.get A;exact⟨ad,bd,f,u,g,q,i,v,D,hy,hd,nd,kr,sq,z,N,cH ow k rv.sany⟩
theorem FT (f:Room n X.A)(d:SE X sf C ea a)(e:SE X sf C eb b)(g:sH eb:=by intro _ _;rfl):SE X sf C (.Subscript ea eb pos) (.op .ixDT h [a,b]):=av (vV (jw f) d e g)<|aK uD
theorem oi {Z:Fp}{H:Hp}:∀{d:U M.T} {ps:U V} {G:Fp} {ks:U<|U I} {vs:U M.T},M.dtPs d=Y (ks,vs)->RepL K Z H .s d ps G->∃i g,PrR K H ks ps i g/\KeyR K H ks i/\vs.length=ks.length/\RepL K Z H .s vs g (λ_=>Q6)
|[],_,_,_,_,e,r=>by cases e;exact⟨[],[],⟨r,rfl,rfl⟩,rfl,rfl,rfl⟩
| t::d,ps,G,ks,vs,e,⟨y,r,G1,G2,u,_,_,_,p,q⟩=>by
 obtain⟨f,v,rfl⟩:∃f v,t=.tup [.tup f,v]:=by
  match t,e with
  |.tup [.tup f,v],_=>exact⟨f,v,rfl⟩
 have j:((M.intsOf f).bind λk=>(M.dtPs d).map λp=>(k::p.1,v::p.2))=Y (ks,vs):=e;cases e1:M.intsOf f with
 |none=>rw[e1] at j;cases j
 | some k =>
  rw[e1] at j;cases e2:M.dtPs d with
  |none=>have e3:((M.dtPs d).map λp=>(k::p.1,v::p.2))=Y (ks,vs):=j;rw[e2] at e3;cases e3
  |some pr=>have e3:((M.dtPs d).map λp=>(k::p.1,v::p.2))=Y (ks,vs):=j;rw[e2] at e3;cases e3;obtain⟨i,g,A,D,F,N⟩:=oi (ks:=pr.1) (vs:=pr.2) e2 q;obtain⟨o,zs,w,sq,_,rz⟩:=p;obtain⟨z1,r1,A1,A2,x,_,_,_,p1,z2,r2,A3,A4,l,_,_,_,p2,q2⟩:=rz;have Q:=ic e1;subst Q;obtain⟨bd,P,m⟩:=og p1;cases(show r2=[] from q2);subst l x P;exact⟨.ref bd::i,z2::g,⟨o,bd,z2,r,i,g,by rw[u,show y=_ from w],rfl,rfl,sq,m,A⟩,⟨bd,i,rfl,m,D⟩,by rw[Lk,Lk,F],z2,g,no,no,rfl,λ_ z=>z.elim,λ_ z=>z.elim,λ_ z=>z.elim,p2.sany,N.sany⟩
theorem kW:∀{d:U M.T} {ks:U<|U I} {vs:U M.T},M.dtPs d=Y (ks,vs)->ks.length=d.length
|[],_,_,e=>by cases e;rfl
| t::d,ks,vs,e=>by
 obtain⟨f,v,rfl⟩:∃f v,t=.tup [.tup f,v]:=by
  match t,e with
  |.tup [.tup f,v],_=>exact⟨f,v,rfl⟩
 have g:((M.intsOf f).bind λk=>(M.dtPs d).map λp=>(k::p.1,v::p.2))=Y (ks,vs):=e;cases e1:M.intsOf f with
 |none=>rw[e1] at g;cases g
 | some k =>
  rw[e1] at g;have e3:((M.dtPs d).map λp=>(k::p.1,v::p.2))=Y (ks,vs):=g;cases e2:M.dtPs d with
  |none=>rw[e2] at e3;cases e3
  |some pr=>rw[e2] at e3;cases e3;rw[Lk,Lk,kW (ks:=pr.1) (vs:=pr.2) e2]
theorem uy:Loc K 1 .dtup h λf H Q=>∃(a:QS) (d:U<|U I) (ps g l:U V),f=[.ref a]/\H a=Y (.lst ps)/\d.Nodup/\d.length<=sizeLine/\PrR K H d ps g l/\∀p,H p=J->Q (.ref p) (upd H p<|DTO p d g l):=by
 intro ws w f Z H G Q hn e r ow za k
 match ws,hn with
 | [(m,a)],_ =>
  obtain⟨x,rfl,r1⟩:=bC rfl r;obtain⟨i,rfl,rfl⟩:∃i,a=.lst i/\m=.s:=by cases m<;>first|(cases e;done)|(cases a<;>first|exact⟨_,rfl,rfl⟩|(cases e;done))
  have j:((M.dtPs i).bind λp=>if decide p.1.Nodup&&decide (i.length<=M.LIM) then Y ((.s,.dtt p.1 p.2):M.W) else J)=Y w:=e;cases e1:M.dtPs i with
  |none=>rw[e1] at j;cases j
  | some pr =>
   obtain⟨d,l⟩:=pr;rw[e1] at j;have e2:(if decide d.Nodup&&decide (i.length<=M.LIM) then Y ((.s,.dtt d l):M.W) else J)=Y w:=j;split at e2
   .rename_i t;cases e2;rw[Li] at t;have A:=QU t.1;have y:d.length<=M.LIM:=by rw[kW e1];exact QU t.2
    obtain⟨ad,ps,hq,_,hd,rl⟩:=r1;obtain⟨g,f,F,N,P,h4⟩:=oi e1 rl;refine⟨ad,d,ps,g,f,by rw[show x=_ from hq],hd.2,A,Lf y<|by decide,F,λp hp=>?_⟩;have ne:∀{a u},H a=Y u->a≠p:=λ{a u} e q=>by subst q;rw[hp] at e;cases e
    have D:=fH (Z:=Z) (o:=DTO p d g f) hp
    have v:∀a,H a≠J->upd H p (DTO p d g f) a≠none:=λa h=>by
     by_cases e:a=p
     .rw[e,af];simp
     .rw[ag e];exact h
    refine k (.ref p) (λa=>Z a\/a=p) _ no ⟨(λz=>by cases z),p,g,f,rfl,.inr rfl,af,A,y,P,N.keep λb f q=>D.sqt q,(h4.keep D (λ_ z=>z) λ_ _ z=>z.elim).zmono λ_ z=>.inl z⟩ (λa z=>z.elim) ⟨λa u e _=>by rw[ag<|ne e];exact e,λa z=>.inl z,λa z=>z.elim .inl λe=>.inr<|.inr<|by rw[e];exact hp,λa z=>z.elim,v,λz a h=>h.elim (λh=>v a<|z a h) λe=>by rw[e,af];simp⟩
   .cases e2
theorem FN (i:Room n X.A)(f:X.calm=K1)(hm:X.mg "dict"=J)(g:Gl X "dict":=by rfl)(ha:SE X sf C ea a)(e:K7 [ea] X.env=(K0,Q9 ea X.env)::K7 [] X.env:=by rfl)(d:(Lu pos<|K7 [] X.env).any (·.1)=false:=by rfl):SE X sf C (.Call (.Name "dict" p) [ea] [] pos) (.op .dtup h [a]):=
 av (eC (qR f (by have:=i.un;lia)) g hm Qx (slc ha sl0 e) (by decide) (by decide) e d) (iI uy rfl)
end
end MR

namespace MR
open L2 L3 M
open PySem (Addr Str sizeLine)
section
variable {K:K3}{sf:O->B O}{C:Call}{Z:Fp}{H:Hp}
mutual
theorem Rep.nl:∀{m:Md} {t:T} {v:V} {G:Fp},M.noL t=K1->Rep K Z H m t v G->Rep K Z H .d t v no
|_,.non,_,_,_,h=>h
|_,.bl _,_,_,_,h=>h
|_,.int _,_,_,_,h=>h
|_,.str _,_,_,_,h=>h
|_,.tup ts,_,_,hn,⟨a,xs,e,q,l,r⟩=>⟨a,xs,e,q,l,RepL.nl (ts:=ts) hn r⟩
|_,.lst _,_,_,hn,_=>by cases hn
|_,.dct _ _,_,_,hn,_=>by cases hn
|_,.ins _ _ _,_,_,hn,_=>by cases hn
|_,.dtt _ _,_,_,hn,_=>by cases hn
|_,.scr _,_,_,hn,_=>by cases hn
|_,.gone,_,_,hn,_=>by cases hn
theorem RepL.nl:∀{m:Md} {ts:U T} {xs:U V} {G:Fp},M.noLs ts=K1->RepL K Z H m ts xs G->RepL K Z H .d ts xs no
|_,[],_,_,_,h=>h
|_,t::ts,xs,G,hn,⟨x,r,G1,G2,e,_,_,_,p,q⟩=>by have hn':(M.noL t&&M.noLs ts)=true:=hn;rw[Li] at hn';exact⟨x,r,no,no,e,λ_ z=>z,λ_ z=>z,λ_ z=>z.elim,Rep.nl hn'.1 p,RepL.nl hn'.2 q⟩
end
theorem Ij {e:E}{x:QT}(f:L2.St)(H:Hp)(Q:VK)(h:wE K sf C (.op .nl x [e]) f H Q):wE K sf C e f H Q:=by
 obtain⟨pv,Z,g,D,w,F,A,ev,k⟩:=h;obtain⟨ws,p,u⟩:=cD ev;obtain⟨⟨m,t⟩,N,P,n,o,rfl⟩:=az p;cases o;have c:(if M.noL t then Y ((.d,t):W) else J)=Y w:=u;split at c
 .rename_i y;cases c;refine⟨pv,Z,g,D,(m,t),_,A,n,λv l j i G b r s=>?_⟩;exact bE b s k v l j no (Rep.nl y r) (λa z=>z.elim) ⟨λ_ _ e _=>e,λ_ z=>z,λ_ z=>.inl z,λ_ z=>z.elim,λ_ z=>z,λz=>z⟩
 .cases c
end
end MR
namespace MR
open PySem PySem.Spec PyProof.Rows L2 L3
section
variable {X:Cx}{sf:O->B O}{C:M.Call}{ea:Q1}{a:M.E}{h:QT}
theorem sNl (b:SE X sf C ea a):SE X sf C ea (.op .nl h [a]):=av b Ij
end
end MR




namespace MR
open PySem PySem.Spec PyProof.Rows L2 L3
section
variable {K:K3}{Wx:L2.St->VK}{sf:O->B O}{C:M.Call}{pv:O->B V}{io:U O}{σ:L2.St}{Z:Fp}{H:Hp}{Fs:Fps}{η:M.Env}{G:Fp}
theorem At.over {i j:O}{x:V}(N:qp sf io pv)(n:i ∉ io)(f:sf i=Y j)(A:At K ⟨sf,pv⟩ σ Z H Fs η G):At K ⟨sf,pv⟩ (σ.set j<|Y x) Z H Fs (M.del η i) G:=by
 refine⟨A.gd,λl m t e=>?_,A.own,A.dis,λl u q g b=>?_,λl q b=>by rw[Mn];exact A.ln l q b⟩
 .have c:M.rd (M.wr η i J) l=Y (m,t):=e;rw[bB] at c;split at c
  .cases c
  .rename_i d;have a:l≠i:=λz=>d ⟨z,by rw[<- z];exact dH c⟩;obtain⟨v,r,h,k⟩:=A.env l m t c;refine⟨v,r,λq b=>?_,k⟩;have:q≠j:=λz=>a<|N.inj l i j (by rw[<- z];exact b) f;rw[MF<|LF this];exact h q b
 .have a:l≠i:=fun z=>by have:=N.io i n;rw[<- z,show pv l=Y u from g] at this;cases this
  have:q≠j:=λz=>a<|N.inj l i j (by rw[<- z];exact b) f;show(σ.set j<|Y x)[q]?=_;rw[MF<|LF this];exact A.lk l u q g b
end
end MR


namespace MR
open PySem PySem.Spec PyProof.Rows L2 L3
section
variable {K:K3}{Z:Fp}{H:Hp}
theorem RepL.parts:∀{l:U M.T} {f:U V} {G:Fp},RepL K Z H .d l f G->∃c:O->Fp,(∀i t x,l[i]?=Y t->f[i]?=Y x->Rep K Z H .d t x (c i))/\(∀i b,c i b->G b)/\(∀i j b,c i b->c j b->i=j)
|[],f,G,_=>⟨λ_=>no,λi t x e=>by simp at e,λ_ _ h=>h.elim,λ_ _ _ h=>h.elim⟩
| t::l,f,G,⟨x,r,A,a,e,o,s,hd,p,q⟩=>by
 obtain⟨c,m,g,n⟩:=RepL.parts q;subst e;refine⟨λi=>match i with | 0=>A|i+1=>c i,λi u v e1 e2=>?_,λi b h=>?_,λi j b h k=>?_⟩
 .cases i with
  |zero=>cases e1;cases e2;exact p
  |succ i=>exact m i u v e1 e2
 .cases i with
  |zero=>exact o b h
  |succ i=>exact s b<|g i b h
 .cases i with
  |zero=>cases j with
   |zero=>rfl
   |succ j=>exact QW (g j b k)<|hd b h
  |succ i=>cases j with
   |zero=>exact QW (g i b h)<|hd b k
   |succ j=>rw[n i j b h k]
end
def ExH (H a:Hp):Prop:=∀b u,H b=Y u->a b=Y u
def Ls (H:Hp)(G:Fp)(m:O)(as:U QS):Prop:=as.length<=m/\as.Nodup/\∀p∈as,G p/\∃a,H p=Y (.lst a)/\a.length<M.LIM
def qF (K:K3)(n:O):Sp:=λc H Q _=>∃v t Z G,c=[v]/\Rep K Z H .d t v G/\Own Z H G/\(∀a,Z a->H a≠J)/\M.dp t<n/\M.dp t<1000/\M.szS t=K1/\M.nl t<M.LIM /\
 ∀b a as,ExH H b->H a=J->b a=Y (.lst<|as.map V.ref)->Ls H G (M.nl t) as->Q (.ref a) b
theorem cS:∀a b:U M.T,M.nls (a++b)=M.nls a+M.nls b
|[],b=>by show M.nls b=0+M.nls b;lia
|t::a,b=>by show M.nl t+M.nls (a++b)=M.nl t+M.nls a+M.nls b;rw[cS a b];lia
theorem wc {a:U M.T}{i:O}(h:i<a.length):M.nls (a.take<|i+1)=M.nls (a.take i)+M.nl a[i]:=by rw[O7,MG h,cS];show _+(M.nl a[i]+0)=_;lia
theorem EI (a:U M.T)(i:O):M.nls (a.take i)<=M.nls a:=by have:=cS (a.take i)<|a.drop i;rw[O6] at this;lia
theorem wd:∀{ts:U M.T} {i:O} {t:M.T},M.szSs ts=K1->ts[i]?=Y t->M.szS t=K1
|_::ts,0,_,h,e=>by cases e;exact(LB.mp h).1
|_::ts,i+1,t,h,e=>wd (ts:=ts) (LB.mp h).2 e
|[],_,_,_,e=>by simp at e
theorem ui:∀{ts:U M.T} {i:O} {t:M.T},ts[i]?=Y t->M.dp t<=M.dps ts
|_::ts,0,_,e=>by cases e;exact Nat.le_max_left _ _
|_::ts,i+1,t,e=>Lf (ui (ts:=ts) e)<|Nat.le_max_right _ _
|[],_,_,e=>by simp at e
theorem ExH.stay {Z:Fp}{H b:Hp}(x:ExH H b):Stay Z H b:=⟨λa o _ h=>x a o h,λa c h=>h.imp (x a _) λ⟨u,h⟩=>⟨u,x a _ h⟩,λa o u h=>x a _ h⟩
theorem ExH.back {H a:Hp}(x:ExH H a){p:QS}(h:a p=J):H p=none:=by
 cases e:H p with
 |none=>rfl
 |some u=>rw[x p u e] at h;cases h
theorem ExH.upd {H a:Hp}(x:ExH H a){p:QS}{o:HO}(h:a p=J):ExH H (upd a p o):=λb u e=>by have:=x b u e;rw[ag (λz=>by rw[z,h] at this;cases this)];exact this
theorem pw {K:K3}{g:U M.T}{xs:U V}{Z G B:Fp}{H F:Hp}{m:O->Fp}{n c i:O}{x:V}{r:QS}{as:U QS}(ow:Own Z H G)(za:∀a,Z a->H a≠J)(hd:M.dps g<n)(hd2:M.dps g<1000)(hz:M.szSs g=K1)(hn:c+M.nls g<M.LIM)
  (g1:∀i t x,g[i]?=Y t->xs[i]?=Y x->Rep K Z H .d t x (m i)) (g2:∀i b,m i b->G b) (g3:∀i j b,m i b->m j b->i=j) (hB:∀j b,B b->¬m j b) (hl:xs.length=g.length) (hx:xs[i]?=Y x)
  (s:ExH H F) (hr:H r=J) (h3:F r=Y (.lst<|as.map V.ref)) (f:Ls H (λb=>B b\/∃j,j<i/\m j b) (c+M.nls (g.take i)) as):
  qF K n [x] F (λy H4=>DX (.ref r) y H4 λz H5=>∃r' k,z=.ref r'/\ExH H H5/\H r'=J/\H5 r'=Y (.lst<|k.map V.ref)/\Ls H (λb=>B b\/∃j,j<i+1/\m j b) (c+M.nls (g.take<|i+1)) k) E0:=by
 have hi:i<g.length:=by rw[<- hl];exact(L8.mp hx).1
 have N:g[i]?=Y g[i]:=MG hi;have t1:=wc hi;have t2:=EI g<|i+1;have d1:=ui N;refine⟨x,g[i],Z,m i,rfl,(g1 i _ x N hx).keep s.stay (λ_ z=>z) λa o _ h=>s a o h,λa h=>?_,λa z e=>za a z<|s.back e,by lia,by lia,wd hz N,by lia,λH4 a' k v ha' h4 w=>?_⟩
 .obtain ⟨n1,ys,e⟩:=ow a<|g2 i a h;exact⟨n1,ys,s a _ e⟩
 refine⟨r,a',as.map V.ref,k.map V.ref,rfl,rfl,v r _ h3,h4,?_,λp hp=>⟨p,as++k,rfl,?_,?_,?_,?_,?_,?_⟩⟩
 .rw [K9,K9];exact LIM_le (by have:=f.1;have:=w.1;lia)
 .exact ExH.upd (λb u e=>v b u<|s b u e) hp
 .exact s.back (v.back hp)
 .rw[af,L9]
 .rw[K8];have:=f.1;have:=w.1;lia
 .refine OV.mpr ⟨f.2.1,w.2.1,fun b hb b' P e=>?_⟩;subst e;obtain⟨l,_⟩:=f.2.2 b hb;obtain⟨D,_⟩:=w.2.2 b P;rcases l with l|⟨j,hj,l⟩
  .exact hB i b l D
  .have:=g3 j i b l D;lia
 .intro A Q;rcases LL.mp Q with h|h
  .obtain ⟨l,D⟩:=f.2.2 A h;exact⟨l.imp id λ⟨j,hj,y⟩=>⟨j,by lia,y⟩,D⟩
  .obtain ⟨l,ys,e,hy⟩:=w.2.2 A h;refine⟨.inr ⟨i,by lia,l⟩,ys,?_,hy⟩;obtain⟨_,zs,e2⟩:=ow A<|g2 i A l;rw[s A _ e2] at e;rw[e2];exact e
theorem fP {K:K3}{a:QS}{b:U V}{k:TE}{c:L2.St}{H:Hp}{Q:VK}(g:SqL K H a b)(f:V->V)(n:b.length<=sizeLine)(r:∀x∈b,∀j:VK,j (f x) H->k (Y x::c) H j)
  (o:∀p,H p=J->Q (.ref p) (upd H p<|.lst<|b.map f)):oS 1 (Itl K a) (gT K 1) k c H Q:=by
 refine⟨λi m l h=>h=H/\m=b.length-i/\i<=b.length/\l=(b.take i).map f,⟨_,rfl,rfl,LH _,rfl⟩,?_⟩;rintro i m l h ⟨rfl,rfl,t,rfl⟩;by_cases d:i<b.length
 .refine .inr ⟨⟨b,b[i],g,by simp [d]⟩,by rw [K9,NJ]; lia,fun x s y=>?_⟩;obtain⟨rfl,y⟩:=y;have hx:=y b g;refine⟨⟨by show(c.length+1)=1+c.length;lia,rfl⟩,r x (ME hx) _ ⟨b.length-(i+1),by lia,rfl,rfl,d,?_⟩⟩;rw[O7,hx,L9];rfl
 .have e:i=b.length:=by lia
  subst e;refine .inl ⟨⟨b,g,La _⟩,by rw[N5,K9];exact n,λp hp=>?_⟩;rw[N5];exact o p hp
noncomputable def lnH (H:Hp)(p:QS):O:=match H p with
|some (.lst a)=>a.length
|_=>0
noncomputable def apd (H:Hp)(l:U QS):Hp:=λb=>if b∈l then(match H b with
|some (.lst a)=>Y<|.lst<|a++[.int 0]
|o=>o) else H b
theorem zj (H:Hp):apd H []=H:=funext λb=>Q0 LY
theorem bI {H:Hp}{l:U QS}{b:QS}(h:b ∉ l):apd H l b=H b:=Q0 h
theorem se {H:Hp}{l:U QS}{b:QS}{a:U V}(h:b∈l)(e:H b=Y (.lst a)):apd H l b=Y (.lst<|a++[.int 0]):=by unfold apd;rw[QY h,e]
theorem xu {H:Hp}{l:U QS}{b:QS}(e:H b≠J):apd H l b≠none:=by
 by_cases h:b∈l
 .unfold apd;rw[QY h];cases e1:H b with
  |none=>exact QW e1 e
  |some o=>cases o<;>simp
 .rw[bI h];exact e
theorem xA {H:Hp}{l:U QS}{p:QS}{c:U V}(hp:p ∉ l)(e:H p=Y (.lst c)):upd (apd H l) p (.lst<|c++[.int 0])=apd H (l++[p]):=by
 funext b;by_cases h:b=p
 .subst h;rw[af,se (by simp) e]
 .rw [ag h];by_cases a:b∈l
  .unfold apd;rw[QY a,QY<|Mv _ a]
  .rw[bI a,bI<|by simp[a,h]]
theorem lO {K:K3}{Z:Fp}{H:Hp}{G:Fp}:∀a:U I,RepL K Z H .d (a.map M.T.int) (a.map V.int) G
|[]=>rfl
|i::a=>⟨.int i,a.map V.int,no,no,rfl,λ_ h=>h.elim,λ_ h=>h.elim,λ_ h=>h.elim,rfl,lO a⟩
theorem lJ {K:K3}{H:Hp}{p:QS}{is:U I}(a:is.length<=M.LIM)(e:H p=Y (.lst<|is.map V.int)):Has K H (th<|.lst<|is.map M.T.int) (.ref p)/\fX (th<|.lst<|is.map M.T.int):=by
 refine iH (Z:=λ_=>Q6) (m:=.d) (G:=λb=>b=p) ?_ ⟨p,is.map V.int,rfl,by rw[K9];exact a,⟨rfl,e⟩,lO is⟩
 have:∀is:U I,M.dps (is.map M.T.int)=0:=λis=>by
  induction is with
  |nil=>rfl
  |cons i is c=>show max 0 (M.dps<|is.map M.T.int)=0;rw[c];rfl
 show M.dps (is.map M.T.int)+1<=64;rw[this];decide
abbrev lx (K:K3)(i:O):TE:=tCB (λa H Q=>∃x n,a=[x]/\D8 K x H n/\Q (.int n) H)<|gc (bJ i) nQ
abbrev C1 (K:K3):R2:=λx y H Q=>∃t a,Has K H t x/\Has K H a y/\fX t/\fX a/\Q (.bl<|!PyData.eqv (toD t) (toD a)) H
theorem zi {K:K3}{n j m y j5:O}{tw tr:TS}{D:bP}{A:L2.St}{H:Hp}{v:V}{t:M.T}{Z G:Fp}
  (hj:A[j]?=Y (Y v)) (h3:m<A.length) (h4:y<A.length) (h5:j5<A.length) (n34:m≠y) (n35:m≠j5) (n45:y≠j5)
  (r:Rep K Z H .d t v G) (ow:Own Z H G) (za:∀a,Z a->H a≠J) (hd:M.dp t<n) (hd2:M.dp t<1000) (hz:M.szS t=K1) (hn:M.nl t<M.LIM)
  (k:∀g H' x3 x4,(g=(A.set m<|Y x3).set y (Y x4)\/∃x5,g=((A.set m<|Y x3).set y<|Y x4).set j5 (Y x5))->Step Z H G Z H' no->tr D g H'):
  nE (kz (Ba (qF K n) [] E0<|gc (bJ j) nQ)<|bO m) (nE (kz (b8 1 (dI K<|bJ m) [] (gT K 1)<|lx K 0)<|bO y) (nE (zg (dI K<|bJ m) (bO j5)<|pq<|tBM K "list" j7 (bJ j5)<|gc (tC<|.int 0) nQ)
   (nE (xp (kY<|tOp (C1 K) (b8 1 (dI K<|bJ m) [] (gT K 1)<|lx K 0)<|b8 1 (dI K<|bJ y) [] (gT K 1)<|AR (bJ 0)<|tC<|.int 1) tw lR) tr))) D A H:=by
 refine⟨v,hj,v,t,Z,G,rfl,r,ow,za,hd,hd2,hz,hn,λH1 a as ex ha h1 c=>?_⟩;have F:(as.map V.ref).length<=sizeLine:=by rw[K9];exact LIM_le (by have:=c.1;lia)
 have hs3:(A.set m (Y (V.ref a)))[m]?=Y (Y (.ref a)):=by rw[Nv h3]
 have P:∀p∈as,∃xs,H p=Y (.lst xs)/\xs.length<M.LIM/\xs.length=lnH H p:=λp hp=>by obtain⟨_,xs,e,l⟩:=c.2.2 p hp;exact⟨xs,e,l,by unfold lnH;rw[e]⟩
 have an:a ∉ as:=λz=>by obtain⟨xs,e,_⟩:=P a z;rw[ha] at e;cases e
 refine⟨.ref a,hs3,a,rfl,⟨_,SqL.of h1⟩,fP (SqL.of h1) (λ| .ref p=>.int (lnH H p)|x=>x) F (λx hx Q' q=>?_) λs N=>?_⟩
 .obtain ⟨p,hp,rfl⟩:=LR.mp hx;obtain⟨xs,e,_,l⟩:=P p hp;exact⟨.ref p,rfl,.ref p,xs.length,rfl,.inl ⟨xs,SqL.of<|ex p _ e,rfl⟩,by rw[l];exact q⟩
 have e4:(as.map V.ref).map (λ| .ref p=>V.int (lnH H p)|x=>x)=(as.map λp=>(lnH H p:I)).map V.int:=by rw[Me,Me];rfl
 rw[e4];have na4:a≠s:=λz=>by rw[<- z,h1] at N;cases N
 generalize hH2:upd H1 s (.lst<|(as.map λp=>(lnH H p:I)).map V.int)=H2;have x2:ExH H H2:=by rw[<- hH2];exact ExH.upd ex N
 have h2a:H2 a=Y (.lst (as.map V.ref)):=by rw[<- hH2,ag na4];exact h1
 have h24:H2 s=Y (.lst ((as.map λp=>(lnH H p:I)).map V.int)):=by rw[<- hH2,af]
 have n4:s ∉ as:=λz=>by obtain⟨xs,e,_⟩:=P s z;rw[ex s _ e] at N;cases N
 have look:∀{g:L2.St},(g=(A.set m (Y (V.ref a))).set y (Y (.ref s))\/∃x,g=((A.set m (Y (V.ref a))).set y (Y (.ref s))).set j5 (Y x))->g[m]?=Y (Y (.ref a))/\g[y]?=Y (Y (.ref s))/\j5<g.length:=λ{g} h=>by
  rcases h with rfl|⟨x,rfl⟩
  .exact⟨by rw[MF<|LF n34];exact hs3,by rw[Nv<|by rw[Mn];exact h4],by rw[Mn,Mn];exact h5⟩
  .exact⟨by rw[MF<|LF n35,MF<|LF n34];exact hs3,by rw[MF<|LF n45,Nv<|by rw[Mn];exact h4],by rw[Mn,Mn,Mn];exact h5⟩
 have go:∀g u,(g=(A.set m (Y (V.ref a))).set y (Y (.ref s))\/∃x,g=((A.set m (Y (V.ref a))).set y (Y (.ref s))).set j5 (Y x))->u=apd H2 as->nE (xp (kY (tOp (C1 K) (b8 1 (dI K (bJ m)) [] (gT K 1) (lx K 0)) (b8 1 (dI K (bJ y)) [] (gT K 1) (AR (bJ 0) (tC (.int 1)))))) tw lR) tr D g u:=λg u w e3=>by
  obtain⟨l3,l4,_⟩:=look w;have q3:u a=Y (.lst (as.map V.ref)):=by rw[e3,bI an];exact h2a
  have q4:u s=Y (.lst ((as.map λp=>(lnH H p:I)).map V.int)):=by rw[e3,bI n4];exact h24
  refine⟨.ref a,l3,a,rfl,⟨_,SqL.of q3⟩,fP (SqL.of q3) (λ| .ref p=>.int ((lnH H p:I)+1)|x=>x) F (λx hx Q' q=>?_) λQ hp6=>?_⟩
  .obtain ⟨p,hp,rfl⟩:=LR.mp hx;obtain⟨xs,e,_,l⟩:=P p hp;refine⟨.ref p,rfl,.ref p,(xs++[V.int 0]).length,rfl,.inl ⟨_,SqL.of<|by rw[e3];exact se hp<|x2 p _ e,rfl⟩,?_⟩;rw[K8,l];exact q
  have e6:(as.map V.ref).map (λ| .ref p=>V.int ((lnH H p:I)+1)|x=>x)=(as.map λp=>(lnH H p:I)+1).map V.int:=by rw[Me,Me];rfl
  rw[e6];have n46:s≠Q:=λz=>by rw[<- z,q4] at hp6;cases hp6
  have q46:upd u Q (.lst ((as.map λp=>(lnH H p:I)+1).map V.int)) s=Y (.lst ((as.map λp=>(lnH H p:I)).map V.int)):=by rw[ag n46];exact q4
  refine⟨.ref s,l4,s,rfl,⟨_,SqL.of q46⟩,fP (SqL.of q46) (λ| .int i=>.int (i+1)|x=>x) (by rw[K9,K9,<- K9 (f:=V.ref)];exact F) (λx hx Q' q=>?_) λp7 hp7=>?_⟩
  .obtain ⟨i,hi,rfl⟩:=LR.mp hx;exact⟨.int i,rfl,i,1,rfl,rfl,q⟩
  have e7:((as.map λp=>(lnH H p:I)).map V.int).map (λ| .int i=>V.int (i+1)|x=>x)=(as.map λp=>(lnH H p:I)+1).map V.int:=by rw[Me,Me,Me];rfl
  rw[e7];have n67:Q≠p7:=λz=>by rw[<- z,af] at hp7;cases hp7
  obtain⟨b1,b2⟩:=lJ (K:=K) (H:=upd (upd u Q<|.lst<|(as.map λp=>(lnH H p:I)+1).map V.int) p7<|.lst<|(as.map λp=>(lnH H p:I)+1).map V.int) (p:=Q) (is:=as.map λp=>(lnH H p:I)+1) (by rw[K9];have:=c.1;lia) (by rw[ag n67,af]);obtain⟨b3,b4⟩:=lJ (K:=K) (H:=upd (upd u Q<|.lst<|(as.map λp=>(lnH H p:I)+1).map V.int) p7<|.lst<|(as.map λp=>(lnH H p:I)+1).map V.int) (p:=p7) (is:=as.map λp=>(lnH H p:I)+1) (by rw[K9];have:=c.1;lia) af;refine⟨_,_,b1,b3,b2,b4,_,rfl,?_⟩;rw[wu b2];show tr D g _;refine k g _ _ _ w ?_
  have kp:∀b o,H b=Y o->b ∉ as->upd (upd u Q (.lst ((as.map λp=>(lnH H p:I)+1).map V.int))) p7 (.lst ((as.map λp=>(lnH H p:I)+1).map V.int)) b=Y o:=λb o e hb=>by
   have g3:u b=Y o:=by rw[e3,bI hb];exact x2 b o e
   have g6:b≠Q:=λz=>by rw[<- z,g3] at hp6;cases hp6
   have g6':upd u Q (.lst ((as.map λp=>(lnH H p:I)+1).map V.int)) b=Y o:=by rw[ag g6];exact g3
   have g7:b≠p7:=λz=>by rw[<- z,g6'] at hp7;cases hp7
   rw[ag g7];exact g6'
  have al:∀b,H b≠J->upd (upd u Q (.lst ((as.map λp=>(lnH H p:I)+1).map V.int))) p7 (.lst ((as.map λp=>(lnH H p:I)+1).map V.int)) b≠none:=λb e=>by
   by_cases g7:b=p7
   .rw[g7,af];simp
   rw[ag g7];by_cases g6:b=Q
   .rw[g6,af];simp
   rw[ag g6,e3];refine xu λz=>e ?_;exact x2.back z
  exact⟨λb o e hb=>kp b o e λz=>hb (c.2.2 b z).1,λ_ z=>z,λ_ z=>.inl z,λ_ z=>z.elim,al,λz b h=>al b<|z b h⟩
 have l0:=look<|.inl rfl;refine⟨.ref a,l0.1,a,rfl,⟨_,SqL.of h2a⟩,?_⟩;refine ll (K:=K) (a:=a) (xs:=as.map V.ref) (λi g u=>(g=(A.set m<|Y<|V.ref a).set y (Y<|.ref s)\/∃x,g=((A.set m<|Y<|V.ref a).set y<|Y<|.ref s).set j5 (Y x))/\u=apd H2 (as.take i)) ⟨.inl rfl,by rw[Mw,zj]⟩ (λi g u _ ⟨_,e⟩=>SqL.of<|by rw[e,bI λz=>an<|Qt z];exact h2a) ?_ ?_
 .rintro i x g u hx ⟨w,rfl⟩;obtain⟨p,hp,rfl⟩:=QA.mp (show(as[i]?).map V.ref=Y x by rw[<- LQ];exact hx);have hi:i<as.length:=(L8.mp hp).1;have hpm:p∈as:=ME hp;obtain⟨xs,e,hl,_⟩:=P p hpm;have np:p ∉ as.take i:=λz=>by have nd:=c.2.1;rw[<- O6 i as,OV] at nd;refine nd.2.2 p z p ?_ rfl;rw[Qr hi];rw[MG hi] at hp;rw[LG hp];exact Lg
  have hpp:apd H2 (as.take i) p=Y (.lst xs):=by rw[bI np];exact x2 p _ e
  obtain⟨_,_,l5⟩:=look w;refine⟨.ref p,by rw[Nv l5],.inl ⟨rfl,_,SqL.of hpp⟩,p,xs,.int 0,rfl,rfl,hpp,iU<|NY hl,?_⟩;refine⟨.inr ⟨.ref p,?_⟩,?_⟩
  .rcases w with rfl | ⟨x,rfl⟩
   .rfl
   .rw[List.set_set]
  .rw[xA np<|x2 p _ e,O7,hp];rfl
 .rintro g u ⟨w,rfl⟩;refine go g _ w ?_;rw[K9,N5]
theorem At.dl {K:K3}{f:Cf}{g:L2.St}{Z:Fp}{H:Hp}{d:Fps}{b:M.Env}{G:Fp}{c:O}(A:At K f g Z H d b G):At K f g Z H d (M.del b c) G:=by
 refine⟨A.gd,λl m t e=>?_,A.own,A.dis,A.lk,A.ln⟩;have a:M.rd (M.wr b c J) l=Y (m,t):=e;rw[bB] at a;split at a
 .cases a
 .exact A.env l m t a
def yM (P:QZ)(w:K6)(K:K3)(e:Str->B L)(a:Q5)(n:O)(C:M.Call)(x:Str)(g:O):Prop:=
 ∃b c ps f,dJ P w K e a CX0 n b c ps (qF K f)/\(∀t r,C g [(.d,t)]=.ok r->M.dp t<f/\M.dp t<1000/\M.szS t=K1/\M.nl t<M.LIM)/\e x=Y (.ref b)/\Nr K (.ref b)=K1/\Binds K c ps []
theorem yI {n:O}{t:M.T}{r:M.W×U M.W}(e:M.lsV n [(.d,t)]=.ok r):M.dp t<n+1/\M.dp t<1000/\M.szS t=K1/\M.nl t<M.LIM:=by
 have b:(if((M.lf .d t==.d)&&(decide (M.dp t<=n)&&decide (M.dp t<=64)&&(M.szS t&&decide (M.nl t<M.LIM))))=K1 then M.Res.ok (((.d,.gone):M.W),([]:U M.W)) else .no)=.ok r:=e;split at b
 .rename_i a;rw[Li,Li,Li,Li,Q3,Q3,Q3] at a;exact⟨by lia,by lia,a.2.2.1,a.2.2.2⟩
 .cases b
section
variable {X:Cx}{sf:O->B O}{C:M.Call}{pos pos1 p px:Pos}{io:U O}{ea:Q1}{x z:Str}{n g:O}{st2 st3 st4:Rf}{tw:TS}{r:U Rf}{ms:U M.S}
theorem Jx (j u j4 j5:O){i a b c:O}(hN:X.N.Nodup)(c0:yM X.prog X.w X.K X.mg X.base n C x g)(hr0:Room n X.A)(Q:PE X ea<|bJ j)
  (P:PS X st2<|kz (b8 1 (dI X.K<|bJ u) [] (gT X.K 1)<|lx X.K 0)<|bO j4)
  (h3:PS X st3<|zg (dI X.K<|bJ u) (bO j5)<|pq<|tBM X.K "list" j7 (bJ j5)<|gc (tC<|.int 0) nQ)
  (h4:PS X st4<|xp (kY<|tOp (C1 X.K) (b8 1 (dI X.K<|bJ u) [] (gT X.K 1)<|lx X.K 0)<|b8 1 (dI X.K<|bJ j4) [] (gT X.K 1)<|AR (bJ 0)<|tC<|.int 1) tw lR)
  (hr:SSs X sf io C r ms) (hs:sf i=Y j:=by rfl) (hs3:sf a=Y u:=by rfl) (hs4:sf b=Y j4:=by rfl) (hs5:sf c=Y j5:=by rfl) (hi3:a ∉ io:=by decide) (hi4:b ∉ io:=by decide) (hi5:c ∉ io:=by decide)
  (n34:u≠j4:=by decide) (n35:u≠j5:=by decide) (n45:j4≠j5:=by decide)
  (h1:X.N[u]?=Y z:=by rfl) (hx:L2.Loc X.env.scope z:=by first|exact Lh rfl|exact Ld rfl) (hg:Gl X x:=by rfl) (hdb:(x==("__debug__":Str))=false:=by decide)
  (he:K7 [ea] X.env=(K0,Q9 ea X.env)::K7 [] X.env:=by rfl) (hpl:(Lu pos<|K7 [] X.env).any (·.1)=false:=by rfl)
  (hsw:L7 (.Call (.Name x p) [ea] [] pos) (Y<|.Name z px) pos1.line X.env=pure false:=by rfl) (hf:X.fn z=K1\/X.env.scope.names.lookup z=Y .local:=by first|exact .inl rfl|exact .inr rfl):
  SSs X sf io C (.Assign [.Name z px] (.Call (.Name x p) [ea] [] pos) pos1::st2::st3::st4::r) (.lsQ g i a b c::ms):=by
 obtain⟨fa,fd,ps,n',F,hC,hm,hk,hb⟩:=c0;refine jX (bZ (kc (i:=u) hN h1 hx (kN (E:=E0) F hr0 hg hm hk hb .nil ua (aE Q a6 he) hdb he hpl) hsw hf)<|bZ P<|bZ h3<|bZ h4 hr) λD σ H h=>?_;obtain⟨pv,Z,G,y,N,A,f⟩:=h;have f:Fin X.K (xw X) ⟨sf,pv⟩ Z H (tot G) D (M.Fl.seq (M.kLs C g i a b c y (M.rd y i)) (M.evSs C ms)):=f;cases er:M.rd y i with
 |none=>rw[er] at f;exact f.elim
 | some wt =>
  obtain⟨m,t⟩:=wt;rw[er] at f;cases m with
  |s=>exact f.elim
  |o _=>exact f.elim
  | d =>
   have f:Fin X.K (xw X) ⟨sf,pv⟩ Z H (tot G) D (M.Fl.seq (M.kLs2 i a b c y (C g [(.d,t)])) (M.evSs C ms)):=f;cases ec:C g [(.d,t)] with
   |no=>rw[ec] at f;exact f.elim
   |ex _=>rw[ec] at f;exact f.elim
   | ok r0 =>
    rw[ec] at f;have f:Fin X.K (xw X) ⟨sf,pv⟩ Z H (tot G) D (M.evSs C ms (M.del (M.del (M.del (M.del y i) a) b) c)):=f;obtain⟨hd,hd2,hz,hn⟩:=hC t r0 ec;obtain⟨v,rv,l1,lv⟩:=A.env i _ _ er;have own_i:Own Z H (G i):=λa h=>A.gd.own a ⟨i,h⟩;refine zi (l1 j hs) (A.ln a u hs3) (A.ln b j4 hs4) (A.ln c j5 hs5) n34 n35 n45 rv own_i A.gd.zal hd hd2 hz hn λσ' H' x3 x4 hσ st=>?_
    have A3:At X.K ⟨sf,pv⟩ σ Z H (tZ G i) (M.del y i) (G i):=by
     refine⟨⟨λa ⟨l,h1,P⟩=>A.gd.own a ⟨l,P⟩,λl l' a h1 P=>A.gd.dis l l' a h1.2 P.2,A.gd.zal⟩,λl m' t' e=>?_,λa Q=>A.gd.own a ⟨i,Q⟩,λa Q ⟨l,h1,P⟩=>h1<|A.gd.dis l i a P Q,A.lk,A.ln⟩;have e:M.rd (M.wr y i J) l=Y (m',t'):=e;rw[bB] at e;split at e
     .cases e
     .rename_i hne;obtain⟨v'',r',hv''⟩:=A.env l m' t' e;have hli:l≠i:=λz=>hne ⟨z,dH er⟩;exact⟨v'',r'.mono λa Q=>⟨hli,Q⟩,hv''⟩
    obtain⟨k,s2⟩:=A3.op (λa h=>h.elim) st;have B4:=At.over (x:=x4) N hi4 hs4<|At.over (x:=x3) N hi3 hs3 k
    have B5:At X.K ⟨sf,pv⟩ σ' Z H' (tZ G i) (M.del (M.del (M.del (M.del y i) a) b) c) no:=by
     rcases hσ with rfl|⟨x5,rfl⟩
     .exact B4.dl
     .exact At.over (x:=x5) N hi5 hs5 B4
    exact⟨pv,Z,_,_,N,B5,f.step<|s2.mono (λa h=>h.elim (λ⟨l,_,z⟩=>⟨l,z⟩) λz=>⟨i,z⟩) λa h=>.inl h⟩
end
section
variable {X:Cx}{sf:O->B O}{C:M.Call}{pos:Pos}{ea eb:Q1}{a b:M.E}{h:QT}{K:K3}
theorem um:Loc K 2 .catD h λi H Q=>∀x y,i=[x,y]->sF K x y H Q:=by
 intro ws w i Z H G Q hn e r ow za k x y hx;subst hx;obtain⟨⟨m,a⟩,⟨n,b⟩,rfl⟩:=cW r.length.symm;obtain⟨D,F,w1,w2,d,r1,r2⟩:=bA r;have c:∀{p:Prop},(none:B M.W)=Y w->p:=λe=>by cases e
 obtain⟨f,g,rfl,rfl,rfl,rfl,s,rfl⟩:∃f g,m=.d/\n=.d/\a=.tup f/\b=.tup g/\M.fits (f.length+g.length)=K1/\w=(.d,.tup (f++g)):=by
  cases a with
  | tup f =>
   cases b with
   | tup g =>
    cases m with
    | d =>
     cases n with
     | d =>
      have l:(if M.fits (f.length+g.length)=K1 then Y ((.d,.tup (f++g)):M.W) else J)=Y w:=e;split at l
      .rename_i s;cases l;exact⟨_,_,rfl,rfl,rfl,rfl,s,rfl⟩
      .cases l
     |_=>exact c e
    |_=>cases n<;>exact c e
   |_=>cases m<;>cases n<;>exact c e
  |_=>cases m<;>cases n<;>exact c e
 obtain⟨a,i,rfl,P,hl,p⟩:=r1;obtain⟨b,A,rfl,t,N,j⟩:=r2;have p:RepL K Z H .d f i D:=p;have j:RepL K Z H .d g A F:=j;have u:=cM s;have e1:=p.length;have e2:=j.length;exact⟨a,b,i,A,rfl,rfl,P,t,LIM_le<|by lia,λv H' same hv=>fB (m:=.d) (G':=G) ow (λ_ z=>z) (by rw[K8];lia) (RepL.append w1 w2 d (p.zmono λb o=>.inl o)<|j.zmono λb o=>.inl o) k same hv⟩
theorem pF (c:SE X sf C ea a)(d:SE X sf C eb b):SE X sf C (.BinOp ea .Add eb pos) (.op .catD h [a,b]):=av (eM pN c d)<|aK um
end
end MR

namespace A48
open M
open PySem (Str)
noncomputable abbrev q:=Str.ofString
noncomputable def dX:U (Str×T):=[(q "if",.int 1),(q "each",.int 1),(q "times",.int 2)]
noncomputable def keys_AHEAD_trees:U Str:=[q "num",q "name",q "none",q "let",q "each",q "times"]
noncomputable def tab_BINDING:U (Str×T):=[(q "let",.int 1),(q "each",.int 1),(q "times",.int 2)]
noncomputable def keys_LEAVES:U Str:=[q "num",q "yes",q "no"]
noncomputable def tab_LEAVES:U (Str×T):=[(q "num",.tup [.str<|q "num"]),(q "yes",.tup [.str<|q "truth"]),(q "no",.tup [.str<|q "truth"])]
noncomputable def tab_RULES:U (Str×T):=[(q "not",.tup [.tup [.str<|q "truth",.str<|q "truth"]]),(q "first",.tup [.tup [.str<|q "pair K L",.str<|q "K"]]),(q "second",.tup [.tup [.str<|q "pair K L",.str<|q "L"]]),(q "one",.tup [.tup [.str<|q "K",.str<|q "row K"]]),(q "upto",.tup [.tup [.str<|q "num",.str<|q "row num"]]),(q "long",.tup [.tup [.str<|q "row K",.str<|q "num"]]),(q "sum",.tup [.tup [.str<|q "row num",.str<|q "num"]]),(q "sums",.tup [.tup [.str<|q "row num",.str<|q "row num"]]),(q "most",.tup [.tup [.str<|q "row num",.str<|q "num"]]),(q "flat",.tup [.tup [.str<|q "row row K",.str<|q "row K"]]),(q "add",.tup [.tup [.str<|q "num num",.str<|q "num"]]),(q "sub",.tup [.tup [.str<|q "num num",.str<|q "num"]]),(q "mul",.tup [.tup [.str<|q "num num",.str<|q "num"]]),(q "div",.tup [.tup [.str<|q "num num",.str<|q "num"]]),(q "rest",.tup [.tup [.str<|q "num num",.str<|q "num"]]),(q "less",.tup [.tup [.str<|q "num num",.str<|q "truth"]]),(q "same",.tup [.tup [.str<|q "num num",.str<|q "truth"],.tup [.str<|q "truth truth",.str<|q "truth"]]),(q "both",.tup [.tup [.str<|q "truth truth",.str<|q "truth"]]),(q "pair",.tup [.tup [.str<|q "K L",.str<|q "pair K L"]]),(q "pick",.tup [.tup [.str<|q "row K num",.str<|q "K"]]),(q "join",.tup [.tup [.str<|q "row K row K",.str<|q "row K"]]),(q "keep",.tup [.tup [.str<|q "row K row truth",.str<|q "row K"]]),(q "cut",.tup [.tup [.str<|q "row K row num",.str<|q "row row K"]]),(q "let",.tup [.tup [.str<|q "K L",.str<|q "L"]]),(q "if",.tup [.tup [.str<|q "truth K K",.str<|q "K"]]),(q "each",.tup [.tup [.str<|q "row K L",.str<|q "row L"]]),(q "times",.tup [.tup [.str<|q "num K K",.str<|q "K"]])]
noncomputable def keys_WITHIN:U Str:=[q "num",q "truth",q "pair",q "row"]
noncomputable def tab_WITHIN:U (Str×T):=[(q "num",.int 0),(q "truth",.int 0),(q "pair",.int 2),(q "row",.int 1)]
noncomputable def aX:Fn:={ps:=1,ns:=1,io:=[],body:=[
  .ret [0] (.op .join K0 [.cst<|.str<|q " ",.op .add K0 [.lst K0 [.op .ix K0 [.var 0,.cst<|.int 0]],.comp K0 .seq [.op .sl1 K0 [.var 0,.cst<|.int 1]] [1] J<|.call 364 [.var 1]]])]}
noncomputable def b5:Fn:={ps:=1,ns:=2,io:=[],body:=[
  .asg (.q [0] []) 1 (.op .split K0 [.var 0,.cst<|.str<|q " "]),
  .asg (.q [1] []) 2 (.call 366 [.var 1,.cst<|.int 0]),
  .ite (.q [1,2] []) (.op .lt K0 [.op .ix K0 [.var 2,.cst (.int 1)],.op .len K0 [.var 1]]) [
   .stop] [],
  .ret [] (.op .ix K0 [.mv 2,.cst<|.int 0])]}
noncomputable def b0:Fn:={ps:=2,ns:=0,io:=[],body:=[
  .ret [] (.call 367 [.mv 0,.mv 1,.cst<|.int 5])]}
noncomputable def ay:Fn:={ps:=3,ns:=5,io:=[],body:=[
  .ite (.q [0,1] []) (.or (.op .ge K0 [.var 1,.op .len K0 [.var 0]]) (.inT K1 keys_WITHIN (.op .ix K0 [.var 0,.var 1]))) [
   .stop] [],
  .asg (.q [0,1] []) 3 (.ixT tab_WITHIN<|.op .ix K0 [.var 0,.var 1]),
  .ite (.q [2] [3]) (.and (.op .gt K0 [.var 3,.cst (.int 0)]) (.op .eq K0 [.var 2,.cst (.int 1)])) [
   .stop] [],
  .asg (.q [0,1] []) 4 (.lst K0 [.op .ix K0 [.var 0,.var 1]]),
  .asg (.q [1] []) 5 (.op .add K0 [.var 1,.cst<|.int 1]),
  .forS [] [3] .rng [.var 3] [6] [
   .asg (.q [0,2] [5]) 7 (.call 367 [.var 0,.var 5,.op .sub K0 [.var 2,.cst<|.int 1]]),
   .app (.q [7] []) 4 (.op .ix K0 [.var 7,.cst<|.int 0]),
   .asg (.q [7] []) 5 (.op .ix K0 [.var 7,.cst<|.int 1])],
  .ret [] (.tup [.op .tuple K0 [.mv 4],.mv 5])]}
noncomputable def a4:Fn:={ps:=1,ns:=0,io:=[],body:=[
  .ret [] (.ifx (.inT K0 keys_AHEAD_trees<|.mv 0) (.cst<|.int 2)<|.cst<|.int 1)]}
noncomputable def eD:Fn:={ps:=1,ns:=0,io:=[],body:=[
  .ret [0] (.op .sl1 K0 [.var 0,.call 175 [.op .ix K0 [.var 0,.cst<|.int 0]]])]}
noncomputable def dg:Fn:={ps:=1,ns:=0,io:=[],body:=[
  .ret [] (.getT tab_BINDING<|.op .ix K0 [.mv 0,.cst<|.int 0])]}
noncomputable def dw:Fn:={ps:=1,ns:=1,io:=[],body:=[
  .asg (.q [] []) 1 (.op .dnew K0 []),
  .exp (.l [0]) (.call 235 [.var 0,.tup [],.io 1]),
  .ret [] (.op .sortedD K0 [.mv 1])]}
noncomputable def eR:Fn:={ps:=3,ns:=3,io:=[2],body:=[
  .ite (.q [0,1] []) (.and (.op .eq K0 [.op .ix K0 [.var 0,.cst (.int 0)],.cst (.str (q "name"))]) (.op .notin K0 [.op .ix K0 [.var 0,.cst (.int 1)],.var 1])) [
   .setK (.q [0] []) 2 (.op .ix K0 [.var 0,.cst<|.int 1]) (.cst<|.bl K1)] [],
  .asg (.q [0] []) 3 (.call 233 [.var 0]),
  .forS [0] [] .enmT [.call 176 [.var 0]] [4,5] [
   .exp (.l [0,1,3,5]) (.call 235 [.var 5,.ifx (.op .eq K0 [.var 4,.var 3]) (.op .catT K0 [.var 1,.tup [.op .ix K0 [.var 0,.cst<|.int 1]]])<|.var 1,.io 2])]]}
noncomputable def f_kinds_of:Fn:={ps:=1,ns:=4,io:=[],body:=[
  .asg (.q [] []) 1 (.op .dnew K0 []),
  .forS [0] [] .sq2T [.op .ix K0 [.var 0,.cst (.int 0)]] [2,3] [
   .setS (.q [2,3] []) 1 (.var 2) (.var 3)],
  .asg (.q [] []) 4 (.lst K0 []),
  .exp (.l [0,1]) (.call 369 [.op .ix K0 [.var 0,.cst<|.int 1],.tup [],.var 1,.io 4]),
  .ret [] (.mv 4)]}
noncomputable def f_add_kinds:Fn:={ps:=4,ns:=5,io:=[3],body:=[
  .asg (.q [] []) 4 (.lst K0 []),
  .forS [0] [] .enmT [.call 176 [.var 0]] [5,6] [
   .asg (.q [2] []) 7 (.var 2),
   .ite (.q [0] [5]) (.op .eq K0 [.var 5,.call 233 [.var 0]]) [
    .asg (.l [0,1,2]) 7 (.call 370 [.var 0,.var 1,.var 2,.io 4])] [],
   .app (.l [1,6,7]) 4 (.call 369 [.var 6,.op .catT K0 [.var 1,.tup [.var 5]],.var 7,.io 3])],
  .asg (.q [0,2,4] []) 8 (.call 372 [.var 0,.var 2,.var 4]),
  .ite (.q [8] []) (.op .is K0 [.var 8,.cst (.non)]) [
   .stop] [],
  .app (.q [1,8] []) 3 (.tup [.var 1,.var 8]),
  .ret [] (.mv 8)]}
noncomputable def bL:Fn:={ps:=4,ns:=2,io:=[3],body:=[
  .asg (.l [0]) 4 (.call 371 [.op .ix K0 [.var 0,.cst<|.int 0],.io 3]),
  .ite (.q [4] []) (.op .is K0 [.var 4,.cst (.non)]) [
   .stop] [],
  .asg (.q [2] []) 5 (.op .dcpy K0 [.var 2]),
  .setS (.q [0,4] []) 5 (.op .ix K0 [.var 0,.cst<|.int 1]) (.var 4),
  .ret [] (.mv 5)]}
noncomputable def aY:Fn:={ps:=2,ns:=0,io:=[1],body:=[
  .ite (.q [0] []) (.op .eq K0 [.var 0,.cst (.str (q "let"))]) [
   .ret [] (.ixQ 1<|.cst<|.int 0)] [],
  .ite (.q [0] []) (.op .eq K0 [.var 0,.cst (.str (q "each"))]) [
   .ret [] (.ifx (.op .eq K0 [.op .ix K0 [.ixQ 1<|.cst<|.int 0,.cst<|.int 0],.cst<|.str<|q "row"]) (.op .ix K0 [.ixQ 1<|.cst<|.int 0,.cst<|.int 1])<|.cst<|.non)] [],
  .ret [] (.ifx (.op .eq K0 [.ixQ 1<|.cst<|.int 0,.tup [.cst<|.str<|q "num"]]) (.ixQ 1<|.cst<|.int 1)<|.cst<|.non)]}
noncomputable def aV:Fn:={ps:=3,ns:=3,io:=[],body:=[
  .ite (.q [0] []) (.op .eq K0 [.op .ix K0 [.var 0,.cst (.int 0)],.cst (.str (q "name"))]) [
   .ret [] (.op .getD K0 [.mv 1,.op .ix K0 [.mv 0,.cst<|.int 1]])] [],
  .ite (.q [0] []) (.inT K0 keys_LEAVES (.op .ix K0 [.var 0,.cst (.int 0)])) [
   .ret [] (.ixT tab_LEAVES<|.op .ix K0 [.mv 0,.cst<|.int 0])] [],
  .ite (.q [0] []) (.op .eq K0 [.op .ix K0 [.var 0,.cst (.int 0)],.cst (.str (q "none"))]) [
   .ret [] (.call 374 [.cst<|.str<|q "row K",.op .dsp1 K0 [.cst<|.str<|q "K",.op .ix K0 [.mv 0,.cst<|.int 1]]])] [],
  .forS [0] [] .sq2T [.ixT tab_RULES (.op .ix K0 [.var 0,.cst (.int 0)])] [3,4] [
   .asg (.q [2,3] []) 5 (.call 373 [.var 3,.var 2]),
   .ite (.q [5] []) (.op .isnot K0 [.var 5,.cst (.non)]) [
    .ret [] (.call 374 [.mv 4,.mv 5])] []],
  .ret [] (.cst<|.non)]}
noncomputable def dY:Fn:={ps:=2,ns:=4,io:=[],body:=[
  .asg (.q [] []) 2 (.op .dnew K0 []),
  .asg (.q [1] []) 3 (.op .list K0 [.var 1]),
  .forS [0] [] .seq [.op .split K0 [.var 0,.cst (.str (q " "))]] [4] [
   .asg (.l []) 5 (.pop 3 [.cst<|.int 0]),
   .ite (.q [4] []) (.op .isin K0 [.var 4,.tup [.cst (.str (q "K")),.cst (.str (q "L"))]]) [
    .ite (.l [5]) (.op .ne K0 [.sdf 2 4 5,.var 5]) [
     .ret [] (.cst<|.non)] []] [
    .ite (.q [4,5] []) (.op .eq K0 [.var 4,.op .ix K0 [.var 5,.cst (.int 0)]]) [
     .asg (.q [3,5] []) 3 (.op .add K0 [.op .list K0 [.op .sl1 K0 [.var 5,.cst<|.int 1]],.var 3])] [
     .ret [] (.cst<|.non)]]],
  .ret [] (.mv 2)]}
noncomputable def dn:Fn:={ps:=2,ns:=3,io:=[],body:=[
  .asg (.q [1] [0]) 2 (.comp K0 .seq [.op .split K0 [.var 0,.cst<|.str<|q " "]] [4] J<|.ifx (.op .inD K0 [.var 4,.var 1]) (.call 364 [.op .ixD K0 [.var 1,.var 4]])<|.var 4),
  .tri [
   .asg (.q [2] []) 3 (.call 365 [.op .join K0 [.cst<|.str<|q " ",.var 2]])],
  .ret [] (.mv 3)]}
noncomputable def b9:Fn:={ps:=2,ns:=2,io:=[],body:=[
  .asg (.q [0] [1]) 2 (.ifx (.op .eq K0 [.var 1,.call 233 [.var 0]]) (.op .ix K0 [.var 0,.cst<|.int 1])<|.cst<|.non),
  .ret [2] (.comp K1 .seq [.call 234 [.op .ix K0 [.call 176 [.mv 0],.mv 1]]] [3] (Y<|.op .ne K0 [.var 3,.var 2])<|.var 3)]}
noncomputable def gK:Fn:={ps:=1,ns:=0,io:=[],body:=[
  .ret [0] (.call 477 [.op .ix K0 [.var 0,.cst<|.int 1],.tup [],.op .dtup K0 [.wk .s<|.call 368 [.var 0]]])]}
noncomputable def aS:Fn:={ps:=3,ns:=4,io:=[],body:=[
  .ite (.q [0] []) (.op .eq K0 [.op .ix K0 [.var 0,.cst (.int 0)],.cst (.str (q "name"))]) [
   .ret [] (.lst K1 [.tup [.cst<|.str<|q "call",.op .nl K0 [.mv 1],.op .nl K0 [.op .ix K0 [.mv 0,.cst<|.int 1]]]])] [],
  .ite (.q [0] []) (.op .eq K0 [.op .ix K0 [.var 0,.cst (.int 0)],.cst (.str (q "let"))]) [
   .asg (.q [0,1] []) 3 (.lst K1 [.tup [.cst<|.str<|q "let",.op .nl K0 [.op .ix K0 [.var 0,.cst<|.int 1]],.op .nl K0 [.op .catT K0 [.op .nl K0 [.var 1],.tup [.cst<|.int 0]]]]]),
   .asg (.q [1] []) 4 (.lst K1 [.tup [.cst<|.str<|q "call",.op .nl K0 [.var 1],.op .nl K0 [.op .catT K0 [.op .nl K0 [.var 1],.tup [.cst<|.int 1]]]]]),
   .ret [0,1,2] (.op .add K0 [.op .add K0 [.op .add K0 [.call 478 [.var 0,.cst<|.int 0,.op .nl K0 [.var 1],.var 2],.mv 3],.call 478 [.var 0,.cst<|.int 1,.op .nl K0 [.var 1],.var 2]],.mv 4])] [],
  .asg (.q [] []) 5 (.lst K1 []),
  .forS [0] [] .rng [.op (.getI [(q "if",1),(q "each",1),(q "times",2)]) K0 [.op .ix K0 [.var 0,.cst (.int 0)],.op .len K0 [.call 176 [.var 0]]]] [6] [
   .ext (.q [0,1,2] [6]) 5 (.call 478 [.var 0,.var 6,.op .nl K0 [.var 1],.var 2])],
  .app (.q [0,1,2] []) 5 (.call 479 [.var 0,.op .nl K0 [.var 1],.var 2]),
  .ret [] (.mv 5)]}
noncomputable def bY:Fn:={ps:=4,ns:=0,io:=[],body:=[
  .ret [] (.call 477 [.op .ix K0 [.call 176 [.mv 0],.var 1],.op .catT K0 [.mv 2,.tup [.var 1]],.mv 3])]}
noncomputable def bu:Fn:={ps:=3,ns:=3,io:=[],body:=[
  .asg (.q [1,2] []) 3 (.op .ixDT K0 [.var 2,.op .nl K0 [.var 1]]),
  .ite (.q [0] []) (.op .eq K0 [.op .ix K0 [.var 0,.cst (.int 0)],.cst (.str (q "if"))]) [
   .ret [0,1,2] (.op .catD K0 [.op .catD K0 [.tup [.cst<|.str<|q "arms",.op .nl K0 [.var 1],.op .nl K0 [.mv 3],.op .nl K0 [.op .catT K0 [.op .nl K0 [.var 1],.tup [.cst<|.int 0]]]],.call 480 [.var 0,.cst<|.int 1,.op .nl K0 [.var 1],.var 2]],.call 480 [.var 0,.cst<|.int 2,.op .nl K0 [.var 1],.var 2]])] [],
  .ite (.q [0] []) (.op .eq K0 [.op .ix K0 [.var 0,.cst (.int 0)],.cst (.str (q "each"))]) [
   .ret [0,1] (.op .catD K0 [.tup [.cst<|.str<|q "within",.op .nl K0 [.var 1],.op .nl K0 [.mv 3],.op .ix K0 [.var 0,.cst<|.int 1],.op .nl K0 [.op .catT K0 [.op .nl K0 [.var 1],.tup [.cst<|.int 0]]]],.call 480 [.var 0,.cst<|.int 1,.op .nl K0 [.var 1],.mv 2]])] [],
  .ite (.q [0] []) (.op .eq K0 [.op .ix K0 [.var 0,.cst (.int 0)],.cst (.str (q "times"))]) [
   .ret [0,1] (.op .catD K0 [.tup [.cst<|.str<|q "rounds",.op .nl K0 [.var 1],.op .nl K0 [.mv 3],.op .ix K0 [.var 0,.cst<|.int 1],.op .nl K0 [.op .catT K0 [.op .nl K0 [.var 1],.tup [.cst<|.int 0]]],.op .nl K0 [.op .catT K0 [.op .nl K0 [.var 1],.tup [.cst<|.int 1]]]],.call 480 [.var 0,.cst<|.int 2,.op .nl K0 [.var 1],.mv 2]])] [],
  .asg (.q [0] []) 4 (.ifx (.op .isin K0 [.op .ix K0 [.var 0,.cst<|.int 0],.tup [.cst<|.str<|q "num",.cst<|.str<|q "none"]]) (.var 0)<|.op .ix K0 [.var 0,.cst<|.int 0]),
  .ret [1] (.tup [.cst<|.str<|q "do",.op .nl K0 [.var 1],.op .nl K0 [.mv 4],.op .nl K0 [.mv 3],.comp K1 .rng [.op .len K0 [.call 176 [.mv 0]]] [5] J<|.op .nl K0 [.op .catT K0 [.op .nl K0 [.var 1],.tup [.var 5]]]])]}
noncomputable def fE:Fn:={ps:=4,ns:=0,io:=[],body:=[
  .ret [0] (.tup [.call 475 [.var 0,.var 1],.call 478 [.var 0,.var 1,.mv 2,.mv 3]])]}
noncomputable def bh:Fn:={ps:=2,ns:=4,io:=[0],body:=[
  .ite (.q [0] []) (.op .gt K0 [.op .ix K0 [.var 0,.cst (.int 3)],.cst (.int 0)]) [
   .setI (.q [0] []) 0 (.cst<|.int 3) (.op .sub K0 [.op .ix K0 [.var 0,.cst<|.int 3],.cst<|.int 1]),
   .asg (.q [0] []) 2 (.op .ix K0 [.var 0,.cst<|.int 2]),
   .setI (.q [] [1,2]) 0 (.cst<|.int 2) (.op .fdivN K0 [.var 2,.var 1]),
   .ret [] (.op .modN K0 [.mv 2,.mv 1])] [],
  .asg (.q [0] []) 3 (.op .ix K0 [.var 0,.cst<|.int 1]),
  .setI (.q [] [3]) 0 (.cst<|.int 1) (.op .add K0 [.var 3,.cst<|.int 1]),
  .asg (.q [] []) 4 (.cst<|.int 0),
  .ite (.q [0] []) (.op .gt K0 [.op .len K0 [.op .ix K0 [.var 0,.cst (.int 0)]],.cst (.int 0)]) [
   .asg (.q [0] [3]) 4 (.op .ix K0 [.op .ix K0 [.var 0,.cst<|.int 0],.op .modN K0 [.var 3,.op .len K0 [.op .ix K0 [.var 0,.cst<|.int 0]]]])] [],
  .ite (.q [0] [3,4]) (.and (.op .lt K0 [.var 3,.op .len K0 [.op .ix K0 [.var 0,.cst (.int 0)]]]) (.op .ge K0 [.var 4,.op .pow K0 [.cst (.int 10),.cst (.int 18)]])) [
   .setI (.q [] [4]) 0 (.cst<|.int 2) (.op .sub K0 [.var 4,.op .pow K0 [.cst<|.int 10,.cst<|.int 18]]),
   .setI (.q [] []) 0 (.cst<|.int 3) (.cst<|.int 40),
   .ret [] (.call 428 [.io 0,.mv 1])] [],
  .asg (.q [] [3,4]) 5 (.op .mul K0 [.op .add K0 [.op .modN K0 [.var 4,.cst<|.int 999983],.cst<|.int 3],.op .add K0 [.op .add K0 [.op .modN K0 [.op .mul K0 [.var 3,.var 3],.cst<|.int 10007],.op .mul K0 [.cst<|.int 61,.var 3]],.cst<|.int 7]]),
  .asg (.q [] [5]) 5 (.op .modN K0 [.op .mul K0 [.op .modN K0 [.var 5,.cst<|.int 1000003],.op .modN K0 [.var 5,.cst<|.int 1000003]],.cst<|.int 999979]),
  .ret [] (.op .modN K0 [.op .modN K0 [.op .add K0 [.op .fdivN K0 [.mv 5,.cst<|.int 3],.op .mul K0 [.cst<|.int 131,.mv 3]],.cst<|.int 99991],.mv 1])]}
noncomputable def cB:Fn:={ps:=2,ns:=2,io:=[0],body:=[
  .asg (.l []) 2 (.call 428 [.io 0,.cst<|.int 6]),
  .ite (.q [] [1,2]) (.or (.op .eq K0 [.var 1,.cst (.int 1)]) (.op .lt K0 [.var 2,.cst (.int 2)])) [
   .ret [] (.op .ix K0 [.lst K0 [.tup [.cst<|.str<|q "num"],.tup [.cst<|.str<|q "truth"]],.op .mod K0 [.mv 2,.cst<|.int 2]])] [],
  .ite (.q [] [2]) (.op .lt K0 [.var 2,.cst (.int 4)]) [
   .asg (.l []) 3 (.call 429 [.io 0,.op .sub K0 [.var 1,.cst<|.int 1]]),
   .ret [] (.tup [.cst<|.str<|q "pair",.mv 3,.call 429 [.io 0,.op .sub K0 [.mv 1,.cst<|.int 1]]])] [],
  .ret [] (.tup [.cst<|.str<|q "row",.call 429 [.io 0,.op .sub K0 [.mv 1,.cst<|.int 1]]])]}
noncomputable def aC:Fn:={ps:=2,ns:=2,io:=[],body:=[
  .ite (.q [0] []) (.op (.isI ["list","tuple"]) K0 [.var 0]) [
   .ite (.q [0,1] []) (.op .ne K0 [.op (.isI ["list"]) K0 [.var 0],.op (.isI ["list"]) K0 [.var 1]]) [
    .ret [] (.cst<|.bl K0)] [],
   .ite (.q [0,1] []) (.op .ne K0 [.op (.isI ["tuple"]) K0 [.var 0],.op (.isI ["tuple"]) K0 [.var 1]]) [
    .ret [] (.cst<|.bl K0)] [],
   .ite (.q [0,1] []) (.op .ne K0 [.op .len K0 [.var 0],.op .len K0 [.var 1]]) [
    .ret [] (.cst<|.bl K0)] [],
   .ret [] (.op .all K0 [.comp K0 .zip [.mv 0,.mv 1] [2,3] J<|.call 24 [.var 2,.var 3]])] [],
  .ite (.q [0,1] []) (.op .ne K0 [.op (.isI ["bool"]) K0 [.var 0],.op (.isI ["bool"]) K0 [.var 1]]) [
   .ret [] (.cst<|.bl K0)] [],
  .ret [] (.op .eq K0 [.mv 0,.mv 1])]}
noncomputable def cI:Fn:={ps:=2,ns:=5,io:=[],body:=[
  .asg (.q [0] []) 2 (.tup [.cst<|.str<|q "pair",.var 0,.var 0]),
  .asg (.q [] []) 3 (.tup [.cst<|.str<|q "if",.tup [.cst<|.str<|q "name",.cst<|.str<|q "rowe"],.tup [.cst<|.str<|q "pair",.tup [.cst<|.str<|q "name",.cst<|.str<|q "q"],.tup [.cst<|.str<|q "name",.cst<|.str<|q "b"]]]),
  .asg (.q [3] []) 3 (.op .catT K0 [.var 3,.tup [.tup [.cst<|.str<|q "pair",.tup [.cst<|.str<|q "name",.cst<|.str<|q "q"],.tup [.cst<|.str<|q "name",.cst<|.str<|q "q"]]]]),
  .asg (.q [1] []) 4 (.lst K0 [.tup [.cst<|.str<|q "call",.op .catT K0 [.var 1,.tup [.cst<|.int 1,.cst<|.int 0]],.cst<|.str<|q "q"],.tup [.cst<|.str<|q "call",.op .catT K0 [.var 1,.tup [.cst<|.int 1,.cst<|.int 1]],.cst<|.str<|q "b"]]),
  .app (.q [1,2] []) 4 (.tup [.cst<|.str<|q "do",.op .catT K0 [.var 1,.tup [.cst<|.int 1]],.cst<|.str<|q "pair",.var 2,.lst K0 [.op .catT K0 [.var 1,.tup [.cst<|.int 1,.cst<|.int 0]],.op .catT K0 [.var 1,.tup [.cst<|.int 1,.cst<|.int 1]]]]),
  .asg (.q [1] []) 5 (.lst K0 [.tup [.cst<|.str<|q "call",.op .catT K0 [.var 1,.tup [.cst<|.int 2,.cst<|.int 0]],.cst<|.str<|q "q"],.tup [.cst<|.str<|q "call",.op .catT K0 [.var 1,.tup [.cst<|.int 2,.cst<|.int 1]],.cst<|.str<|q "q"]]),
  .app (.q [1,2] []) 5 (.tup [.cst<|.str<|q "do",.op .catT K0 [.var 1,.tup [.cst<|.int 2]],.cst<|.str<|q "pair",.var 2,.lst K0 [.op .catT K0 [.var 1,.tup [.cst<|.int 2,.cst<|.int 0]],.op .catT K0 [.var 1,.tup [.cst<|.int 2,.cst<|.int 1]]]]),
  .asg (.q [1] []) 6 (.lst K0 [.tup [.cst<|.str<|q "call",.op .catT K0 [.var 1,.tup [.cst<|.int 0]],.cst<|.str<|q "rowe"]]),
  .app (.q [1,2,4,5] []) 6 (.tup [.cst<|.str<|q "arms",.var 1,.var 2,.op .catT K0 [.var 1,.tup [.cst<|.int 0]],.lst K0 [.cst<|.str<|q "b",.cst<|.str<|q "q"],.var 4,.lst K0 [.cst<|.str<|q "q"],.var 5]),
  .ret [] (.tup [.mv 3,.mv 6,.mv 2])]}
noncomputable def da:Fn:={ps:=2,ns:=2,io:=[],body:=[
  .asg (.q [] []) 2 (.tup [.cst<|.str<|q "let",.cst<|.str<|q "zz",.tup [.cst<|.str<|q "one",.tup [.cst<|.str<|q "name",.cst<|.str<|q "b"]],.tup [.cst<|.str<|q "long",.tup [.cst<|.str<|q "name",.cst<|.str<|q "zz"]]]),
  .asg (.q [1] []) 3 (.lst K0 [.tup [.cst<|.str<|q "call",.op .catT K0 [.var 1,.tup [.cst<|.int 0,.cst<|.int 0]],.cst<|.str<|q "b"]]),
  .app (.q [0,1] []) 3 (.tup [.cst<|.str<|q "do",.op .catT K0 [.var 1,.tup [.cst<|.int 0]],.cst<|.str<|q "one",.tup [.cst<|.str<|q "row",.var 0],.lst K0 [.op .catT K0 [.var 1,.tup [.cst<|.int 0,.cst<|.int 0]]]]),
  .app (.q [1] []) 3 (.tup [.cst<|.str<|q "let",.cst<|.str<|q "zz",.op .catT K0 [.var 1,.tup [.cst<|.int 0]]]),
  .app (.q [1] []) 3 (.tup [.cst<|.str<|q "call",.op .catT K0 [.var 1,.tup [.cst<|.int 1,.cst<|.int 0]],.cst<|.str<|q "zz"]),
  .app (.q [1] []) 3 (.tup [.cst<|.str<|q "do",.op .catT K0 [.var 1,.tup [.cst<|.int 1]],.cst<|.str<|q "long",.tup [.cst<|.str<|q "num"],.lst K0 [.op .catT K0 [.var 1,.tup [.cst<|.int 1,.cst<|.int 0]]]]),
  .app (.q [1] []) 3 (.tup [.cst<|.str<|q "call",.var 1,.op .catT K0 [.var 1,.tup [.cst<|.int 1]]]),
  .ret [] (.tup [.mv 2,.mv 3,.tup [.cst<|.str<|q "num"]])]}
noncomputable def cJ:Fn:={ps:=2,ns:=4,io:=[],body:=[
  .asg (.q [] []) 2 (.tup [.cst<|.str<|q "each",.cst<|.str<|q "addy",.tup [.cst<|.str<|q "name",.cst<|.str<|q "some"]]),
  .asg (.q [0] []) 3 (.tup [.cst<|.str<|q "row",.var 0]),
  .asg (.q [2] []) 2 (.op .catT K0 [.var 2,.tup [.tup [.cst<|.str<|q "join",.tup [.cst<|.str<|q "one",.tup [.cst<|.str<|q "name",.cst<|.str<|q "addy"]],.tup [.cst<|.str<|q "name",.cst<|.str<|q "some"]]]]),
  .asg (.q [1] []) 4 (.lst K0 [.tup [.cst<|.str<|q "call",.op .catT K0 [.var 1,.tup [.cst<|.int 1,.cst<|.int 0,.cst<|.int 0]],.cst<|.str<|q "addy"]]),
  .app (.q [1,3] []) 4 (.tup [.cst<|.str<|q "do",.op .catT K0 [.var 1,.tup [.cst<|.int 1,.cst<|.int 0]],.cst<|.str<|q "one",.var 3,.lst K0 [.op .catT K0 [.var 1,.tup [.cst<|.int 1,.cst<|.int 0,.cst<|.int 0]]]]),
  .app (.q [1] []) 4 (.tup [.cst<|.str<|q "call",.op .catT K0 [.var 1,.tup [.cst<|.int 1,.cst<|.int 1]],.cst<|.str<|q "some"]),
  .app (.q [1,3] []) 4 (.tup [.cst<|.str<|q "do",.op .catT K0 [.var 1,.tup [.cst<|.int 1]],.cst<|.str<|q "join",.var 3,.lst K0 [.op .catT K0 [.var 1,.tup [.cst<|.int 1,.cst<|.int 0]],.op .catT K0 [.var 1,.tup [.cst<|.int 1,.cst<|.int 1]]]]),
  .asg (.q [1] []) 5 (.lst K0 [.tup [.cst<|.str<|q "call",.op .catT K0 [.var 1,.tup [.cst<|.int 0]],.cst<|.str<|q "some"]]),
  .app (.q [1,3,4] []) 5 (.tup [.cst<|.str<|q "within",.var 1,.tup [.cst<|.str<|q "row",.var 3],.cst<|.str<|q "addy",.op .catT K0 [.var 1,.tup [.cst<|.int 0]],.lst K0 [.cst<|.str<|q "some"],.var 4]),
  .ret [] (.tup [.mv 2,.mv 5,.tup [.cst<|.str<|q "row",.mv 3]])]}
noncomputable def b6:Fn:={ps:=3,ns:=4,io:=[],body:=[
  .asg (.q [0] []) 3 (.tup [.cst<|.str<|q "row",.var 0]),
  .asg (.q [] [2]) 4 (.tup [.cst<|.str<|q "times",.cst<|.str<|q "x",.tup [.cst<|.str<|q "num",.var 2],.tup [.cst<|.str<|q "name",.cst<|.str<|q "some"]]),
  .asg (.q [4] []) 4 (.op .catT K0 [.var 4,.tup [.tup [.cst<|.str<|q "join",.tup [.cst<|.str<|q "name",.cst<|.str<|q "x"],.tup [.cst<|.str<|q "one",.tup [.cst<|.str<|q "name",.cst<|.str<|q "q"]]]]]),
  .asg (.q [1] []) 5 (.lst K0 [.tup [.cst<|.str<|q "call",.op .catT K0 [.var 1,.tup [.cst<|.int 2,.cst<|.int 0]],.cst<|.str<|q "x"],.tup [.cst<|.str<|q "call",.op .catT K0 [.var 1,.tup [.cst<|.int 2,.cst<|.int 1,.cst<|.int 0]],.cst<|.str<|q "q"]]),
  .app (.q [1,3] []) 5 (.tup [.cst<|.str<|q "do",.op .catT K0 [.var 1,.tup [.cst<|.int 2,.cst<|.int 1]],.cst<|.str<|q "one",.var 3,.lst K0 [.op .catT K0 [.var 1,.tup [.cst<|.int 2,.cst<|.int 1,.cst<|.int 0]]]]),
  .app (.q [1,3] []) 5 (.tup [.cst<|.str<|q "do",.op .catT K0 [.var 1,.tup [.cst<|.int 2]],.cst<|.str<|q "join",.var 3,.lst K0 [.op .catT K0 [.var 1,.tup [.cst<|.int 2,.cst<|.int 0]],.op .catT K0 [.var 1,.tup [.cst<|.int 2,.cst<|.int 1]]]]),
  .asg (.q [1] [2]) 6 (.lst K0 [.tup [.cst<|.str<|q "do",.op .catT K0 [.var 1,.tup [.cst<|.int 0]],.tup [.cst<|.str<|q "num",.var 2],.tup [.cst<|.str<|q "num"],.lst K0 []]]),
  .app (.q [1] []) 6 (.tup [.cst<|.str<|q "call",.op .catT K0 [.var 1,.tup [.cst<|.int 1]],.cst<|.str<|q "some"]),
  .app (.q [1,3,5] []) 6 (.tup [.cst<|.str<|q "rounds",.var 1,.var 3,.cst<|.str<|q "x",.op .catT K0 [.var 1,.tup [.cst<|.int 0]],.op .catT K0 [.var 1,.tup [.cst<|.int 1]],.lst K0 [.cst<|.str<|q "q"],.var 5]),
  .ret [] (.tup [.mv 4,.mv 6,.mv 3])]}
noncomputable def cG:Fn:={ps:=2,ns:=2,io:=[],body:=[
  .asg (.q [] []) 2 (.tup [.cst<|.str<|q "if",.tup [.cst<|.str<|q "name",.cst<|.str<|q "rowe"],.tup [.cst<|.str<|q "name",.cst<|.str<|q "q"],.tup [.cst<|.str<|q "name",.cst<|.str<|q "q"]]),
  .asg (.q [1] []) 3 (.lst K0 [.tup [.cst<|.str<|q "call",.op .catT K0 [.var 1,.tup [.cst<|.int 0]],.cst<|.str<|q "rowe"]]),
  .app (.q [0,1] []) 3 (.tup [.cst<|.str<|q "arms",.var 1,.var 0,.op .catT K0 [.var 1,.tup [.cst<|.int 0]],.lst K0 [.cst<|.str<|q "q"],.lst K0 [.tup [.cst<|.str<|q "call",.op .catT K0 [.var 1,.tup [.cst<|.int 1]],.cst<|.str<|q "q"]],.lst K0 [.cst<|.str<|q "q"],.lst K0 [.tup [.cst<|.str<|q "call",.op .catT K0 [.var 1,.tup [.cst<|.int 2]],.cst<|.str<|q "q"]]]),
  .ret [] (.tup [.mv 2,.mv 3,.mv 0])]}
noncomputable def kQ:Fn:={ps:=1,ns:=2,io:=[],body:=[.pas]}
noncomputable def bX:Fn:={ps:=2,ns:=4,io:=[],body:=[
  .asg (.q [1] []) 2 (.call 476 [.var 1]),
  .ite (.q [0,2] []) (.not (.call 24 [.var 0,.var 2])) [
   .ret [] (.cst<|.bl K0)] [],
  .lsQ 486 2 3 4 5,
  .ret [] (.call 24 [.mv 0,.call 476 [.mv 1]])]}
noncomputable def aZ:Fn:={ps:=5,ns:=0,io:=[],body:=[
  .ite (.q [] [3]) (.op .eq K0 [.var 3,.cst (.int 0)]) [
   .ret [] (.call 481 [.mv 0,.mv 4])] [],
  .ite (.q [] [3]) (.op .eq K0 [.var 3,.cst (.int 4)]) [
   .ret [] (.call 485 [.mv 0,.mv 4])] [],
  .ite (.q [] [3]) (.op .eq K0 [.var 3,.cst (.int 1)]) [
   .ret [] (.call 482 [.mv 0,.mv 4])] [],
  .ite (.q [] [3]) (.op .eq K0 [.var 3,.cst (.int 2)]) [
   .ret [] (.call 483 [.mv 0,.mv 4])] [],
  .ret [] (.call 484 [.mv 0,.mv 4,.mv 2])]}
noncomputable def f_law:Fn:={ps:=1,ns:=11,io:=[],body:=[
  .asg (.q [0] []) 1 (.lst K1 [.op .list K1 [.op .sl2 K1 [.var 0,.cst<|.int 63]],.cst<|.int 0,.cst<|.int 0,.cst<|.int 0]),
  .asg (.l []) 2 (.call 429 [.io 1,.op .add K0 [.cst<|.int 1,.call 428 [.io 1,.cst<|.int 2]]]),
  .asg (.l []) 3 (.call 429 [.io 1,.op .add K0 [.cst<|.int 1,.call 428 [.io 1,.cst<|.int 3]]]),
  .asg (.l []) 4 (.call 428 [.io 1,.op .add K0 [.op .pow K0 [.cst<|.int 10,.cst<|.int 18],.cst<|.int 1]]),
  .asg (.q [2] []) 5 (.tup [.tup [.cst<|.str<|q "rowe",.tup [.cst<|.str<|q "truth"]],.tup [.cst<|.str<|q "q",.var 2],.tup [.cst<|.str<|q "b",.var 2]]),
  .asg (.q [2,3,5] []) 5 (.op .catT K0 [.var 5,.tup [.tup [.cst<|.str<|q "some",.tup [.cst<|.str<|q "row",.var 2]],.tup [.cst<|.str<|q "e",.var 3]]]),
  .forS [] [] .rng [.cst (.int 5)] [6] [
   .asgT (.q [2,3] [4,6]) [7,8,9] (.call 488 [.var 2,.var 3,.var 4,.var 6,.tup []]),
   .ite (.q [5,7,8] []) (.not (.call 487 [.var 8,.tup [.var 5,.var 7]])) [
    .ret [] (.cst<|.bl K0)] [],
   .asgT (.q [2,3] [4,6]) [7,8,9] (.call 488 [.var 2,.var 3,.var 4,.var 6,.tup [.cst<|.int 1]]),
   .asg (.q [3,9] []) 10 (.tup [.cst<|.str<|q "pair",.var 3,.var 9]),
   .asg (.q [8] []) 8 (.op .add K0 [.lst K0 [.tup [.cst<|.str<|q "call",.tup [.cst<|.int 0],.cst<|.str<|q "e"]],.var 8]),
   .app (.q [10] []) 8 (.tup [.cst<|.str<|q "do",.tup [],.cst<|.str<|q "pair",.var 10,.lst K0 [.tup [.cst<|.int 0],.tup [.cst<|.int 1]]]),
   .ite (.q [5,7,8] []) (.not (.call 487 [.var 8,.tup [.var 5,.tup [.cst (.str (q "pair")),.tup [.cst (.str (q "name")),.cst (.str (q "e"))],.var 7]]])) [
    .ret [] (.cst<|.bl K0)] [],
   .asgT (.q [2,3] [4,6]) [7,8,9] (.call 488 [.var 2,.var 3,.var 4,.var 6,.tup [.cst<|.int 0,.cst<|.int 1]]),
   .asg (.q [3,9] []) 10 (.tup [.cst<|.str<|q "pair",.var 3,.var 9]),
   .asg (.q [8] []) 8 (.op .add K0 [.lst K0 [.tup [.cst<|.str<|q "call",.tup [.cst<|.int 0,.cst<|.int 0],.cst<|.str<|q "e"]],.var 8]),
   .app (.q [10] []) 8 (.tup [.cst<|.str<|q "do",.tup [.cst<|.int 0],.cst<|.str<|q "pair",.var 10,.lst K0 [.tup [.cst<|.int 0,.cst<|.int 0],.tup [.cst<|.int 0,.cst<|.int 1]]]),
   .app (.q [9] []) 8 (.tup [.cst<|.str<|q "do",.tup [],.cst<|.str<|q "second",.var 9,.lst K0 [.tup [.cst<|.int 0]]]),
   .asg (.q [7] []) 11 (.tup [.cst<|.str<|q "second",.tup [.cst<|.str<|q "pair",.tup [.cst<|.str<|q "name",.cst<|.str<|q "e"],.var 7]]),
   .ite (.q [5,8,11] []) (.not (.call 487 [.var 8,.tup [.var 5,.var 11]])) [
    .ret [] (.cst<|.bl K0)] []],
  .ret [] (.cst<|.bl K1)]}
noncomputable def prog:U Fn:=[f_law,zf,zf,zf,zf,zf,zf,zf,zf,zf,zf,zf,zf,zf,zf,zf,zf,zf,zf,zf,zf,zf,zf,zf,aC,zf,zf,zf,zf,zf,zf,zf,zf,zf,zf,zf,zf,zf,zf,zf,zf,zf,zf,zf,zf,zf,zf,zf,zf,zf,zf,zf,zf,zf,zf,zf,zf,zf,zf,zf,zf,zf,zf,zf,zf,zf,zf,zf,zf,zf,zf,zf,zf,zf,zf,zf,zf,zf,zf,zf,zf,zf,zf,zf,zf,zf,zf,zf,zf,zf,zf,zf,zf,zf,zf,zf,zf,zf,zf,zf,zf,zf,zf,zf,zf,zf,zf,zf,zf,zf,zf,zf,zf,zf,zf,zf,zf,zf,zf,zf,zf,zf,zf,zf,zf,zf,zf,zf,zf,zf,zf,zf,zf,zf,zf,zf,zf,zf,zf,zf,zf,zf,zf,zf,zf,zf,zf,zf,zf,zf,zf,zf,zf,zf,zf,zf,zf,zf,zf,zf,zf,zf,zf,zf,zf,zf,zf,zf,zf,zf,zf,zf,zf,zf,zf,a4,eD,zf,zf,zf,zf,zf,zf,zf,zf,zf,zf,zf,zf,zf,zf,zf,zf,zf,zf,zf,zf,zf,zf,zf,zf,zf,zf,zf,zf,zf,zf,zf,zf,zf,zf,zf,zf,zf,zf,zf,zf,zf,zf,zf,zf,zf,zf,zf,zf,zf,zf,zf,zf,zf,zf,zf,zf,dg,dw,eR,zf,zf,zf,zf,zf,zf,zf,zf,zf,zf,zf,zf,zf,zf,zf,zf,zf,zf,zf,zf,zf,zf,zf,zf,zf,zf,zf,zf,zf,zf,zf,zf,zf,zf,zf,zf,zf,zf,zf,zf,zf,zf,zf,zf,zf,zf,zf,zf,zf,zf,zf,zf,zf,zf,zf,zf,zf,zf,zf,zf,zf,zf,zf,zf,zf,zf,zf,zf,zf,zf,zf,zf,zf,zf,zf,zf,zf,zf,zf,zf,zf,zf,zf,zf,zf,zf,zf,zf,zf,zf,zf,zf,zf,zf,zf,zf,zf,zf,zf,zf,zf,zf,zf,zf,zf,zf,zf,zf,zf,zf,zf,zf,zf,zf,zf,zf,zf,zf,zf,zf,zf,zf,zf,zf,zf,zf,zf,zf,aX,b5,b0,ay,f_kinds_of,f_add_kinds,bL,aY,aV,dY,dn,zf,zf,zf,zf,zf,zf,zf,zf,zf,zf,zf,zf,zf,zf,zf,zf,zf,zf,zf,zf,zf,zf,zf,zf,zf,zf,zf,zf,zf,zf,zf,zf,zf,zf,zf,zf,zf,zf,zf,zf,zf,zf,zf,zf,zf,zf,zf,zf,zf,zf,zf,zf,zf,bh,cB,zf,zf,zf,zf,zf,zf,zf,zf,zf,zf,zf,zf,zf,zf,zf,zf,zf,zf,zf,zf,zf,zf,zf,zf,zf,zf,zf,zf,zf,zf,zf,zf,zf,zf,zf,zf,zf,zf,zf,zf,zf,zf,zf,zf,zf,b9,gK,aS,bY,bu,fE,cI,da,cJ,b6,cG,kQ,bX,aZ]
end A48

set_option compiler.extract_closed false
namespace P48
section
open M A48
open PySem (Str)
local macro_rules
 | `(tactic| simp_all only [$ls,*])=>`(tactic| simp only [FG,C9,EO,EY,Dm,BU,D2,Dw,Ay,AL,AQ,AW,yW,Ag,yX,zJ,Aq,Ad,yD,zR,AV,yk,Ao,yb,zF,xO,yd,yG,yx,vA,lu,yT,zO,AG,yY,xB,xk,kWk,kOp,uA,kOr,uK,kC3,kC2,kC1,pd,ly,gh,fO,mY,lD,fh,l9,qZ,oF,a0,kX,kT,kT2,kIf,zo,pG,we,wO,ug,zx,mI,kNx,kRt,pb,rZ,vo,okW,Bc,FR,gM,trees,aB,ios,putAll,DM,Jt,CK,CH,DO,Al,yS,Af,Cv,ED,BV,ER,CQ,CC,El,GA,GR,GZ,GC,Jg,Hr,xW,xT,Ak,yy,Jc,EC,sJ,wV,xy,wg,BM,ya,zM,vJ,wU,Ha,GL,Gu,Iw,sr,wR,va,Cp,DN,Fj,CD,Ee,Fz,CT,Cb,xP,zu,ye,Dx,uX,w8,sP,IF,uG,D1,BJ,DI,DH,Dg,EJ,BX,EW,J4,Jo,Jj,JU,I0,FK,Fe,FC,DB,Il,ID,C2,Hi,zZ,DT,HE,F7,xU,zy,G8,E8,Cy,Dv,Ea,tf,uh,vh,Hw,vS,tj,yE,xR,Ah,ze,DQ,Dz,Cs,vL,fo,rK,qS,rB,Dk,Fc,Ds,Fb,CI,Fv,DU,EG,GQ,wm,vF,Eo,BN,at0,at1,at2,at3,at4,Nl,LX,LK,Ln,Ma,M7,List.replicate_zero,reduceIte,if_true,if_false,String.reduceBEq,Bool.not_true,Bool.not_false,Bool.false_eq_true,Bool.and_self,Bool.true_and,P4,Ar,kIo,Cu,EU,qY,wX,qw,qC,qk,tq,uc,qg,r9,qy,rm,m9,nO,rU,Dt,qD,rn,nI,qh,qj,mS,okS,Cj,Ks,F3,CG,Ep,C0,zw,zv,FE,yi,xY,uI,yC,Ff,Eg,rR,Fw,my,oA,nM,xt,D6,yj,mw,JR,B7,EZ,xM,zE,tO,ue,qM,rE,DW,Ap,p9,Kv,xI,E2,F6,IM,IT,Kp,FJ,HR,HW,IB,Hg,Jd,Kj,IW,G9,Ic,IU,Hm,I9,GB,F8,J9,Im,FZ,HX,Hs,IE,Gf,Gp,GY,J0,Kl,JH,CA,zH,De,E6,EF,GJ,Dc,EN,FX,Ez,BR,kPopN0,mN,oo,nN,Fg,FA,CB,JA,qL,ql,rM,kSdf,qt,kIxQ,JP,ES,Dh,rf,HV,Dn,EK,$ls,*])
abbrev C (n:O):Call:=callL prog 486 1000001 n
theorem DZ (n:O)(a:U W):C (n+1) 0 a=runF (C n) f_law a:=rfl
theorem fG (n:O)(a:U W):C (n+1) 24 a=runF (C n) aC a:=rfl
theorem hU (n:O)(a:U W):C (n+1) 175 a=runF (C n) a4 a:=rfl
theorem lV (n:O)(a:U W):C (n+1) 176 a=runF (C n) eD a:=rfl
theorem mL (n:O)(a:U W):C (n+1) 233 a=runF (C n) dg a:=rfl
theorem ck (n:O)(a:U W):C (n+1) 364 a=runF (C n) aX a:=rfl
theorem kJ (n:O)(a:U W):C (n+1) 365 a=runF (C n) b5 a:=rfl
theorem jW (n:O)(a:U W):C (n+1) 366 a=runF (C n) b0 a:=rfl
theorem aW (n:O)(a:U W):C (n+1) 367 a=runF (C n) ay a:=rfl
theorem lg (n:O)(a:U W):C (n+1) 368 a=runF (C n) f_kinds_of a:=rfl
theorem kG (n:O)(a:U W):C (n+1) 369 a=runF (C n) f_add_kinds a:=rfl
theorem iX (n:O)(a:U W):C (n+1) 370 a=runF (C n) bL a:=rfl
theorem cX (n:O)(a:U W):C (n+1) 371 a=runF (C n) aY a:=rfl
theorem cN (n:O)(a:U W):C (n+1) 372 a=runF (C n) aV a:=rfl
theorem qV (n:O)(a:U W):C (n+1) 373 a=runF (C n) dY a:=rfl
theorem mQ (n:O)(a:U W):C (n+1) 374 a=runF (C n) dn a:=rfl
theorem gg (n:O)(a:U W):C (n+1) 428 a=runF (C n) bh a:=rfl
theorem mn (n:O)(a:U W):C (n+1) 429 a=runF (C n) cB a:=rfl
theorem Aj (n:O)(a:U W):C (n+1) 476 a=runF (C n) gK a:=rfl
theorem bc (n:O)(a:U W):C (n+1) 477 a=runF (C n) aS a:=rfl
theorem jM (n:O)(a:U W):C (n+1) 478 a=runF (C n) bY a:=rfl
theorem cw (n:O)(a:U W):C (n+1) 479 a=runF (C n) bu a:=rfl
theorem tP (n:O)(a:U W):C (n+1) 480 a=runF (C n) fE a:=rfl
theorem k8 (n:O)(a:U W):C (n+1) 481 a=runF (C n) cI a:=rfl
theorem mZ (n:O)(a:U W):C (n+1) 482 a=runF (C n) da a:=rfl
theorem kO (n:O)(a:U W):C (n+1) 483 a=runF (C n) cJ a:=rfl
theorem jP (n:O)(a:U W):C (n+1) 484 a=runF (C n) b6 a:=rfl
theorem lK (n:O)(a:U W):C (n+1) 485 a=runF (C n) cG a:=rfl
theorem kB (n:O)(a:U W):C (n+1) 486 a=lsV n a:=rfl
theorem jQ (n:O)(a:U W):C (n+1) 487 a=runF (C n) bX a:=rfl
theorem lC (n:O)(a:U W):C (n+1) 488 a=runF (C n) aZ a:=rfl
theorem qeq (a b:Q4):(q a==q b)=(a==b):=by
 by_cases h:a=b
 .subst h;simp
 .have e:q a≠q b:=fun z=>h (by
   have:=Q8 (λs:Str=>s.cps.toList) z;rw[q,Str.ofString_eq_toList,Str.ofString_eq_toList] at this;simp only at this
   have g:a.toList=b.toList:=by
    have inj:∀l1 l2:U Char,l1.map N0=l2.map N0->l1=l2:=by
     intro l1;induction l1 with
     |nil=>intro l2 h;cases l2 with
      |nil=>rfl
      |cons=>cases h
     | cons c cs i=>intro l2 h; cases l2 with
      |nil=>cases h
      |cons d ds=>
       rw[Ln,Ln] at h;injection h with f e
       rw[i ds e,Char.toNat_inj.mp f]
    exact inj _ _<|by simpa using this
   exact String.toList_inj.mp g)
  rw[beq_eq_false_iff_ne.mpr e,beq_eq_false_iff_ne.mpr h]
abbrev sp:Str:=q " "
theorem oJ:sp=⟨#[32]⟩:=by decide +kernel
theorem a8 (x y:Str):(x++y).cps.toList=x.cps.toList++y.cps.toList:=QM
theorem Aa {x y:Str}(h:x.cps.toList=y.cps.toList):x=y:=by cases x;cases y;exact Q8 Str.mk<|N6.mp h
theorem jf (a b d:Str):a++(b++d)=(a++b)++d:=by cases a;cases b;cases d;exact Q8 Str.mk (QJ).symm
theorem iu (s:Str):∀(b a:U Str),b≠[]->a≠[]->Str.join s (b++a)=Str.join s b++s++Str.join s a
|[],_,h,_=>QW rfl h
|_::_,[],_,h=>QW rfl h
|[x],y::a,_,_=>rfl
|x::c::b,y::a,_,d=>by have e:=iu s (c::b) (y::a) (MU _ _) d;show x++s++Str.join s ((c::b)++(y::a))=(x++s++Str.join s (c::b))++s++Str.join s (y::a);rw[e,jf,jf]
theorem fW (s:Str):∀(c:U<|U Str),(∀l∈c,l≠[])->∀d,Str.join s (c.map (Str.join s)++d)=Str.join s (c.flatten++d)
|[],_,d=>rfl
| l::c,h,d=>by
 have k:=h l Lg;have p:=fW s c (λm n=>h m<|Lr _ n) d;rw[Ln,Nm,Lz,Nl];by_cases e:c.flatten++d=[]
 .have i:c=[]:=by
   cases c with
   |nil=>rfl
   |cons m c=>rw[Nm,Lz] at e;exact QW (Qw.mp e).1<|h m<|Lr _ Lg
  subst i;have j:d=[]:=e;subst j;show Str.join s l=Str.join s (l++[]);rw[LK]
 .have g:c.map (Str.join s)++d≠[]:=by intro z;obtain⟨a,b⟩:=Qw.mp z;rw[QL.mp a,b] at e;exact e rfl
  rw[iu s l _ k e,<- p]
  have:∀f:U Str,f≠[]->Str.join s (Str.join s l::f)=Str.join s l++s++Str.join s f:=λf o=>by
   cases f with
   |nil=>exact QW rfl o
   |cons z f=>rfl
  exact this _ g
structure Gw (x:Str):Prop where
 sz:x.cps.size<=20
 cp:∀c∈x.cps.toList,c<0x110000
 fr:32 ∉ x.cps.toList
theorem eU (s:Q4)(d:s.length<=20)(f:32 ∉ s.toList.map N0):Gw (q s):=by
 have e:(q s).cps.toList=s.toList.map N0:=by rw[q,Str.ofString_eq_toList]
 refine⟨?_,λc b=>?_,by rw[e];exact f⟩
 .rw[<- Mp,e,K9,Qu];exact d
 .rw [e] at b;obtain⟨ch,_,rfl⟩:=LR.mp b;have a:=ch.valid;rcases a with a|a
  .exact NL a (by decide)
  .exact a.2
theorem uV {x:Str}(a:∀c∈x.cps.toList,c<0x110000)(b:x.cps.size<=LIM):sOk x=true:=by unfold sOk;rw[Li];refine⟨?_,QV b⟩;rw[OH];intro c d;exact QV<|a c<|by simpa using d
theorem E9 {x:Str}(h:Gw x):sOk x=true:=uV h.cp<|Lf h.sz<|by show 20<=16777215;decide
theorem oH:∀{b:U Str},(∀x∈b,∀c∈x.cps.toList,c<0x110000)->∀c∈(Str.join sp b).cps.toList,c<0x110000
|[],_,c,a=>by cases a
|[x],h,c,a=>h x Lg c a
| x::y::r,h,c,a=>by
 have e:(Str.join sp (x::y::r)).cps.toList=x.cps.toList++sp.cps.toList++(Str.join sp (y::r)).cps.toList:=by show(x++sp++Str.join sp (y::r)).cps.toList=_;rw[a8,a8]
 rw[e] at a;rcases LL.mp a with a|a
 .rcases LL.mp a with a | a
  .exact h x Lg c a
  .rw [oJ] at a;rw[Lv.mp a];decide
 .exact oH (λz d=>h z<|Lr _ d) c a
theorem kH:∀{ws:U Str},(∀x∈ws,Gw x)->(Str.join sp ws).cps.size<=21 * ws.length
|[],_=>La _
|[x],h=>Lf (h x Lg).sz<|by show 20<=21;decide
| x::y::r,h=>by
 have c:=kH (ws:=y::r) λz a=>h z<|Lr _ a;have b:=(h x Lg).sz;have e:(Str.join sp (x::y::r)).cps.size=x.cps.size+1+(Str.join sp (y::r)).cps.size:=by rw[<- Mp,<- Mp,<- Mp];show(x++sp++Str.join sp (y::r)).cps.toList.length=_;rw[a8,a8,K8,K8,oJ];rfl
 rw[e,Lk];lia
theorem jJ (c:O):∀(x b y:U O),c ∉ x->spl c b (x++y)=spl c (b++x) y
|[],b,y,_=>by rw[LK];rfl
|a::x,b,y,h=>by have d:a≠c:=λz=>h<|z ▸ Lg;show spl c b (a::(x++y))=_;rw[spl,Q0 d,jJ c x (b++[a]) y λz=>h<|Lr _ z,Lz];rfl
theorem df:∀{ws:U Str},ws≠[]->(∀x∈ws,Gw x)->spl 32 [] (Str.join sp ws).cps.toList=ws.map λx=>x.cps.toList
|[],h,_=>QW rfl h
|[x],_,h=>by have:=jJ 32 x.cps.toList [] [] (h x Lg).fr;rw[LK] at this;exact this
| x::y::r,_,h=>by
 have b:=df (ws:=y::r) (MU _ _) λz a=>h z<|Lr _ a;have e:(Str.join sp (x::y::r)).cps.toList=x.cps.toList++32::(Str.join sp (y::r)).cps.toList:=by show(x++sp++Str.join sp (y::r)).cps.toList=_;rw[a8,a8,oJ,Lz];rfl
 rw[e,jJ 32 _ _ _ (h x Lg).fr,LX,spl,QY rfl,b];rfl
theorem qB {a:U Str}(b:a≠[])(h:∀x∈a,Gw x):splS (Str.join sp a)=a:=by
 unfold splS;rw[df b h,Me]
 conv=>rhs;rw[<- Qk a]
 exact OB λx _=>Aa rfl
theorem eZ:∀a:U Str,strsOf (a.map T.str)=Y a
|[]=>rfl
|x::a=>by show(strsOf<|a.map T.str).map (x::·)=_;rw[eZ a];rfl
theorem qO {b:Type}(a:b)(r:U b):cut (a::r) (Y 1) J=r:=by
 have e:sIx (a::r).length 0 (Y 1)=1:=by show(if(1:I)<0 then((1:I)+((a::r).length:I)).toNat else min (1:I).toNat (a::r).length)=1;rw[Q0<|by decide,Lk];show min 1 (r.length+1)=1;lia
 have e2:sIx (a::r).length (a::r).length J=(a::r).length:=rfl;rw[cut,e,e2];exact OD<|by rw[NI];lia
theorem Kf {c:Type}(a b:c)(r:U c):cut (a::b::r) (Y 2) J=r:=by
 have e:sIx (a::b::r).length 0 (Y 2)=2:=by show(if(2:I)<0 then((2:I)+((a::b::r).length:I)).toNat else min (2:I).toNat (a::b::r).length)=2;rw[Q0<|by decide,Lk,Lk];show min 2 (r.length+1+1)=2;lia
 have e2:sIx (a::b::r).length (a::b::r).length J=(a::b::r).length:=rfl;rw[cut,e,e2];exact OD<|by rw[NI];lia
theorem eV (h:QT)(m n:Md)(a:U T)(i:I):oSem .sl1 h [(m,.tup a),(n,.int i)]=Y (.s,.tup<|cut a (Y i) J):=rfl
theorem uM (n:O)(s:Str)(m:Md):C (n+1) 175 [(m,.str s)]=.ok ((.d,.int<|if keys_AHEAD_trees.contains s then 2 else 1),[]):=by
 rw[hU,x_run _ _ _ rfl];cases h:keys_AHEAD_trees.contains s with
 |true=>simp_all only[a4,h,M5]
 |false=>simp_all only[a4,h,M5]
inductive Kd where|num|truth|pair (a b:Kd)|row (a:Kd)
def Kd.th:Kd->T
|.num=>.tup [.str<|q "num"]
|.truth=>.tup [.str<|q "truth"]
|.pair a b=>.tup [.str<|q "pair",a.th,b.th]
|.row a=>.tup [.str<|q "row",a.th]
def Kd.deep:Kd->O
|.num=>0 | .truth=>0 | .pair a b=>max a.deep b.deep+1 | .row a=>a.deep+1
def Kd.hd:Kd->Str
|.num=>q "num" |.truth=>q "truth" |.pair _ _=>q "pair" |.row _=>q "row"
def Kd.ps:Kd->U Kd
|.num=>[] | .truth=>[] | .pair a b=>[a,b] | .row a=>[a]
theorem GO:∀k:Kd,k.th=.tup (.str k.hd::k.ps.map Kd.th)
|.num=>rfl
|.truth=>rfl
|.pair _ _=>rfl
|.row _=>rfl
def kw:Kd->U Str
|.num=>[q "num"] | .truth=>[q "truth"] | .pair a b=>q "pair"::(kw a++kw b) | .row a=>q "row"::kw a
theorem aA:∀k:Kd,eqT k.th k.th=K1
|.num=>by show(q "num"==q "num"&&K1)=K1;rw[Q2];rfl
|.truth=>by show(q "truth"==q "truth"&&K1)=K1;rw[Q2];rfl
|.pair a b=>by show(q "pair"==q "pair"&&(eqT a.th a.th&&(eqT b.th b.th&&K1)))=K1;rw[Q2,aA a,aA b];rfl
|.row a=>by show(q "row"==q "row"&&(eqT a.th a.th&&K1))=K1;rw[Q2,aA a];rfl
theorem oa:∀k:Kd,dp k.th<=k.deep+1
|.num=>La _
|.truth=>La _
|.pair a b=>by have:=oa a;have:=oa b;show max 0 (max (dp a.th)<|max (dp b.th) 0)+1<=max a.deep b.deep+1+1;lia
|.row a=>by have:=oa a;show max 0 (max (dp a.th) 0)+1<=a.deep+1+1;lia
theorem cP {a b:Q4}{c d:U T}:eqT (.tup (.str (q a)::c)) (.tup (.str (q b)::d))=((a==b)&&eqTs c d):=by show(q a==q b&&eqTs c d)=_;rw[qeq]
theorem eq1 (a b:T):eqTs [a] [b]=(eqT a b&&K1):=rfl
theorem eq2 (a b c d:T):eqTs [a,b] [c,d]=(eqT a c&&(eqT b d&&K1)):=rfl
theorem kL:∀{a b:Kd},eqT a.th b.th=K1->a=b
|.num,.num,_=>rfl
|.truth,.truth,_=>rfl
|.pair a b,.pair c d,h=>by rw[Kd.th,Kd.th,cP,eq2,Li,Li,Li] at h;rw[kL h.2.1,kL h.2.2.1]
|.row a,.row c,h=>by rw[Kd.th,Kd.th,cP,eq1,Li,Li] at h;rw[kL h.2.1]
|.num,.truth,h=>by rw[Kd.th,Kd.th,cP] at h;cases h
|.num,.pair _ _,h=>by rw[Kd.th,Kd.th,cP] at h;cases h
|.num,.row _,h=>by rw[Kd.th,Kd.th,cP] at h;cases h
|.truth,.num,h=>by rw[Kd.th,Kd.th,cP] at h;cases h
|.truth,.pair _ _,h=>by rw[Kd.th,Kd.th,cP] at h;cases h
|.truth,.row _,h=>by rw[Kd.th,Kd.th,cP] at h;cases h
|.pair _ _,.num,h=>by rw[Kd.th,Kd.th,cP] at h;cases h
|.pair _ _,.truth,h=>by rw[Kd.th,Kd.th,cP] at h;cases h
|.pair _ _,.row _,h=>by rw[Kd.th,Kd.th,cP] at h;cases h
|.row _,.num,h=>by rw[Kd.th,Kd.th,cP] at h;cases h
|.row _,.truth,h=>by rw[Kd.th,Kd.th,cP] at h;cases h
|.row _,.pair _ _,h=>by rw[Kd.th,Kd.th,cP] at h;cases h
theorem au (k:Kd):look (.s,k.th)=Y (.s,k.th):=rfl
theorem aN (m:Md):∀k:Kd,lf m k.th=m
|.num=>rfl
|.truth=>rfl
|.pair _ _=>rfl
|.row _=>rfl
theorem nF (h:QT)(m n:Md)(a b:T)(c:dp a<=64)(e:dp b<=64):oSem .eq h [(m,a),(n,b)]=Y (.d,.bl<|eqT a b):=by show(if(decide (dp a<=64)&&decide (dp b<=64))=K1 then _ else J)=_;rw[QV c,QV e];rfl
theorem u6 (h:QT)(m n:Md)(a b:T)(c:dp a<=64)(e:dp b<=64):oSem .ne h [(m,a),(n,b)]=Y (.d,.bl<|!eqT a b):=by show(if(decide (dp a<=64)&&decide (dp b<=64))=K1 then _ else J)=_;rw[QV c,QV e];rfl
abbrev sT (a:U Str):T:=.lst<|a.map T.str
theorem hV:∀k:Kd,kw k≠[]
|.num=>by simp[kw]
|.truth=>by simp[kw]
|.pair _ _=>by simp[kw]
|.row _=>by simp[kw]
theorem dq:∀k:Kd,∀x∈kw k,Gw x
|.num,x,h=>by rw[Lv.mp h];exact eU _ (by decide)<|by decide
|.truth,x,h=>by rw[Lv.mp h];exact eU _ (by decide)<|by decide
| .pair a b,x,h=>by
 rcases Lm.mp h with h|h
 .rw[h];exact eU _ (by decide)<|by decide
 .rcases LL.mp h with h | h
  .exact dq a x h
  .exact dq b x h
|.row a,x,h=>by
 rcases Lm.mp h with h|h
 .rw[h];exact eU _ (by decide)<|by decide
 .exact dq a x h
theorem j9:∀k:Kd,(kw k).length+1<=2 ^ (k.deep+1)
|.num=>by decide
|.truth=>by decide
|.pair a b=>by have c:=j9 a;have d:=j9 b;have e:2 ^ (a.deep+1)<=2 ^ (max a.deep b.deep+1):=O5 (by decide) (by lia);have f:2 ^ (b.deep+1)<=2 ^ (max a.deep b.deep+1):=O5 (by decide) (by lia);show(kw a++kw b).length+1+1<=2 ^ (max a.deep b.deep+1+1);rw[K8,ON];lia
|.row a=>by have c:=j9 a;show(kw a).length+1+1<=2 ^ (a.deep+1+1);rw[ON];lia
theorem yF {k:Kd}(h:k.deep<=4):(kw k).length<=31:=by have a:=j9 k;have b:2 ^ (k.deep+1)<=2 ^ 5:=O5 (by decide) (by lia);lia
theorem fM {a:U Str}(h:∀x∈a,Gw x)(b:a.length<=1000):sOk (Str.join sp a)=true:=uV (oH λx hx=>(h x hx).cp) (by
 have:=kH h;show _<=16777215;lia)
theorem vD:∀{ws:U Str} {b:O},(∀x∈ws,x.cps.size<=b)->(ws.map λs=>s.cps.size+sp.cps.size).sum<=ws.length * (b+1)
|[],_,_=>LH _
|x::ws,b,h=>by
 have c:=vD (ws:=ws) (b:=b) λy a=>h y<|Lr _ a;have:=h x Lg;have e:sp.cps.size=1:=by rw[oJ];rfl
 rw[Ln,P5,Lk,Nat.add_mul,Nat.one_mul,e];rw[e] at c;lia
theorem lP {k:Kd}(h:k.deep<=4):(Str.join sp<|kw k).cps.size<=651:=by have a:=kH<|dq k;have b:=yF h;lia
theorem uj {xs:U Str}(h:∀x∈xs,x.cps.size<=700)(a:xs.length<=10):decide ((xs.map λs=>s.cps.size+sp.cps.size).sum<=LIM)=true:=QV (by
 have:=vD h;have b:xs.length * (700+1)<=10 * 701:=Nat.mul_le_mul a<|La _;show _<=16777215;lia)
theorem jn1 (a:Str)(k:Kd):Str.join sp [a,Str.join sp<|kw k]=Str.join sp (a::kw k):=by
 have:=fW sp [kw k] (λl c=>by rw[Lv.mp c];exact hV k) [];rw[LK,LK] at this
 have e:∀b:U Str,b≠[]->Str.join sp (a::b)=a++sp++Str.join sp b:=λb hx=>by
  cases b with
  |nil=>exact QW rfl hx
  |cons=>rfl
 rw[e _<|by simp,e _<|hV k];rfl
theorem jn2 (a:Str)(k l:Kd):Str.join sp [a,Str.join sp<|kw k,Str.join sp<|kw l]=Str.join sp (a::(kw k++kw l)):=by
 have e:∀b:U Str,b≠[]->Str.join sp (a::b)=a++sp++Str.join sp b:=λb hx=>by
  cases b with
  |nil=>exact QW rfl hx
  |cons=>rfl
 rw[e _<|by simp,e _<|by simp[hV k],iu sp _ _ (hV k)<|hV l];rfl
theorem pO:∀(k:Kd) (n:O) (m:Md),k.deep<=4->C (n+k.deep+1) 364 [(m,k.th)]=.ok ((.d,.str<|Str.join sp<|kw k),[])
|.num,n,m,_=>by
 rw[ck,x_run _ _ _ rfl];have c:=uj (xs:=[q "num"]) (λx hx=>Lf (dq .num x hx).sz<|by decide) (by decide);have e:sOk (Str.join sp [q "num"])=true:=fM (dq .num) (by decide);have f:fits ([T.str (q "num")].length+([]:U T).length)=true:=by decide
 simp only[Ln,Ma] at c;simp_all only[aX,Kd.th,eV,qO,ba,QY f,strsOf,c,e,show kw .num=[q "num"] from rfl]
|.truth,n,m,_=>by
 rw[ck,x_run _ _ _ rfl];have c:=uj (xs:=[q "truth"]) (λx hx=>Lf (dq .truth x hx).sz<|by decide) (by decide);have e:sOk (Str.join sp [q "truth"])=true:=fM (dq .truth) (by decide);have f:fits ([T.str (q "truth")].length+([]:U T).length)=true:=by decide
 simp only[Ln,Ma] at c;simp_all only[aX,Kd.th,eV,qO,ba,QY f,strsOf,c,e,show kw .truth=[q "truth"] from rfl]
| .row a,n,m,h=>by
 have l:a.deep+1<=4:=h;rw[show n+(Kd.row a).deep+1=(n+a.deep+1)+1 from rfl,ck,x_run _ _ _ rfl];have o:=λm=>pO a n m<|by lia
 have c:=uj (xs:=[q "row",Str.join sp<|kw a]) (λx hx=>by
  rcases Lm.mp hx with hx|hx
  .rw[hx];exact Lf (eU "row" (by decide)<|by decide).sz<|by decide
  .rw[Lv.mp hx];exact Lf (lP<|by lia)<|by decide)<|by simp
 have j:=fM (dq<|.row a) (Lf (yF h)<|by decide);have e2:Str.join sp [q "row",Str.join sp (kw a)]=Str.join sp (kw (.row a)):=jn1 _ _;have f:fits ([T.str (q "row")].length+[T.str (Str.join sp (kw a))].length)=true:=rfl;simp only[Ln,Ma] at c;simp_all only[aX,Kd.th,eV,qO,ba,QY f,strsOf,c,j,e2,au,o,P1]
| .pair a b,n,m,h=>by
 have l:max a.deep b.deep+1<=4:=h;rw[show n+(Kd.pair a b).deep+1=(n+max a.deep b.deep+1)+1 from rfl,ck,x_run _ _ _ rfl];have g:=λm=>pO a (n+max a.deep b.deep-a.deep) m (by lia);have i:=λm=>pO b (n+max a.deep b.deep-b.deep) m (by lia);rw[show n+max a.deep b.deep-a.deep+a.deep=n+max a.deep b.deep by lia] at g;rw[show n+max a.deep b.deep-b.deep+b.deep=n+max a.deep b.deep by lia] at i
 have c:=uj (xs:=[q "pair",Str.join sp<|kw a,Str.join sp<|kw b]) (λx hx=>by
  rcases Lm.mp hx with hx|hx
  .rw[hx];exact Lf (eU "pair" (by decide)<|by decide).sz<|by decide
  .rcases Lm.mp hx with hx | hx
   .rw[hx];exact Lf (lP<|by lia)<|by decide
   .rw[Lv.mp hx];exact Lf (lP<|by lia)<|by decide)<|by simp
 have j:=fM (dq<|.pair a b) (Lf (yF h)<|by decide);have e2:Str.join sp [q "pair",Str.join sp (kw a),Str.join sp (kw b)]=Str.join sp (kw (.pair a b)):=jn2 _ _ _;have f:fits ([T.str (q "pair")].length+[T.str (Str.join sp (kw a)),T.str (Str.join sp (kw b))].length)=true:=rfl;simp only[Ln,Ma] at c;simp_all only[aX,Kd.th,eV,qO,ba,QY f,strsOf,c,j,e2,au,g,i,P1]
theorem bp (a:U O)(f:Env->Fl)(x:U W)(r:U<|U W)(b:Env):dP a f (x::r) b=Fl.of b (ofO<|bf a x b) λc=>Fl.turn (f c) (dP a f r):=rfl
theorem cV (b:U O)(f:Env->Fl)(a:Env):dP b f [] a=.nx a:=rfl
theorem kw0:keys_WITHIN.contains (q "num")=K1/\tab_WITHIN.lookup (q "num")=Y (.int 0):=by simp[keys_WITHIN,tab_WITHIN,qeq,Le]
theorem kw1:keys_WITHIN.contains (q "truth")=K1/\tab_WITHIN.lookup (q "truth")=Y (.int 0):=by simp[keys_WITHIN,tab_WITHIN,qeq,Le]
theorem kw2:keys_WITHIN.contains (q "pair")=K1/\tab_WITHIN.lookup (q "pair")=Y (.int 2):=by simp[keys_WITHIN,tab_WITHIN,qeq,Le]
theorem kw3:keys_WITHIN.contains (q "row")=K1/\tab_WITHIN.lookup (q "row")=Y (.int 1):=by simp[keys_WITHIN,tab_WITHIN,qeq,Le]
theorem bt:(K1 != K1)=false:=rfl
theorem r0:Lx (0:I).toNat=[]:=rfl
theorem r1:Lx (1:I).toNat=[0]:=rfl
theorem r2:Lx (2:I).toNat=[0,1]:=rfl
theorem z0:(decide (OR 0<4611686018427387904)&&fits (OU 0))=true:=rfl
theorem z1:(decide (OR 1<4611686018427387904)&&fits (OU 1))=true:=rfl
theorem z2:(decide (OR 2<4611686018427387904)&&fits (OU 2))=true:=rfl
theorem gr {b r:U Str}{w:Str}{a:O}(h:b.drop a=w::r):a<b.length/\b.drop (a+1)=r/\atI (b.map T.str) (a:I)=Y (.str w):=by
 have c:a<b.length:=by have:=Q8 NW h;rw[NI,Lk] at this;lia
 refine⟨c,by rw[<- O9,h];rfl,atN rfl ?_⟩;have:b[a]?=Y w:=by rw[<- List.head?_drop,h];rfl
 rw[LQ,this];rfl
theorem tkP:∀(k:Kd) (d n:O) (b r:U Str) (a:O) (m c e:Md),k.deep<d->b.drop a=kw k++r->C (n+d+1) 367 [(m,sT b),(c,.int (a:O)),(e,.int (d:O))]=.ok ((.o<|.o .s,.tup [k.th,.int ((a+(kw k).length:O):I)]),[])
|_,0,_,_,_,_,_,_,_,h,_=>QW h<|by lia
|.num,d+1,n,b,r,a,m,c,e,_,p=>by rw[show n+(d+1)+1=(n+d+1)+1 from rfl,aW,x_run _ _ _ rfl];obtain⟨u,f,i⟩:=gr (w:=q "num") (r:=r) p;have g:decide (((b.map T.str).length:I)<=(a:I))=false:=Q7 (by rw[K9];lia);unfold sT;simp_all only[ay,g,i,kw0.1,kw0.2,bt,z0,r0,cV,Ou,Ry,Rr];rfl
|.truth,d+1,n,b,r,a,m,c,e,_,p=>by rw[show n+(d+1)+1=(n+d+1)+1 from rfl,aW,x_run _ _ _ rfl];obtain⟨u,f,i⟩:=gr (w:=q "truth") (r:=r) p;have g:decide (((b.map T.str).length:I)<=(a:I))=false:=Q7 (by rw[K9];lia);unfold sT;simp_all only[ay,g,i,kw1.1,kw1.2,bt,z0,r0,cV,Ou,Ry,Rr];rfl
|.row k,d+1,n,b,r,a,m,c,e,h,p=>by
 have F:k.deep+1<d+1:=h;rw[show n+(d+1)+1=(n+d+1)+1 from rfl,aW,x_run _ _ _ rfl];obtain⟨u,f,i⟩:=gr (w:=q "row") (r:=kw k++r) p;have g:decide (((b.map T.str).length:I)<=(a:I))=false:=Q7 (by rw[K9];lia);have e2:(((d+1:O):I)==1)=false:=by rw[beq_eq_false_iff_ne];lia
 have D:((d+1:O):I)-1=(d:I):=by lia
 have y:∀m c e,C (n+d+1) 367 [(m,.lst (b.map T.str)),(c,.int ((a:I)+1)),(e,.int (d:O))]=.ok ((.o (.o .s),.tup [k.th,.int ((a+1+(kw k).length:O):I)]),[]):=λm c e=>tkP k d n b r (a+1) m c e (by lia) f;have t:[T.str (q "row")].length<LIM:=by decide
 have j:a+(kw (.row k)).length=a+1+(kw k).length:=by show a+((kw k).length+1)=_;lia
 rw[j];unfold sT;simp_all only[ay,g,i,kw3.1,kw3.2,bt,z1,r1,bp,cV,Ou,Ry,Rr,e2,D,y,QY t,Kd.th,aN]
|.pair k l,d+1,n,b,r,a,m,c,e,h,p=>by
 have F:max k.deep l.deep+1<d+1:=h;rw[show n+(d+1)+1=(n+d+1)+1 from rfl,aW,x_run _ _ _ rfl];have v:b.drop a=q "pair"::(kw k++(kw l++r)):=by rw[p];show q "pair"::(kw k++kw l)++r=_;rw[Nl,Lz]
 obtain⟨u,f,i⟩:=gr (w:=q "pair") (r:=kw k++(kw l++r)) v;have g:decide (((b.map T.str).length:I)<=(a:I))=false:=Q7 (by rw[K9];lia);have e2:(((d+1:O):I)==1)=false:=by rw[beq_eq_false_iff_ne];lia
 have D:((d+1:O):I)-1=(d:I):=by lia
 have y:∀m c e,C (n+d+1) 367 [(m,.lst (b.map T.str)),(c,.int ((a:I)+1)),(e,.int (d:O))]=.ok ((.o (.o .s),.tup [k.th,.int ((a+1+(kw k).length:O):I)]),[]):=λm c e=>tkP k d n b _ (a+1) m c e (by lia) f;have x:b.drop (a+1+(kw k).length)=kw l++r:=by rw[<- O9,f,List.drop_left]
 have z:∀m c e,C (n+d+1) 367 [(m,.lst (b.map T.str)),(c,.int ((a+1+(kw k).length:O):I)),(e,.int (d:O))]=.ok ((.o (.o .s),.tup [l.th,.int ((a+1+(kw k).length+(kw l).length:O):I)]),[]):=λm c e=>tkP l d n b r _ m c e (by lia) x;have t:[T.str (q "pair")].length<LIM:=by decide
 have A:[T.str (q "pair"),k.th].length<LIM:=by show 2<16777215;decide
 have j:a+(kw (.pair k l)).length=a+1+(kw k).length+(kw l).length:=by show a+((kw k++kw l).length+1)=_;rw[K8];lia
 rw[j];unfold sT;simp_all only[ay,g,i,kw2.1,kw2.2,bt,z2,r2,bp,cV,Ou,Ry,Rr,e2,D,y,z,QY t,QY A,Kd.th,aN]
theorem Hh (k:Kd)(n:O)(m:Md)(h:k.deep<=4):C (n+8) 365 [(m,.str<|Str.join sp<|kw k)]=.ok ((.o .s,k.th),[]):=by
 rw[show n+8=(n+7)+1 from rfl,kJ,x_run _ _ _ rfl];have e1:splS (Str.join sp (kw k))=kw k:=qB (hV k)<|dq k;have sz:=lP h;have c:decide ((Str.join sp (kw k)).cps.size+2<=LIM)=true:=QV (by show _<=16777215;lia);have d:(kw k).all sOk=true:=MV.mpr λx hx=>E9<|dq k x hx;have f:(q " "==Str.ofString " ")=true:=Q2 _
 have e:∀m a,C (n+7) 366 [(m,.lst ((kw k).map T.str)),(a,.int 0)]=.ok ((.o (.o .s),.tup [k.th,.int ((kw k).length:O)]),[]):=λm a=>by
  rw[show n+7=(n+6)+1 from rfl,jW,x_run _ _ _ rfl];have e:∀m a b,C (n+6) 367 [(m,.lst ((kw k).map T.str)),(a,.int 0),(b,.int 5)]=.ok ((.o (.o .s),.tup [k.th,.int ((kw k).length:O)]),[]):=λm a b=>by have:=tkP k 5 n (kw k) [] 0 m a b (by lia) (by rw[LK];rfl);rw[NK] at this;exact this
  simp_all only[b0,e]
 have g:decide (((kw k).length:I)<(((kw k).map T.str).length:O))=false:=Q7 (by rw[K9];lia);simp_all only[b5,c,d,f,e1,e,g]
abbrev EV:=U<|Str×Kd
noncomputable abbrev dK (e:EV):U (I ⊕ Str):=e.map λp=>.inr p.1
abbrev dV (e:EV):U T:=e.map λp=>p.2.th
abbrev dE (e:EV):T:=.dct (dK e)<|dV e
theorem f9 (x:Str):∀e:EV,lookD (.inr x) (dK e) (dV e)=(e.lookup x).map Kd.th
|[]=>rfl
| (y,k)::e=>by
 show(if(LP y:I ⊕ Str)=.inr x then Y k.th else lookD (.inr x) (dK e)<|dV e)=_;rw[f9 x e,Mo];by_cases h:y=x
 .subst h;rw[QY rfl,Q2];rfl
 .rw[Q0 λz=>h<|OM z,beq_eq_false_iff_ne.mpr<|LF h]
theorem qJ (x:Str)(k:Kd):∀e:EV,e.lookup x=J->putT (.inr x) k.th (dK e) (dV e)=(dK<|e++[(x,k)],dV<|e++[(x,k)])
|[],_=>rfl
| (y,l)::e,h=>by
 rw[Mo] at h;by_cases a:x=y
 .subst a;rw[Q2] at h;cases h
 .rw [beq_eq_false_iff_ne.mpr a] at h;have b:=qJ x k e h;show(if(LP y:I ⊕ Str)=.inr x then _ else _)=_;rw[Q0 λz=>a (OM z).symm];show(_::(putT (.inr x) k.th (dK e)<|dV e).1,_::(putT (.inr x) k.th (dK e)<|dV e).2)=_;rw[b];rfl
def bF (w:Str):QT:=w==q "K" || w==q "L"
def fit:U Str->U Kd->EV->B EV
|[],_,a=>Y a
|_::_,[],_=>J
| w::c,k::b,a=>bif bF w then (match a.lookup w with
  |some u=>bif eqT u.th k.th then fit c b a else J
  |none=>fit c b<|a++[(w,k)]) else bif w==k.hd then fit c (k.ps++b) a else J
abbrev FB:U S:=[.asg (.l []) 5<|.pop 3 [.cst<|.int 0],
   .ite (.q [4] []) (.op .isin K0 [.var 4,.tup [.cst (.str (q "K")),.cst (.str (q "L"))]]) [
    .ite (.l [5]) (.op .ne K0 [.sdf 2 4 5,.var 5]) [
     .ret [] (.cst<|.non)] []] [
    .ite (.q [4,5] []) (.op .eq K0 [.var 4,.op .ix K0 [.var 5,.cst (.int 0)]]) [
     .asg (.q [3,5] []) 3 (.op .add K0 [.op .list K0 [.op .sl1 K0 [.var 5,.cst<|.int 1]],.var 3])] [
     .ret [] (.cst<|.non)]]]
theorem D7 (t:T)(a:U T)(m:Md):k7 (.o .s,.lst (t::a)) [(m,.int 0)]=Y ((.s,t),(.o .s,.lst a)):=rfl
theorem KA {a:Md}(b:a≠.s){e:EV}(f:e.length<=100){w:Str}{u:Kd}(h:e.lookup w=Y u)(c:Md)(t:T):sdfT (Y (a,dE e)) (Y (c,.str w)) (Y (.s,t))=Y ((.s,u.th),(a,dE e)):=by
 have e1:decide ((dK e).length<LIM)=true:=QV (by rw[K9];show _<16777215;lia);cases a with
 |s=>exact QW rfl b
 |d=>show(if decide ((dK e).length<LIM)=K1 then Y (match lookD (.inr w) (dK e) (dV e) with|some u=>_|none=>_) else J)=_;rw[QY e1,f9,h];rfl
 |o m=>show(if decide ((dK e).length<LIM)=K1 then Y (match lookD (.inr w) (dK e) (dV e) with|some u=>_|none=>_) else J)=_;rw[QY e1,f9,h];rfl
theorem Jv {a:Md}(b:a≠.s){e:EV}(f:e.length<=100){w:Str}(h:e.lookup w=J)(c:Md)(k:Kd):sdfT (Y (a,dE e)) (Y (c,.str w)) (Y (.s,k.th))=Y ((.s,k.th),(.o .s,dE<|e++[(w,k)])):=by
 have e1:decide ((dK e).length<LIM)=true:=QV (by rw[K9];show _<16777215;lia);cases a with
 |s=>exact QW rfl b
 |d=>show(if decide ((dK e).length<LIM)=K1 then Y (match lookD (.inr w) (dK e) (dV e) with|some u=>_|none=>_) else J)=_;rw[QY e1,f9,h,qJ w k e h];rfl
 |o m=>show(if decide ((dK e).length<LIM)=K1 then Y (match lookD (.inr w) (dK e) (dV e) with|some u=>_|none=>_) else J)=_;rw[QY e1,f9,h,qJ w k e h];rfl
theorem B6 (w:Str):(flatT (.str w)&&[T.str<|q "K",.str<|q "L"].all flatT)=true:=rfl
theorem uT (w:Str):([T.str<|q "K",.str<|q "L"].any λt=>eqT t<|.str w)=bF w:=by show(q "K"==w || (q "L"==w || false))=(w==q "K" || w==q "L");rw[Mq,Oi (a:=w),Oi (a:=w) (b:=q "L")]
theorem fD (n:O)(N P:B W):∀(v:U Str) (r:U Kd) (m d:EV) (x:Md) (H M:B W),fit v r m=Y d->x≠.s->m.length+v.length<=100->(∀k∈r,k.deep<=10)->r.length+v.length * 2<=100->(∀p∈m,p.2.deep<=10) ->
 ∃(g:U Kd) (f:Md) (i j:B W),f≠.s/\dP [4] (evSs (C n) FB) (v.map λw=>[(.s,.str w)]) [N,P,Y (x,dE m),Y (.o .s,.lst<|r.map Kd.th),H,M]=.nx [N,P,Y (f,dE d),Y (.o .s,.lst<|g.map Kd.th),i,j]
|[],r,m,d,x,H,M,h,F,_,_,_,_=>by cases h;exact⟨r,x,H,M,F,rfl⟩
|w::v,[],m,d,x,H,M,h,_,_,_,_,_=>by cases h
| w::v,k::r,m,d,x,H,M,h,F,c,hk,hl2,hf=>by
 rw[Ln,bp];have z:=hk k Lg;have A:=λl c=>hk l<|Lr _ c;have Q:dp k.th<=64:=by have:=oa k;lia
 rw[Lk] at c;rw[Lk,Lk] at hl2;rw[fit] at h;cases G:bF w with
 | true =>
  rw[G,cond_true] at h;cases Z:m.lookup w with
  | some u =>
   rw[Z] at h;simp only at h;cases y:eqT u.th k.th with
   |false=>rw[y] at h;cases h
   |true=>rw[y,cond_true] at h;have:=kL y;subst this;obtain⟨g,f,i,j,t,e⟩:=fD n N P v r m d x (Y (.s,.str w)) (Y (.s,u.th)) h F (by lia) A (by lia) hf;refine⟨g,f,i,j,t,?_⟩;rw[<- e];have s1:=KA F (e:=m) (by lia) Z .s u.th;simp_all only[D7,B6,uT,G,s1,au,u6 _ _ _ _ _ Q Q,aA,aN]
  | none =>
   rw[Z] at h;simp only at h
   obtain⟨g,f,i,j,t,e⟩:=fD n N P v r (m++[(w,k)]) d (.o .s) (Y (.s,.str w)) (Y (.s,k.th)) h (by decide) (by rw[K8,Mi];lia) A (by lia) (λp hp=>by
    rcases LL.mp hp with hp|hp
    .exact hf p hp
    .rw[Lv.mp hp];exact z)
   refine⟨g,f,i,j,t,?_⟩;rw[<- e];have s1:=Jv F (e:=m) (by lia) Z .s k;simp_all only[D7,B6,uT,G,s1,au,u6 _ _ _ _ _ Q Q,aA,aN]
 | false =>
  rw[G,cond_false] at h;cases y:w==k.hd with
  |false=>rw[y] at h;cases h
  | true =>
   rw[y,cond_true] at h
   have D:k.ps.length<=2/\∀l∈k.ps,l.deep<=10:=by
    cases k with
    |num=>exact⟨by decide,λl c=>nomatch c⟩
    |truth=>exact⟨by decide,λl c=>nomatch c⟩
    |pair a b=>
     have:max a.deep b.deep+1<=10:=z;refine⟨by show 2<=2;decide,λl c=>?_⟩;rcases Lm.mp c with c|c
     .rw[c];lia
     .rw[Lv.mp c];lia
    |row a=>have:a.deep+1<=10:=z;refine⟨by show 1<=2;decide,λl c=>?_⟩;rw[Lv.mp c];lia
   obtain⟨g,f,i,j,t,e⟩:=fD n N P v (k.ps++r) m d x (Y (.s,.str w)) (Y (.s,k.th)) h F (by lia) (λl c=>by
    rcases LL.mp c with c|c
    .exact D.2 l c
    .exact A l c) (by rw[K8];have:=D.1;lia) hf
   refine⟨g,f,i,j,t,?_⟩;rw[<- e];have f1:fits ((k.ps.map Kd.th).length+(r.map Kd.th).length)=true:=QV (by rw[K9,K9];have:=D.1;show _<=16777215;lia);rw[L9];simp_all only[D7,B6,uT,G,GO k,qO,eV,y,QY f1]
theorem jx (n:O)(c:Str)(a:U Str)(b:U Kd)(f:EV)(v:splS c=a)(h:(decide (c.cps.size+2<=LIM)&&a.all sOk)=K1)(u:fit a b []=Y f)(hk:∀k∈b,k.deep<=10)(z:b.length<=10)(A:a.length<=10)(m m':Md):∃j,j≠.s/\C (n+1) 373 [(m,.str c),(m',.lst<|b.map Kd.th)]=.ok ((j,dE f),[]):=by
 obtain⟨l,i,x,y,g,e⟩:=fD n (Y (.s,.str c)) (Y (.s,.lst<|b.map Kd.th)) a b [] f .d J J u (by decide) (by rw[MT];lia) hk (by lia) λp hp=>nomatch hp;refine⟨i,g,?_⟩;rw[qV,x_run _ _ _ rfl];have o:(q " "==Str.ofString " ")=true:=Q2 _;rw[Li] at h;have r:(a.map T.str).map (λt=>[((.s,t):W)])=a.map λw=>[(.s,.str w)]:=by rw[Me];rfl
 simp_all only[dY,o,v,h.1,h.2,r];rw[show T.dct [] []=dE [] from rfl,e];simp_all only[]
def sbs (a:EV):U Str->U Str
|[]=>[]
|w::b=>(match a.lookup w with|some k=>kw k|none=>[w])++sbs a b
def sb1 (a:EV)(w:Str):Str:=match a.lookup w with|some k=>Str.join sp (kw k)|none=>w
theorem sX (a:EV)(b:U Str):Str.join sp (b.map<|sb1 a)=Str.join sp (sbs a b):=by
 have c:b.map (sb1 a)=(b.map λw=>match a.lookup w with|some k=>kw k|none=>[w]).map (Str.join sp):=by rw[Me];refine OB λw _=>?_;show sb1 a w=Str.join sp (match a.lookup w with|some k=>kw k|none=>[w]);unfold sb1;cases a.lookup w<;>rfl
 have d:sbs a b=(b.map λw=>match a.lookup w with|some k=>kw k|none=>[w]).flatten:=by
  induction b with
  |nil=>rfl
  |cons w b f=>rw[sbs,Ln,Nm,f (by rw[Me];refine OB λw _=>?_;show sb1 a w=Str.join sp (match a.lookup w with|some k=>kw k|none=>[w]);unfold sb1;cases a.lookup w<;>rfl)]
 have:=fW sp (b.map λw=>match a.lookup w with|some k=>kw k|none=>[w]) (λl e=>by
  obtain⟨w,_,rfl⟩:=LR.mp e;show(match a.lookup w with|some k=>kw k|none=>[w])≠[];cases a.lookup w with
  |none=>exact MU _ _
  |some k=>exact hV k) []
 rw[LK,LK] at this;rw[c,d,this]
noncomputable def sbm (a:EV)(w:Str):Md:=match a.lookup w with|some _=>.d|none=>.s
theorem pK {b:Type}(m:b->Md)(g:b->T):∀a:U b,trees (a.map λx=>(m x,g x))=a.map g
|[]=>rfl
|x::a=>by show g x::trees (a.map λx=>(m x,g x))=_;rw[pK m g a];rfl
theorem ai (t:T):look (.s,t)=Y (.s,t):=rfl
theorem iP (n:O)(j:Str)(i:U Str)(c:EV)(K:Kd)(P:splS j=i)(y:(decide (j.cps.size+2<=LIM)&&i.all sOk)=K1)(N:∀w∈i,Gw w)(v:sbs c i=kw K)(z:K.deep<=4)(M:∀p∈c,p.2.deep<=4)(u:i.length<=10)(m m':Md):C (n+9) 374 [(m,.str j),(m',dE c)]=.ok ((.o .s,K.th),[]):=by
 rw[show n+9=(n+8)+1 from rfl,mQ,x_run _ _ _ rfl];have D:(q " "==Str.ofString " ")=true:=Q2 _;rw[Li] at y;have rk:=λm=>Hh K n m z;have Q:Str.join sp (i.map (sb1 c))=Str.join sp (kw K):=by rw[sX,v]
 have l:∀{w:Str} {k:Kd},c.lookup w=Y k->k.deep<=4:=λ{w k} h=>by obtain⟨a,b,e,_⟩:=List.lookup_eq_some_iff.mp h;exact M _<|by rw[e];exact Lw _ Lg
 have G:(i.map T.str).map (λt=>[((.s,t):W)])=i.map λw=>[(.s,.str w)]:=by rw[Me];rfl
 have F:=eE (tg:=[4]) (f:=fO<|evE (C<|n+8)<|.ifx (.op .inD K0 [.var 4,.var 1]) (.call 364 [.op .ixD K0 [.var 1,.var 4]])<|.var 4) (η:=[Y (.d,.str j),Y (.s,dE c),J,J,J]) (g:=λw:Str=>[((.s,.str w):W)]) (λw=>(sbm c w,.str<|sb1 c w)) i [] (λw u=>by
  refine⟨_,[Y (.d,.str j),Y (.s,dE c),J,J,Y (.s,.str w)],rfl,?_,rfl⟩;have A:keyT (.str w)=Y (.inr w):=rfl;cases h:c.lookup w with
  |none=>
   have l1:lookD (.inr w) (dK c) (dV c)=none:=by rw[f9,h];rfl
   have r:sbm c w=.s/\sb1 c w=w:=by unfold sbm sb1;rw[h];exact⟨rfl,rfl⟩
   rw[r.1,r.2];simp_all only[ai,A,l1,Option.isSome_none]
  | some k =>
   have l1:lookD (.inr w) (dK c) (dV c)=Y k.th:=by rw[f9,h];rfl
   have r:sbm c w=.d/\sb1 c w=Str.join sp (kw k):=by unfold sbm sb1;rw[h];exact⟨rfl,rfl⟩
   rw[r.1,r.2];have Z:C (n+8) 364 [(.s,k.th)]=.ok ((.d,.str (Str.join sp (kw k))),[]):=by have H:=l h;have:=pO k (n+7-k.deep) .s H;rw[show n+7-k.deep+k.deep+1=n+8 by lia] at this;exact this
   simp_all only[ai,A,l1,QG,Z])
 have so:sOk (Str.join sp (kw K))=true:=fM (dq K) (Lf (yF z)<|by decide);have tr:trees (i.map λw=>((sbm c w,.str (sb1 c w)):W))=(i.map (sb1 c)).map T.str:=by rw[pK,Me];rfl
 have sm:=uj (xs:=i.map<|sb1 c) (λx hx=>by
  obtain⟨w,u,rfl⟩:=LR.mp hx;unfold sb1;cases h:c.lookup w with
  |none=>exact Lf (N w u).sz<|by decide
  |some k=>exact Lf (lP<|l h)<|by decide)<|by rw[K9];exact u
 simp_all only[dn,D,P,y.1,y.2,G,F,tr,eZ,Q,so,sm,rk,aN]
inductive Rl:Q4->U Kd->Kd->Prop
 |not:Rl "not" [.truth] .truth
 |first (a b:Kd):Rl "first" [.pair a b] a
 |second (a b:Kd):Rl "second" [.pair a b] b
 |one (a:Kd):Rl "one" [a] (.row a)
 |upto:Rl "upto" [.num] (.row .num)
 |long (a:Kd):Rl "long" [.row a] .num
 |sum:Rl "sum" [.row .num] .num
 |sums:Rl "sums" [.row .num] (.row .num)
 |most:Rl "most" [.row .num] .num
 |flat (a:Kd):Rl "flat" [.row (.row a)] (.row a)
 |add:Rl "add" [.num,.num] .num
 |sub:Rl "sub" [.num,.num] .num
 |mul:Rl "mul" [.num,.num] .num
 |div:Rl "div" [.num,.num] .num
 |rest:Rl "rest" [.num,.num] .num
 |less:Rl "less" [.num,.num] .truth
 |same:Rl "same" [.num,.num] .truth
 |same2:Rl "same" [.truth,.truth] .truth
 |both:Rl "both" [.truth,.truth] .truth
 |pair (a b:Kd):Rl "pair" [a,b] (.pair a b)
 |pick (a:Kd):Rl "pick" [.row a,.num] a
 |join (a:Kd):Rl "join" [.row a,.row a] (.row a)
 |keep (a:Kd):Rl "keep" [.row a,.row .truth] (.row a)
 |cut (a:Kd):Rl "cut" [.row a,.row .num] (.row (.row a))
 |ifs (a:Kd):Rl "if" [.truth,a,a] a
 |lets (a b:Kd):Rl "let" [a,b] b
 |each (a b:Kd):Rl "each" [.row a,b] (.row b)
 |times (a:Kd):Rl "times" [.num,a,a] a
structure Row (s bw aw:Q4)(bs as:U Q4):Prop where
 c1:(q s==q "name")=K0
 c2:keys_LEAVES.contains (q s)=K0
 c3:(q s==q "none")=K0
 c4:splS (q bw)=bs.map q
 c5:(decide ((q bw).cps.size+2<=LIM)&&(bs.map q).all sOk)=K1
 c6:bs.length<=10
 c7:splS (q aw)=as.map q
 c8:(decide ((q aw).cps.size+2<=LIM)&&(as.map q).all sOk)=K1
 c9:as.length<=10
 cg:∀w∈as.map q,Gw w
def chk (s b a:Q4)(bs as:U Q4):QT:=!(s=="name")&&!(keys_LEAVES.contains<|q s)&&!(s=="none")&&((splS (q b)==bs.map q)&&(decide ((q b).cps.size+2<=LIM)&&(bs.map q).all sOk)&&decide (bs.length<=10))&&((splS (q a)==as.map q)&&(decide ((q a).cps.size+2<=LIM)&&(as.map q).all sOk)&&decide (as.length<=10))&&as.all (λw=>decide (w.length<=20)&&!(w.toList.map N0).contains 32)
theorem oM {s f e:Q4}{bs as:U Q4}(a:chk s f e bs as=K1):Row s f e bs as:=by
 unfold chk at a;have ⟨a,b⟩:=LB.mp a;have ⟨a,c⟩:=LB.mp a;have ⟨a,d⟩:=LB.mp a;have ⟨a,k⟩:=LB.mp a;have ⟨i,j⟩:=LB.mp a;have ⟨c,r⟩:=LB.mp c;have ⟨o,p⟩:=LB.mp c;have ⟨d,n⟩:=LB.mp d;have ⟨l,m⟩:=LB.mp d;refine⟨by rw[qeq];simpa using i,by simpa using j,by rw[qeq];simpa using k,eq_of_beq l,m,QU n,eq_of_beq o,p,QU r,λw t=>?_⟩;obtain⟨x,hx,rfl⟩:=LR.mp t;have ⟨h,g⟩:=LB.mp<|MV.mp b x hx
 exact eU x (QU h) (λz=>by
  rw[List.contains_iff_mem.mpr z] at g;cases g)
theorem aH (n:O){s bw aw:Q4}{bs as:U Q4}{r more:U T}{v:U<|U W}{fd:EV}{a:U Kd}{K:Kd}(c:EV)(G:chk s bw aw bs as=K1)(u:tab_RULES.lookup (q s)=Y (.tup (.tup [.str<|q bw,.str<|q aw]::more)))(hp:pairsT more=Y v)(H:fit (bs.map q) a []=Y fd)(g:sbs fd (as.map q)=kw K)(F:K.deep<=4)(e:∀p∈fd,p.2.deep<=4)(hk:∀k∈a,k.deep<=10)(N:a.length<=10)(Q Z m2:Md):C (n+10) 372 [(Q,.tup (.str (q s)::r)),(Z,dE c),(m2,.lst<|a.map Kd.th)]=.ok ((.o .s,K.th),[]):=by
 obtain⟨j,l,t,w,x,y,z,A,D,M⟩:=oM G;obtain⟨mf,f,h⟩:=jx (n+8) (q bw) (bs.map q) a fd w x H hk N (by rw[K9];exact y) .s .s;have i:=λm P=>iP n (q aw) (as.map q) fd K z A M g F e (by rw[K9];exact D) m P;have ep:pairsT (.tup [.str (q bw),.str (q aw)]::more)=Y ([(.s,.str (q bw)),(.s,.str (q aw))]::v):=by show(pairsT more).map _=_;rw[hp];rfl
 have b:∀m,lf m (dE fd)=m:=λm=>rfl;have el:∀m,look (m,dE fd)=if m=.s then Y (.s,dE fd) else none:=λm=>by cases m<;>rfl
 rw[show n+10=(n+9)+1 from rfl,cN,x_run _ _ _ rfl];cases mf with
 |s=>exact QW rfl f
 |d=>simp_all only[aV,j,l,t,M5,u,ep,h,bp,b,ai,i]
 |o m=>simp_all only[aV,j,l,t,M5,u,ep,h,bp,b,ai,i]
theorem fd0:∀p∈([]:EV),p.2.deep<=4:=λp h=>nomatch h
theorem fd1 {x:Str}{a:Kd}(h:a.deep<=4):∀p∈([(x,a)]:EV),p.2.deep<=4:=λp hp=>by rw[Lv.mp hp];exact h
theorem fd2 {x y:Str}{a b:Kd}(h:a.deep<=4)(c:b.deep<=4):∀p∈([(x,a),(y,b)]:EV),p.2.deep<=4:=λp hp=>by
 rcases Lm.mp hp with hp|hp
 .rw[hp];exact h
 .rw[Lv.mp hp];exact c
theorem t6 (n:O)(r:U T)(c:EV)(A D F:Md):C (n+10) 372 [(A,.tup (.str (q "same")::r)),(D,dE c),(F,.lst [Kd.truth.th,Kd.truth.th])]=.ok ((.o .s,Kd.truth.th),[]):=by
 have x:chk "same" "truth truth" "truth" ["truth","truth"] ["truth"]=true:=by decide +kernel
 obtain⟨h,i,j,t,u,G,v,w,H,y⟩:=oM x;obtain⟨p,e,b⟩:=jx (n+8) (q "truth truth") (["truth","truth"].map q) [.truth,.truth] [] t u (by simp[fit,bF,qeq,Kd.hd,Kd.ps]) (λk hk=>by rcases Lm.mp hk with rfl|hk;decide;rw[Lv.mp hk];decide) (by decide) (by decide) .s .s;have f:=λm z=>iP n (q "truth") (["truth"].map q) [] .truth v w y (by simp[sbs,kw]) (by decide) fd0 (by decide) m z;have g:C (n+8+1) 373 [(.s,.str (q "num num")),(.s,.lst [Kd.truth.th,Kd.truth.th])]=.ok ((.d,.non),[]):=by kernel_rfl
 have l:tab_RULES.lookup (q "same")=Y (.tup [.tup [.str (q "num num"),.str (q "truth")],.tup [.str (q "truth truth"),.str (q "truth")]]):=by kernel_rfl
 have ep:pairsT [.tup [.str (q "num num"),.str (q "truth")],.tup [.str (q "truth truth"),.str (q "truth")]]=Y [[(.s,.str (q "num num")),(.s,.str (q "truth"))],[(.s,.str (q "truth truth")),(.s,.str (q "truth"))]]:=rfl;have a:∀m,lf m (dE [])=m:=λm=>rfl;have b:C (n+8+1) 373 [(.s,.str (q "truth truth")),(.s,.lst [Kd.truth.th,Kd.truth.th])]=.ok ((p,dE []),[]):=b;rw[show n+10=(n+9)+1 from rfl,cN,x_run _ _ _ rfl];cases p with
 |s=>exact QW rfl e
 |d=>simp_all only[aV,h,i,j,M5,l,ep,g,b,bp,a,ai,f]
 |o m=>simp_all only[aV,h,i,j,M5,l,ep,g,b,bp,a,ai,f]
theorem rw1 {a:Kd}(h:(Kd.row a).deep<=4):a.deep<=4:=by have:a.deep+1<=4:=h;lia
theorem CP {s:Q4}{j:U Kd}{K:Kd}(h:Rl s j K)(hk:∀k∈j,k.deep<=4)(e:K.deep<=4)(n:O)(r:U T)(c:EV)(f g i:Md):C (n+10) 372 [(f,.tup (.str (q s)::r)),(g,dE c),(i,.lst<|j.map Kd.th)]=.ok ((.o .s,K.th),[]):=by
 have d:∀k∈j,k.deep<=10:=λk h=>Lf (hk k h) (by decide);cases h with
 |same2=>exact t6 n r c f g i
 |not=>exact aH n (bw:="truth") (aw:="truth") (bs:=["truth"]) (as:=["truth"]) (more:=[]) (fd:=[]) c (by decide +kernel) (by kernel_rfl) rfl (by simp[fit,bF,qeq,Kd.hd,Kd.ps,Le,aA]) (by simp[sbs,kw,qeq,Le]) e (fd0) d (by simp) f g i
 |first a b=>exact aH n (bw:="pair K L") (aw:="K") (bs:=["pair","K","L"]) (as:=["K"]) (more:=[]) (fd:=[(q "K",K),(q "L",b)]) c (by decide +kernel) (by kernel_rfl) rfl (by simp[fit,bF,qeq,Kd.hd,Kd.ps,Le,aA]) (by simp[sbs,kw,qeq,Le]) e (fd2 (by have:max K.deep b.deep+1<=4:=hk _ Lg;lia) (by have:max K.deep b.deep+1<=4:=hk _ Lg;lia)) d (by simp) f g i
 |second a b=>exact aH n (bw:="pair K L") (aw:="L") (bs:=["pair","K","L"]) (as:=["L"]) (more:=[]) (fd:=[(q "K",a),(q "L",K)]) c (by decide +kernel) (by kernel_rfl) rfl (by simp[fit,bF,qeq,Kd.hd,Kd.ps,Le,aA]) (by simp[sbs,kw,qeq,Le]) e (fd2 (by have:max a.deep K.deep+1<=4:=hk _ Lg;lia) (by have:max a.deep K.deep+1<=4:=hk _ Lg;lia)) d (by simp) f g i
 |one a=>exact aH n (bw:="K") (aw:="row K") (bs:=["K"]) (as:=["row","K"]) (more:=[]) (fd:=[(q "K",a)]) c (by decide +kernel) (by kernel_rfl) rfl (by simp[fit,bF,qeq,Kd.hd,Kd.ps,Le,aA]) (by simp[sbs,kw,qeq,Le]) e (fd1<|hk _ Lg) d (by simp) f g i
 |upto=>exact aH n (bw:="num") (aw:="row num") (bs:=["num"]) (as:=["row","num"]) (more:=[]) (fd:=[]) c (by decide +kernel) (by kernel_rfl) rfl (by simp[fit,bF,qeq,Kd.hd,Kd.ps,Le,aA]) (by simp[sbs,kw,qeq,Le]) e (fd0) d (by simp) f g i
 |long a=>exact aH n (bw:="row K") (aw:="num") (bs:=["row","K"]) (as:=["num"]) (more:=[]) (fd:=[(q "K",a)]) c (by decide +kernel) (by kernel_rfl) rfl (by simp[fit,bF,qeq,Kd.hd,Kd.ps,Le,aA]) (by simp[sbs,kw,qeq,Le]) e (fd1<|rw1<|hk _ Lg) d (by simp) f g i
 |sum=>exact aH n (bw:="row num") (aw:="num") (bs:=["row","num"]) (as:=["num"]) (more:=[]) (fd:=[]) c (by decide +kernel) (by kernel_rfl) rfl (by simp[fit,bF,qeq,Kd.hd,Kd.ps,Le,aA]) (by simp[sbs,kw,qeq,Le]) e (fd0) d (by simp) f g i
 |sums=>exact aH n (bw:="row num") (aw:="row num") (bs:=["row","num"]) (as:=["row","num"]) (more:=[]) (fd:=[]) c (by decide +kernel) (by kernel_rfl) rfl (by simp[fit,bF,qeq,Kd.hd,Kd.ps,Le,aA]) (by simp[sbs,kw,qeq,Le]) e (fd0) d (by simp) f g i
 |most=>exact aH n (bw:="row num") (aw:="num") (bs:=["row","num"]) (as:=["num"]) (more:=[]) (fd:=[]) c (by decide +kernel) (by kernel_rfl) rfl (by simp[fit,bF,qeq,Kd.hd,Kd.ps,Le,aA]) (by simp[sbs,kw,qeq,Le]) e (fd0) d (by simp) f g i
 |flat a=>exact aH n (bw:="row row K") (aw:="row K") (bs:=["row","row","K"]) (as:=["row","K"]) (more:=[]) (fd:=[(q "K",a)]) c (by decide +kernel) (by kernel_rfl) rfl (by simp[fit,bF,qeq,Kd.hd,Kd.ps,Le,aA]) (by simp[sbs,kw,qeq,Le]) e (fd1<|rw1 e) d (by simp) f g i
 |add=>exact aH n (bw:="num num") (aw:="num") (bs:=["num","num"]) (as:=["num"]) (more:=[]) (fd:=[]) c (by decide +kernel) (by kernel_rfl) rfl (by simp[fit,bF,qeq,Kd.hd,Kd.ps,Le,aA]) (by simp[sbs,kw,qeq,Le]) e (fd0) d (by simp) f g i
 |sub=>exact aH n (bw:="num num") (aw:="num") (bs:=["num","num"]) (as:=["num"]) (more:=[]) (fd:=[]) c (by decide +kernel) (by kernel_rfl) rfl (by simp[fit,bF,qeq,Kd.hd,Kd.ps,Le,aA]) (by simp[sbs,kw,qeq,Le]) e (fd0) d (by simp) f g i
 |mul=>exact aH n (bw:="num num") (aw:="num") (bs:=["num","num"]) (as:=["num"]) (more:=[]) (fd:=[]) c (by decide +kernel) (by kernel_rfl) rfl (by simp[fit,bF,qeq,Kd.hd,Kd.ps,Le,aA]) (by simp[sbs,kw,qeq,Le]) e (fd0) d (by simp) f g i
 |div=>exact aH n (bw:="num num") (aw:="num") (bs:=["num","num"]) (as:=["num"]) (more:=[]) (fd:=[]) c (by decide +kernel) (by kernel_rfl) rfl (by simp[fit,bF,qeq,Kd.hd,Kd.ps,Le,aA]) (by simp[sbs,kw,qeq,Le]) e (fd0) d (by simp) f g i
 |rest=>exact aH n (bw:="num num") (aw:="num") (bs:=["num","num"]) (as:=["num"]) (more:=[]) (fd:=[]) c (by decide +kernel) (by kernel_rfl) rfl (by simp[fit,bF,qeq,Kd.hd,Kd.ps,Le,aA]) (by simp[sbs,kw,qeq,Le]) e (fd0) d (by simp) f g i
 |less=>exact aH n (bw:="num num") (aw:="truth") (bs:=["num","num"]) (as:=["truth"]) (more:=[]) (fd:=[]) c (by decide +kernel) (by kernel_rfl) rfl (by simp[fit,bF,qeq,Kd.hd,Kd.ps,Le,aA]) (by simp[sbs,kw,qeq,Le]) e (fd0) d (by simp) f g i
 |same=>exact aH n (bw:="num num") (aw:="truth") (bs:=["num","num"]) (as:=["truth"]) (more:=[.tup [.str<|q "truth truth",.str<|q "truth"]]) (fd:=[]) c (by decide +kernel) (by kernel_rfl) rfl (by simp[fit,bF,qeq,Kd.hd,Kd.ps,Le,aA]) (by simp[sbs,kw,qeq,Le]) e (fd0) d (by simp) f g i
 |both=>exact aH n (bw:="truth truth") (aw:="truth") (bs:=["truth","truth"]) (as:=["truth"]) (more:=[]) (fd:=[]) c (by decide +kernel) (by kernel_rfl) rfl (by simp[fit,bF,qeq,Kd.hd,Kd.ps,Le,aA]) (by simp[sbs,kw,qeq,Le]) e (fd0) d (by simp) f g i
 |pair a b=>exact aH n (bw:="K L") (aw:="pair K L") (bs:=["K","L"]) (as:=["pair","K","L"]) (more:=[]) (fd:=[(q "K",a),(q "L",b)]) c (by decide +kernel) (by kernel_rfl) rfl (by simp[fit,bF,qeq,Kd.hd,Kd.ps,Le,aA]) (by simp[sbs,kw,qeq,Le]) e (fd2 (hk _ Lg)<|hk _<|Lr _ Lg) d (by simp) f g i
 |pick a=>exact aH n (bw:="row K num") (aw:="K") (bs:=["row","K","num"]) (as:=["K"]) (more:=[]) (fd:=[(q "K",K)]) c (by decide +kernel) (by kernel_rfl) rfl (by simp[fit,bF,qeq,Kd.hd,Kd.ps,Le,aA]) (by simp[sbs,kw,qeq,Le]) e (fd1 e) d (by simp) f g i
 |join a=>exact aH n (bw:="row K row K") (aw:="row K") (bs:=["row","K","row","K"]) (as:=["row","K"]) (more:=[]) (fd:=[(q "K",a)]) c (by decide +kernel) (by kernel_rfl) rfl (by simp[fit,bF,qeq,Kd.hd,Kd.ps,Le,aA]) (by simp[sbs,kw,qeq,Le]) e (fd1<|rw1 e) d (by simp) f g i
 |keep a=>exact aH n (bw:="row K row truth") (aw:="row K") (bs:=["row","K","row","truth"]) (as:=["row","K"]) (more:=[]) (fd:=[(q "K",a)]) c (by decide +kernel) (by kernel_rfl) rfl (by simp[fit,bF,qeq,Kd.hd,Kd.ps,Le,aA]) (by simp[sbs,kw,qeq,Le]) e (fd1<|rw1 e) d (by simp) f g i
 |cut a=>exact aH n (bw:="row K row num") (aw:="row row K") (bs:=["row","K","row","num"]) (as:=["row","row","K"]) (more:=[]) (fd:=[(q "K",a)]) c (by decide +kernel) (by kernel_rfl) rfl (by simp[fit,bF,qeq,Kd.hd,Kd.ps,Le,aA]) (by simp[sbs,kw,qeq,Le]) e (fd1<|rw1<|rw1 e) d (by simp) f g i
 |lets a b=>exact aH n (bw:="K L") (aw:="L") (bs:=["K","L"]) (as:=["L"]) (more:=[]) (fd:=[(q "K",a),(q "L",K)]) c (by decide +kernel) (by kernel_rfl) rfl (by simp[fit,bF,qeq,Kd.hd,Kd.ps,Le,aA]) (by simp[sbs,kw,qeq,Le]) e (fd2 (hk _ Lg) e) d (by simp) f g i
 |ifs a=>exact aH n (bw:="truth K K") (aw:="K") (bs:=["truth","K","K"]) (as:=["K"]) (more:=[]) (fd:=[(q "K",K)]) c (by decide +kernel) (by kernel_rfl) rfl (by simp[fit,bF,qeq,Kd.hd,Kd.ps,Le,aA]) (by simp[sbs,kw,qeq,Le]) e (fd1 e) d (by simp) f g i
 |each a b=>exact aH n (bw:="row K L") (aw:="row L") (bs:=["row","K","L"]) (as:=["row","L"]) (more:=[]) (fd:=[(q "K",a),(q "L",b)]) c (by decide +kernel) (by kernel_rfl) rfl (by simp[fit,bF,qeq,Kd.hd,Kd.ps,Le,aA]) (by simp[sbs,kw,qeq,Le]) e (fd2 (rw1<|hk _ Lg)<|rw1 e) d (by simp) f g i
 |times a=>exact aH n (bw:="num K K") (aw:="K") (bs:=["num","K","K"]) (as:=["K"]) (more:=[]) (fd:=[(q "K",K)]) c (by decide +kernel) (by kernel_rfl) rfl (by simp[fit,bF,qeq,Kd.hd,Kd.ps,Le,aA]) (by simp[sbs,kw,qeq,Le]) e (fd1 e) d (by simp) f g i
def nob (s:Q4):QT:=!(s=="let" || s=="each" || s=="times")
theorem oY (C:Call):∀(a b:U S) (c:Env),evSs C (a++b) c=(evSs C a c).seq (evSs C b)
|[],b,c=>rfl
|s::a,b,c=>by show(evS C s c).seq (evSs C<|a++b)=((evS C s c).seq<|evSs C a).seq (evSs C b);cases evS C s c<;>first|rfl|exact oY C a b _
theorem go1 {C:Call}{a b:U S}{d c:Env}(h:evSs C a d=.nx c):evSs C (a++b) d=evSs C b c:=by rw[oY,h];rfl
abbrev Bk (f:Fn)(i j:O):U S:=(f.body.drop i).take j
theorem pU (k:Kd):k.th.isG=K0/\k.th.isN=false:=by cases k<;>exact⟨rfl,rfl⟩
noncomputable abbrev pT (p:U O):U T:=p.map λ(i:O)=>T.int (i:I)
abbrev nt (p:U O)(k:Kd):T:=.tup [.tup<|pT p,k.th]
theorem bT (n:O){s:Str}(r:U T)(h:keys_AHEAD_trees.contains s=K0)(m:Md):C (n+2) 176 [(m,.tup (.str s::r))]=.ok ((.s,.tup r),[]):=by have e:=λm=>uM n s m;rw[h] at e;rw[show n+2=(n+1)+1 from rfl,lV,x_run _ _ _ rfl];simp_all only[eD,e,eV,qO]
theorem bx (n:O){s:Str}(x:T)(r:U T)(h:keys_AHEAD_trees.contains s=K1)(m:Md):C (n+2) 176 [(m,.tup (.str s::x::r))]=.ok ((.s,.tup r),[]):=by have e:=λm=>uM n s m;rw[h] at e;rw[show n+2=(n+1)+1 from rfl,lV,x_run _ _ _ rfl];simp_all only[eD,e,eV,Kf]
theorem pD (n:O)(s:Str)(r:U T)(m:Md):C (n+1) 233 [(m,.tup (.str s::r))]=.ok ((.s,(tab_BINDING.lookup s).getD .non),[]):=by rw[mL,x_run _ _ _ rfl];simp_all only[dg]
abbrev AB:U S:=[
   .asg (.q [2] []) 7 (.var 2),
   .ite (.q [0] [5]) (.op .eq K0 [.var 5,.call 233 [.var 0]]) [
    .asg (.l [0,1,2]) 7 (.call 370 [.var 0,.var 1,.var 2,.io 4])] [],
   .app (.l [1,6,7]) 4 (.call 369 [.var 6,.op .catT K0 [.var 1,.tup [.var 5]],.var 7,.io 3])]
def AK (d:O)(e:EV)(k:Kd)(t:T)(p:U O)(c:U T):Prop:=∀a,d+12<=a->∀(b:U T) (f g h:Md),b.length+c.length<LIM->C a 369 [(f,t),(g,.tup<|pT p),(h,dE e),(.o .s,.lst b)]=.ok ((.s,k.th),[(.o .s,.lst<|b++c)])
theorem vG (m:Md)(e:EV):lf m (dE e)=m:=rfl
theorem aR (p:U O)(i:O):pT p++[T.int (i:I)]=pT (p++[i]):=by rw[pT,pT,L9];rfl
theorem bj {p:U O}(h:p.length<=100)(x:T):fits ((pT p).length+[x].length)=true:=QV<|by rw[K9,Mi];show _<=16777215;lia
theorem tA {c d i:O}{t A b:T}{a:Kd}{p:U O}{e:EV}{g f ins:U T}(k:C c 233 [(.s,t)]=.ok ((.s,b),[]))(l:eqT (.int (i:I)) b=K0)(hd:dp b<=64)(h:AK d e a A (p++[i]) g)(j:d+12<=c)(r:f.length+g.length<LIM)(y:ins.length<=10)(hp:p.length<=100)(v w:Md)(x:B W):
  evSs (C c) AB [Y (.s,t),Y (v,.tup<|pT p),Y (w,dE e),Y (.o .s,.lst f),Y (.o .s,.lst ins),Y (.d,.int (i:I)),Y (.s,A),x,J]=.nx [Y (.s,t),Y (.s,.tup<|pT p),Y (.s,dE e),Y (.o .s,.lst<|f++g),Y (.o .s,.lst<|ins++[a.th]),Y (.d,.int (i:I)),Y (.s,A),Y (.s,dE e),J]:=by
 have u:=h c j f .s .s .s r;have e1:=λm n=>nF K0 m n (.int (i:I)) b (by show 0<=64;decide) hd;have l1:ins.length<LIM:=by show _<16777215;lia
 simp_all only[ai,vG,k,e1,l,aR,bj hp,u,QY l1,aN]
theorem HY (n:O){s x:Str}{r:U T}{p:T}{e:EV}{a:U Kd}{k:Kd}(hx:e.lookup x=J)(i:e.length<=100)(c:∀m,C (n+1) 371 [(m,.str s),(.o .s,.lst<|a.map Kd.th)]=.ok ((.s,k.th),[(.o .s,.lst<|a.map Kd.th)]))(d f g:Md):
  C (n+2) 370 [(d,.tup (.str s::.str x::r)),(f,p),(g,dE e),(.o .s,.lst<|a.map Kd.th)]=.ok ((.o .s,dE<|e++[(x,k)]),[(.o .s,.lst<|a.map Kd.th)]):=by
 have h:∀m b,eN (.o .s,dE e) (m,.str x) (b,k.th)=Y (.o .s,dE (e++[(x,k)])):=λm b=>by show(if decide ((dK e).length<LIM)=K1 then Y ((.o .s,.dct (putT (.inr x) k.th (dK e)<|dV e).1 (putT (.inr x) k.th (dK e)<|dV e).2):W) else J)=_;rw[QY<|QV<|by rw[K9];show _<16777215;lia,qJ x k e hx]
 rw[show n+2=(n+1)+1 from rfl,iX,x_run _ _ _ rfl];simp_all only[bL,c,aN,au,(pU k).1,(pU k).2,ai,vG,h]
theorem Fd (n:O)(a:Kd)(m:Md):C (n+1) 371 [(m,.str<|q "let"),(.o .s,.lst<|[a].map Kd.th)]=.ok ((.s,a.th),[(.o .s,.lst<|[a].map Kd.th)]):=by rw[cX,x_run _ _ _ rfl];simp_all only[aY,qeq]
theorem yO (n:O)(a:Kd)(m:Md):C (n+1) 371 [(m,.str<|q "each"),(.o .s,.lst<|[.row a].map Kd.th)]=.ok ((.s,a.th),[(.o .s,.lst<|[.row a].map Kd.th)]):=by rw[cX,x_run _ _ _ rfl];simp_all only[aY,qeq,Kd.th]
theorem tH (n:O)(k:Kd)(m:Md):C (n+1) 371 [(m,.str<|q "times"),(.o .s,.lst<|[.num,k].map Kd.th)]=.ok ((.s,k.th),[(.o .s,.lst<|[.num,k].map Kd.th)]):=by have a:=λm b=>nF K0 m b Kd.num.th Kd.num.th (by decide) (by decide);have e3:=aA .num;rw[show Kd.num.th=.tup [.str<|q "num"] from rfl] at a e3;rw[cX,x_run _ _ _ rfl];simp_all only[aY,qeq,show Kd.num.th=.tup [.str<|q "num"] from rfl,a,e3]
theorem tB {b d i:O}{s x:Str}{r:U T}{A:T}{a k:Kd}{p:U O}{e:EV}{h c:U T}{ins:U Kd}(u:C b 233 [(.s,.tup (.str s::.str x::r))]=.ok ((.s,.int (i:I)),[]))(hx:e.lookup x=J)(g:e.length<=100)(f:∀m,C (b-1) 371 [(m,.str s),(.o .s,.lst<|ins.map Kd.th)]=.ok ((.s,k.th),[(.o .s,.lst<|ins.map Kd.th)]))(j:AK d (e++[(x,k)]) a A (p++[i]) h)(t:d+12<=b)(v:c.length+h.length<LIM)(G:ins.length<=10)(hp:p.length<=100)(y z:Md)(D:B W):
  evSs (C b) AB [Y (.s,.tup (.str s::.str x::r)),Y (y,.tup<|pT p),Y (z,dE e),Y (.o .s,.lst c),Y (.o .s,.lst<|ins.map Kd.th),Y (.d,.int (i:I)),Y (.s,A),D,J]=.nx [Y (.s,.tup (.str s::.str x::r)),Y (.s,.tup<|pT p),Y (.s,dE e),Y (.o .s,.lst<|c++h),Y (.o .s,.lst<|(ins++[a]).map Kd.th),Y (.d,.int (i:I)),Y (.s,A),Y (.s,dE<|e++[(x,k)]),J]:=by
 have w:=j b t c .s .s .s v;have e1:=λm n=>nF K0 m n (.int (i:I)) (.int (i:I)) (by show 0<=64;decide) (by show 0<=64;decide);have e2:eqT (.int (i:I)) (.int (i:I))=true:=by show((i:I)==(i:I))=K1;exact Q2 _
 have l1:(ins.map Kd.th).length<LIM:=by rw[K9];show _<16777215;lia
 obtain⟨l,rfl⟩:∃l,b=l+2:=⟨b-2,by lia⟩;have F:=HY l (r:=r) (p:=.tup<|pT p) hx g f .s .s .s;rw[L9];simp_all only[ai,vG,u,e1,e2,F,aR,bj hp,w,QY l1,aN]
theorem n6 {l:O}{t:T}{p:U O}{e:EV}{ins:U Kd}{k:Kd}{b a rs:U T}{i c d:Md}{j m n:B W}(h f g:Md)(hp:C l 176 [(.s,t)]=.ok ((.s,.tup rs),[]))(u:dP [5,6] (evSs (C l) AB) (ie .s 0 rs) [Y (.s,t),Y (f,.tup<|pT p),Y (g,dE e),Y (.o .s,.lst b),Y (.o .s,.lst []),J,J,J,J]=.nx [Y (.s,t),Y (c,.tup<|pT p),Y (d,dE e),Y (.o .s,.lst a),Y (.o .s,.lst<|ins.map Kd.th),j,m,n,J])
  (ho:C l 372 [(.s,t),(.s,dE e),(.s,.lst<|ins.map Kd.th)]=.ok ((i,k.th),[])) (r:a.length<LIM):C (l+1) 369 [(h,t),(f,.tup<|pT p),(g,dE e),(.o .s,.lst b)]=.ok ((.s,k.th),[(.o .s,.lst<|a++[nt p k])]):=by
 rw[kG,x_run _ _ _ rfl];have H:evSs (C l) (Bk f_add_kinds 0 2) [Y (h,t),Y (f,.tup (pT p)),Y (g,dE e),Y (.o .s,.lst b),J,J,J,J,J]=.nx [Y (.s,t),Y (c,.tup (pT p)),Y (d,dE e),Y (.o .s,.lst a),Y (.o .s,.lst (ins.map Kd.th)),j,m,n,J]:=by simp_all only[Bk,Mu,Mr,MD,Mw,f_add_kinds,ai,hp,u]
 rw[show f_add_kinds.body=Bk f_add_kinds 0 2++f_add_kinds.body.drop 2 from rfl];show Fl.out [3] (evSs (C l) _ [Y (h,t),Y (f,.tup<|pT p),Y (g,dE e),Y (.o .s,.lst b),J,J,J,J,J])=_;rw[go1 H];cases i<;>simp_all only[Mu,Mr,f_add_kinds,ai,ho,aN,(pU k).1,(pU k).2,QY r]
theorem cq {c:U O}{f:Env->Fl}{d:U W}{r:U<|U W}{e a b:Env}(g:bf c d e=Y a)(h:f a=.nx b):dP c f (d::r) e=dP c f r b:=by rw[bp,g];show Fl.turn (f a) _=_;rw[h];rfl
def cs (s:Q4):QT:=!(keys_AHEAD_trees.contains<|q s)&&(tab_BINDING.lookup<|q s).isNone&&!(s=="name")&&!(["let","each","times"].contains s)&&!(["num","none"].contains s)
theorem IV {s:Q4}{b:U Kd}{k:Kd}(h:Rl s b k)(a:nob s=K1):cs s=true:=by
 cases h with
 |lets=>cases a
 |each=>cases a
 |times=>cases a
 |_=>decide +kernel
structure Sg (s:Q4):Prop where
 a:keys_AHEAD_trees.contains (q s)=K0
 b:tab_BINDING.lookup (q s)=J
 c:(s=="name")=K0
 d:1+b2i (["let","each","times"].contains s)=1
 e:["num","none"].contains s=K0
theorem H8 {s:Q4}(h:cs s=K1):Sg s:=by unfold cs at h;simp only[Li,OW,Qo] at h;obtain⟨⟨⟨⟨a,b⟩,c⟩,d⟩,e⟩:=h;exact⟨a,b,c,by rw[d];rfl,e⟩
theorem gN {s:Q4}{b:U Kd}{k:Kd}(h:Rl s b k)(a:nob s=K1):Sg s:=H8<|IV h a
theorem eG {s:Q4}(h:Sg s)(l:O)(r:U T):C (l+1) 233 [(.s,.tup (.str (q s)::r))]=.ok ((.s,.non),[]):=by have:=pD l (q s) r .s;rw[h.b] at this;exact this
theorem fY {s:Q4}{b:U Kd}{K:Kd}(h:Rl s b K)(hk:∀k∈b,k.deep<=4)(c:K.deep<=4){l:O}(d:10<=l)(r:U T)(a:EV):C l 372 [(.s,.tup (.str (q s)::r)),(.s,dE a),(.s,.lst<|b.map Kd.th)]=.ok ((.o .s,K.th),[]):=by obtain⟨n,rfl⟩:∃n,l=n+10:=⟨l-10,by lia⟩;exact CP h hk c n r a .s .s .s
theorem oG {x:Str}:∀{e:EV},x ∉ e.map LO->e.lookup x=J
|[],_=>rfl
|(y,k)::e,h=>by rw[Mo,beq_eq_false_iff_ne.mpr λz=>h<|by rw[z];exact Lg];exact oG λz=>h<|Lr _ z
abbrev eT (e:EV):U T:=e.map λp=>.tup [.str p.1,p.2.th]
theorem lQ:∀e:EV,pairsT (eT e)=Y (e.map λp=>[(.s,.str p.1),(.s,p.2.th)])
|[]=>rfl
|p::e=>by show(pairsT<|eT e).map _=_;rw[lQ e];rfl
theorem BH {C:Call}{vs f:U O}{k:Ik}{c:U E}{d:U O}{a r:U S}{b i e:Env}{h:U W}{g:U<|U W}(j:evL C c (pick vs f b)=.ok (h,i))(l:bb k h=Y g)(m:dP d (evSs C a) g (share vs b)=.nx e):evSs C (.forS vs f k c d a::r) b=evSs C r e:=by rw[lu];show Fl.seq (Fl.of b (evL C c<|pick vs f b)<|rZ vs k d (evSs C a) b) _=_;rw[j];show Fl.seq (Fl.of b (ret (share vs b)<|bb k h)<|pb d<|evSs C a) _=_;rw[l];show Fl.seq (dP d (evSs C a) g<|share vs b) _=_;rw[m];rfl
theorem Eb {m:Md}(a:m≠.s){e:EV}{x:Str}{k:Kd}(hx:e.lookup x=J)(f:e.length<=100)(b c:Md):eN (m,dE e) (b,.str x) (c,k.th)=Y (.o .s,dE<|e++[(x,k)]):=by
 have e1:decide ((dK e).length<LIM)=true:=QV (by rw[K9];show _<16777215;lia);cases m with
 |s=>exact QW rfl a
 |d=>show(if decide ((dK e).length<LIM)=K1 then Y ((.o .s,.dct (putT (.inr x) k.th (dK e)<|dV e).1 (putT (.inr x) k.th (dK e)<|dV e).2):W) else J)=_;rw[QY e1,qJ x k e hx]
 |o m=>show(if decide ((dK e).length<LIM)=K1 then Y ((.o .s,.dct (putT (.inr x) k.th (dK e)<|dV e).1 (putT (.inr x) k.th (dK e)<|dV e).2):W) else J)=_;rw[QY e1,qJ x k e hx]
theorem vP (a:O)(l n:B W):∀(e b:EV) (m:Md) (o2 o3:B W),m≠.s->((b++e).map LO).Nodup->(b++e).length<=100->∃f c d,f≠.s/\dP [2,3] (evSs (C a) [.setS (.q [2,3] []) 1 (.var 2)<|.var 3]) (e.map λp=>[((.s,.str p.1):W),(.s,p.2.th)]) [l,Y (m,dE b),o2,o3,n]=.nx [l,Y (f,dE<|b++e),c,d,n]
|[],b,m,o2,o3,h,_,_=>⟨m,o2,o3,h,by rw[LK];rfl⟩
| p::e,b,m,o2,o3,h,j,r=>by
 have g:b++p::e=b++[p]++e:=by rw[Lz];rfl
 have hx:b.lookup p.1=none:=oG λz=>by rw[L9,Ln] at j;exact(OV.mp j).2.2 _ z _ Lg rfl
 obtain⟨f,c,d,i,t⟩:=vP a l n e (b++[p]) (.o .s) (Y (.s,.str p.1)) (Y (.s,p.2.th)) (by decide) (by rw[<- g];exact j) (by rw[<- g];exact r);refine⟨f,c,d,i,?_⟩;rw[g,<- t,Ln];have w:=λu v=>Eb h (k:=p.2) hx (by rw[K8] at r;lia) u v;refine cq rfl ?_;simp_all only[au,aN,w]
theorem mx {a d:O}{e:EV}{k:Kd}{t:T}{g:U T}(v:d+12<=a)(y:(e.map LO).Nodup)(w:e.length<=100)(u:AK d e k t [] g)(hk:g.length<LIM)(m:Md):C (a+1) 368 [(m,.tup [.tup<|eT e,t])]=.ok ((.o .s,.lst g),[]):=by
 obtain⟨i,c,f,x,h⟩:=vP a (Y (.s,.tup [.tup<|eT e,t])) J e [] .d J J (by decide) y w;have h:dP [2,3] (evSs (C a) [.setS (.q [2,3] []) 1 (.var 2) (.var 3)]) (e.map λp=>[((.s,.str p.1):W),(.s,p.2.th)]) [Y (.s,.tup [.tup (eT e),t]),Y (.d,.dct [] []),J,J,J]=.nx [Y (.s,.tup [.tup (eT e),t]),Y (i,dE e),c,f,J]:=h;have n:C a 369 [(.s,t),(.d,.tup []),(.s,dE e),(.o .s,.lst [])]=.ok ((.s,k.th),[(.o .s,.lst g)]):=by have:=u a v [] .s .d .s (by rw[MT];lia);rw[LX] at this;exact this
 have j:evSs (C a) (Bk f_kinds_of 0 1) [Y (m,.tup [.tup (eT e),t]),J,J,J,J]=.nx [Y (m,.tup [.tup (eT e),t]),Y (.d,.dct [] []),J,J,J]:=by kernel_rfl
 have z:evL (C a) [.op .ix K0 [.var 0,.cst (.int 0)]] (pick [0] [] [Y (m,.tup [.tup (eT e),t]),Y (.d,.dct [] []),J,J,J])=.ok ([(.s,.tup (eT e))],[Y (.s,.tup [.tup (eT e),t]),J,J,J,J]):=by simp_all only[ai]
 have l:evSs (C a) (Bk f_kinds_of 1 1) [Y (m,.tup [.tup (eT e),t]),Y (.d,.dct [] []),J,J,J]=.nx [Y (.s,.tup [.tup (eT e),t]),Y (i,dE e),c,f,J]:=BH (r:=[]) z (show bb .sq2T [(.s,.tup<|eT e)]=_ from lQ e) h;rw[lg,x_run _ _ _ rfl];refine(Q8 (Fl.out [])<|(go1 (b:=Bk f_kinds_of 1 1++f_kinds_of.body.drop 2) j).trans<|go1 l).trans ?_;simp_all only[f_kinds_of,Mu,Mr,ai,n]
noncomputable def tape (a:U I)(x y z:I):T:=.lst [.lst<|a.map T.int,.int x,.int y,.int z]
def Tp (N:O)(t:T):Prop:=∃a x y z,t=tape a ((x:O):I) y z/\x<=N
theorem tm {a b:O}{t:T}(h:Tp a t)(c:a<=b):Tp b t:=by obtain⟨d,x,y,z,e,hx⟩:=h;exact⟨d,x,y,z,e,Lf hx c⟩
theorem CO {e:Type}(a b c d:e):ixN [a,b,c,d].length 1=Y 1:=rfl
theorem Ct {e:Type}(a b c d:e):ixN [a,b,c,d].length 2=Y 2:=rfl
theorem Du {e:Type}(a b c d:e):ixN [a,b,c,d].length 3=Y 3:=rfl
theorem fm {a k:I}(hk:0<k):0<=a.fmod k/\a.fmod k<k:=by rw[Pm a<|by lia];exact⟨Qf _<|by lia,QE _ hk⟩
theorem GG {a:U I}{x:I}(hx:0<=x)(g:a≠[]):∃c,atI (a.map T.int) (x.fmod ((a.map T.int).length:I))=Y (.int c):=by
 have i:0<a.length:=QK.mpr g;have e:((a.map T.int).length:I)=(a.length:I):=by rw[K9]
 rw[e,Pm x<|by lia];have d:0<=x % (a.length:I):=Qf _ (by lia);have h:x % (a.length:I)<a.length:=QE _ (by lia);obtain⟨j,f⟩:∃j:O,x % (a.length:I)=j:=⟨_,(Int.toNat_of_nonneg d).symm⟩;have b:j<a.length:=by lia
 exact⟨a[j],atN f<|by rw[LQ,MG b];rfl⟩
theorem gS:oSem .pow K0 [(.d,.int 10),(.d,.int 18)]=Y (.d,.int 1000000000000000000):=rfl
theorem xj (D:Call)(a:U I)(x y z:I)(m:Md)(k:I)(b:0<z)(c:(k != 0)=K1)(e:decide (k.natAbs<18446744073709551616)=K1):
  runF D bh [(.d,tape a x y z),(m,.int k)]=.ok ((.d,.int<|y.fmod k),[(.d,tape a x (y.fdiv k)<|z-1)]):=by
 rw[x_run _ _ _ rfl];simp_all only[bh,tape,QV b,c,e,CO,Ct,Du,O1,O0]
theorem Cz (D:Call)(b:U I)(x:O)(y z:I)(m:Md)(k:I)(hz:z<=0)(hk:0<k)(F:(k != 0)=K1)(G:decide (k.natAbs<18446744073709551616)=K1)(hx:x<1000000000000000000)
  (P:∀i,D 428 [(.d,tape b (x+1) i 40),(m,.int k)]=.ok ((.d,.int<|i.fmod k),[(.d,tape b (x+1) (i.fdiv k) 39)])):
  ∃r M i z',0<=r/\r<k/\M<=x+1/\runF D bh [(.d,tape b x y z),(m,.int k)]=.ok ((.d,.int r),[(.d,tape b ((M:O):I) i z')]):=by
 have n:decide (0<z)=false:=Q7 (by lia);rw[x_run _ _ _ rfl];simp_all only[bh,tape,n,CO,Ct,Du,O1,O0,gS];generalize Q:onF _ _ _ _=e
 obtain⟨c,rfl⟩:∃c:I,e=.nx [Y (Md.d,T.lst [T.lst (NB T.int b),T.int (x+1),T.int y,T.int z]),Y (m,T.int k),J,Y (Md.d,T.int x),Y (Md.d,T.int c),J]:=by
  rw[<- Q];by_cases l:b=[]
  .subst l;exact⟨0,rfl⟩
  .obtain ⟨c,Z⟩:=GG (x:=(x:I)) (by lia) l;have hp:decide (0<((NB T.int b).length:I))=true:=QV (by rw[K9];have:=QK.mpr l;lia);have hq:(((NB T.int b).length:I) != 0)=true:=bne_iff_ne.mpr (by have:=QU hp;lia);refine⟨c,?_⟩;simp_all only[hp,hq,Z]
 have N:decide ((x:I).natAbs<18446744073709551616)=true:=QV (by lia);have cb:decide ((c.fmod 999983+3).natAbs<18446744073709551616)=true:=QV (by have:=fm (a:=c) (show(0:I)<999983 by decide);lia);have H:∀a:I,decide ((a.fmod 1000003).natAbs<18446744073709551616)=true:=λa=>QV (by have:=fm (a:=a) (show(0:I)<1000003 by decide);lia);have g:decide ((61:I).natAbs<18446744073709551616)=true:=rfl;have f:decide ((131:I).natAbs<18446744073709551616)=true:=rfl;have o:((999983:I) != 0)=true:=rfl;have p:((10007:I) != 0)=true:=rfl;have s:((1000003:I) != 0)=true:=rfl;have t:((999979:I) != 0)=true:=rfl;have u:((3:I) != 0)=true:=rfl;have v:decide ((3:I).natAbs<18446744073709551616)=true:=rfl;have w:((99991:I) != 0)=true:=rfl;cases j:decide ((x:I)<((NB T.int b).length:I)) with
 |false=>simp_all only[j,F,G,gS,N,cb,H,g,f,o,p,s,t,u,v,w,OQ];exact⟨_,x+1,y,z,(fm hk).1,(fm hk).2,La _,rfl⟩
 | true =>
  cases A:decide (1000000000000000000<=c) with
  |false=>simp_all only[j,A,F,G,gS,N,cb,H,g,f,o,p,s,t,u,v,w,OQ];exact⟨_,x+1,y,z,(fm hk).1,(fm hk).2,La _,rfl⟩
  |true=>have h:=P<|c-1000000000000000000;unfold tape at h;simp_all only[j,A,gS,CO,Ct,Du,O1,O0];simp_all only[h];exact⟨_,x+1,_,_,(fm hk).1,(fm hk).2,La _,rfl⟩
theorem Dj {n N:O}{t:T}(m:Md)(k:I)(l:Tp N t)(v:N<1000000000000000000)(hk:0<k)(j:k<10000000000000000000):
  ∃r f,0<=r/\r<k/\Tp (N+1) f/\C (n+2) 428 [(.d,t),(m,.int k)]=.ok ((.d,.int r),[(.d,f)]):=by
 obtain⟨a,x,y,z,rfl,hx⟩:=l;have b:(k != 0)=true:=bne_iff_ne.mpr (by lia);have c:decide (k.natAbs<18446744073709551616)=true:=QV (by lia);rw[show n+2=(n+1)+1 from rfl,gg];by_cases o:0<z
 .exact⟨_,_,(fm hk).1,(fm hk).2,⟨a,x,_,_,rfl,by lia⟩,xj (C<|n+1) a x y z m k o b c⟩
 .obtain ⟨r,p,e,s,g,h,u,i⟩:=Cz (C (n+1)) a x y z m k (by lia) hk b c (by lia) fun e=>by rw [gg,xj (C n) a (x+1) e 40 m k (by decide) b c]; rfl
  exact⟨r,_,g,h,⟨a,p,e,s,rfl,by lia⟩,i⟩
def kb:O->O
|0=>1
|l+1=>2 * kb l+1
theorem Ky {c:Type}(a b:c)(r:I)(d:0<=r)(e:r<2):atI [a,b] r=Y a\/atI [a,b] r=Y b:=by
 have:r=0\/r=1:=by lia
 rcases this with rfl|rfl
 .exact .inl rfl
 .exact .inr rfl
theorem d02:decide ((0:I)<2)=true:=rfl
theorem kind (n:O):∀(l:O) {N:O} {t:T},Tp N t->N+kb l<1000000000000000000->1<=l ->
 ∃(A:Md) (k:Kd) (v:T),k.deep<l/\Tp (N+kb l) v/\C (n+l+2) 429 [(.d,t),(.d,.int l)]=.ok ((A,k.th),[(.d,v)])
|0,_,_,_,_,h=>by lia
| l+1,N,t,y,F,_=>by
 have G:kb (l+1)=2 * kb l+1:=rfl;rw[show n+(l+1)+2=(n+l+2)+1 by lia,mn];obtain⟨r,t1,r0,r1,a,e1⟩:=Dj (n:=n+l) .d 6 y (by lia) (by decide) (by decide);rw[x_run _ _ _ rfl];simp_all only[cB,e1]
 have c:∃k:Kd,k.deep=0/\(atI [T.tup [T.str (q "num")],T.tup [T.str (q "truth")]] (r % 2))=Y k.th:=by
  rcases Ky (T.tup [T.str<|q "num"]) (T.tup [T.str<|q "truth"]) (r % 2) (by lia) (by lia) with h|h
  .exact⟨.num,rfl,h⟩
  .exact⟨.truth,rfl,h⟩
 obtain⟨s,x,e⟩:=c;cases f:(((l+1:O):I)==1) with
 |true=>simp_all only[f,d02,e];exact⟨_,s,_,by lia,tm a<|by lia,rfl⟩
 | false =>
  have j:1<=l:=by have:=beq_eq_false_iff_ne.mp f;lia
  cases i:decide (r<2) with
  |true=>simp_all only[f,i,d02,e];exact⟨_,s,_,by lia,tm a<|by lia,rfl⟩
  | false =>
   have o:((l+1:O):I)-1=(l:I):=by lia
   cases p:decide (r<4) with
   |true=>obtain⟨z,g,t2,w,b,e2⟩:=kind n l a (by lia) j;obtain⟨H,u,M,D,m,e3⟩:=kind n l b (by lia) j;simp_all only[f,i,p,o,e2,e3];exact⟨_,.pair g u,_,by show max g.deep u.deep+1<l+1;lia,tm m<|by lia,rfl⟩
   |false=>obtain⟨z,g,t2,w,b,e2⟩:=kind n l a (by lia) j;simp_all only[f,i,p,o,e2];exact⟨_,.row g,_,by show g.deep+1<l+1;lia,tm b<|by lia,rfl⟩
def PT:O->T->Prop
|_,.bl _=>RJ
|_,.int _=>RJ
|_,.str _=>RJ
|_,.non=>RJ
|d+1,.tup a=>∀u∈a,PT d u
|d+1,.lst a=>∀u∈a,PT d u
|_,_=>Q6
theorem fQ (m n:Md):∀a:U T,fF m n a a=a.map λt=>[(m,t),(n,t)]
|[]=>rfl
|t::a=>by show _::fF m n a a=_::_;rw[fQ m n a]
theorem Dy (m n:Md)(a b:U T):bb .zip [(m,.lst a),(n,.lst b)]=Y (fF .s .s a b):=rfl
theorem Ei (m n:Md)(a b:U T):bb .zip [(m,.tup a),(n,.tup b)]=Y (fF .s .s a b):=rfl
theorem eX:∀a:U T,bq (a.map λ_=>T.bl K1)=Y (a.map λ_=>K1)
|[]=>rfl
|_::a=>by show(bq<|a.map λ_=>T.bl K1).map _=_;rw[eX a];rfl
theorem iT:∀a:U T,(a.map λ_=>K1).all id=K1
|[]=>rfl
|_::a=>by show(K1&&(a.map λ_=>K1).all id)=K1;rw[iT a];rfl
theorem dC {b:Type}(f:b->Md)(g:b->T):∀a:U b,trees (a.map λx=>(f x,g x))=a.map g
|[]=>rfl
|x::a=>by show g x::trees _=g x::a.map g;rw[dC f g a]
theorem IL (a:U T):isOne "list" (.lst a)=true:=rfl
theorem Hj (a:U T):isOne "tuple" (.lst a)=false:=rfl
theorem Ib (a:U T):isOne "list" (.tup a)=false:=rfl
theorem GX (a:U T):isOne "tuple" (.tup a)=true:=rfl
theorem AZ (i:I):isOne "list" (.int i)=false:=rfl
theorem Bn (i:I):isOne "tuple" (.int i)=false:=rfl
theorem Bw (b:QT):isOne "list" (.bl b)=false:=rfl
theorem Bo (b:QT):isOne "tuple" (.bl b)=false:=rfl
theorem By (b:QT):isOne "bool" (.bl b)=true:=rfl
theorem Be (i:I):isOne "bool" (.int i)=false:=rfl
theorem Bf (x:Str):isOne "list" (.str x)=false:=rfl
theorem Bx (x:Str):isOne "tuple" (.str x)=false:=rfl
theorem Bp (x:Str):isOne "bool" (.str x)=false:=rfl
theorem A6:isOne "list" .non=false:=rfl
theorem A8:isOne "tuple" .non=false:=rfl
theorem Bj:isOne "bool" .non=false:=rfl
theorem Ig (h:QT)(m n:Md):oSem .eq h [(m,.non),(n,.non)]=Y (.d,.bl K1):=rfl
theorem HQ (n:O):∀(d:O) (t:T) (m m':Md),PT d t->C (n+d+1) 24 [(m,t),(m',t)]=.ok ((.d,.bl K1),[]):=by
 intro d;induction d with
 |zero=>
  intro t m m' h;rw[fG,x_run _ _ _ rfl];cases t with
  |bl b=>simp_all only[aC,LS,MC,Bw,Bo,By,Mq,MB,Q2]
  |int i=>simp_all only[aC,LS,MC,AZ,Bn,Be,Mq,MB,Q2]
  |str x=>simp_all only[aC,LS,MC,Bf,Bx,Bp,Mq,MB,Q2]
  |non=>simp_all only[aC,LS,MC,A6,A8,Bj,Mq,MB,Q2,Ig]
  |_=>exact h.elim
 | succ d k =>
  intro t m m' h;rw[show n+(d+1)+1=(n+d+1)+1 by lia,fG,x_run _ _ _ rfl];have g:∀a:U T,(∀u∈a,PT d u)->∀c e:B W,ba [2,3] (fO (evE (C (n+d+1)) (.call 24 [.var 2,.var 3]))) (a.map λt=>[((.s,t):W),(.s,t)]) [c,e,J,J] []=.ok ([]++a.map λ_=>(.d,.bl K1),[c,e,J,J]):=by intro a f c e;refine eE (λ_=>((.d,.bl K1):W)) a [] λu j=>⟨_,[c,e,Y (.s,u),Y (.s,u)],rfl,?_,rfl⟩;simp_all only[k u .s .s<|f u j]
  cases t with
  |bl b=>simp_all only[aC,LS,MC,Bw,Bo,By,Mq,MB,Q2]
  |int i=>simp_all only[aC,LS,MC,AZ,Bn,Be,Mq,MB,Q2]
  |str x=>simp_all only[aC,LS,MC,Bf,Bx,Bp,Mq,MB,Q2]
  |non=>simp_all only[aC,LS,MC,A6,A8,Bj,Mq,MB,Q2,Ig]
  |lst a=>simp_all only[aC,LS,MC,IL,Hj,Mq,MB,Q2,Dy,fQ,g a h,dC λ_=>Md.d,eX,iT]
  |tup a=>simp_all only[aC,LS,MC,Ib,GX,Mq,MB,Q2,Ei,fQ,g a h,dC λ_=>Md.d,eX,iT]
  |_=>exact h.elim
abbrev nmT (x:Str):T:=.tup [.str<|q "name",.str x]
theorem GV {a:Kd}(h:a.deep<=4):∀k∈[a],k.deep<=4:=λk hk=>by rw[Lv.mp hk];exact h
theorem iN {a b:Kd}(h:a.deep<=4)(c:b.deep<=4):∀k∈[a,b],k.deep<=4:=λk hk=>by
 rcases Lm.mp hk with rfl|hk
 .exact h
 .exact GV c k hk
theorem pj {d:O}{e:EV}{k:Kd}{t:T}(hp:∀l,C (l+2) 176 [(.s,t)]=.ok ((.s,.tup []),[]))(ho:∀l,11<=l->∃c,C l 372 [(.s,t),(.s,dE e),(.s,.lst [])]=.ok ((c,k.th),[]))(p:U O):AK d e k t p [nt p k]:=λa n f i j m h=>by obtain⟨l,rfl⟩:∃l,a=l+1:=⟨a-1,by lia⟩;obtain⟨c,ho⟩:=ho l (by lia);obtain⟨b,g⟩:∃b,l=b+2:=⟨l-2,by lia⟩;exact n6 (ins:=[]) (rs:=[]) i j m (by rw[g];exact hp b) rfl ho (by rw[Mi] at h;lia)
theorem aU {d:O}{e:EV}{x:Str}{k:Kd}(hx:e.lookup x=Y k)(p:U O):AK d e k (nmT x) p [nt p k]:=by
 refine pj (λl=>bx l _ _ (by kernel_rfl) .s) (λl c=>⟨.s,?_⟩) p;obtain⟨l,rfl⟩:∃b,l=b+1:=⟨l-1,by lia⟩;have a:keyT (.str x)=Y (.inr x):=rfl;have l1:lookD (.inr x) (dK e) (dV e)=Y k.th:=by rw[f9,hx];rfl
 rw[cN,x_run _ _ _ rfl];simp_all only[aV,qeq,a,l1,Ot]
theorem FQ {d:O}{e:EV}{s:Q4}{r:U T}{k:Kd}(hp:∀l,C (l+2) 176 [(.s,.tup (.str (q s)::r))]=.ok ((.s,.tup []),[]))(c:(q s==q "name")=K0)(a:keys_LEAVES.contains (q s)=K1)(b:tab_LEAVES.lookup (q s)=Y k.th)(p:U O):AK d e k (.tup (.str (q s)::r)) p [nt p k]:=by refine pj hp (λl g=>⟨.s,?_⟩) p;obtain⟨l,rfl⟩:∃f,l=f+1:=⟨l-1,by lia⟩;rw[cN,x_run _ _ _ rfl];simp_all only[aV,c,a,b,M5]
theorem HH {a b c:Kd}(h:a.deep<=4)(d:b.deep<=4)(e:c.deep<=4):∀k∈[a,b,c],k.deep<=4:=λk hk=>by
 rcases Lm.mp hk with rfl|hk
 .exact h
 .exact iN d e k hk
theorem bd {s:Q4}{i:O}(h:tab_BINDING.lookup (q s)=Y (.int (i:I)))(l:O)(r:U T):C (l+1) 233 [(.s,.tup (.str (q s)::r))]=.ok ((.s,.int (i:I)),[]):=by have:=pD l (q s) r .s;rw[h] at this;exact this
theorem ak1 {d:O}{e:EV}{s:Q4}{a k:Kd}{A:T}{p:U O}{f:U T}(h:Rl s [a] k)(o:nob s=K1)(hk:k.deep<=4)(m:a.deep<=4)(hp:p.length<=90)(c:AK d e a A (p++[0]) f):AK (d+1) e k (.tup [.str<|q s,A]) p (f++[nt p k]):=λb t j r g i n=>by have S:=gN h o;obtain⟨l,rfl⟩:∃l,b=l+3:=⟨b-3,by lia⟩;rw[K8,Mi] at n;rw[<- Lz];exact n6 (ins:=[a]) (rs:=[A]) r g i (bT l _ S.a .s) ((cq rfl (tA (ins:=[]) (eG S _ _) rfl (by decide) c (by lia) (by lia) (by decide) (by lia) g i J)).trans rfl) (fY h (GV m) hk (by lia) _ e)<|by rw[K8];lia
theorem ak2 {d:O}{e:EV}{s:Q4}{a b k:Kd}{A c:T}{p:U O}{j kb:U T}(h:Rl s [a,b] k)(v:nob s=K1)(hk:k.deep<=4)(r:a.deep<=4)(t:b.deep<=4)(hp:p.length<=90)(g:AK d e a A (p++[0]) j)(i:AK d e b c (p++[1]) kb):AK (d+1) e k (.tup [.str<|q s,A,c]) p (j++kb++[nt p k]):=λf x o w m n u=>by have S:=gN h v;obtain⟨l,rfl⟩:∃l,f=l+3:=⟨f-3,by lia⟩;rw[K8,K8,Mi] at u;rw[<- Lz,<- Lz];exact n6 (ins:=[a,b]) (rs:=[A,c]) w m n (bT l _ S.a .s) ((cq rfl (tA (ins:=[]) (eG S _ _) rfl (by decide) g (by lia) (by lia) (by decide) (by lia) m n J)).trans<|(cq rfl (tA (ins:=[a.th]) (eG S _ _) rfl (by decide) i (by lia) (by rw[K8];lia) (by show 1<=10;decide) (by lia) .s .s _)).trans rfl) (fY h (iN r t) hk (by lia) _ e)<|by rw[K8,K8];lia
theorem HF {d:O}{e:EV}{k:Kd}{A b D:T}{p:U O}{m kb n:U T}(hk:k.deep<=4)(hp:p.length<=90)(f:AK d e .truth A (p++[0]) m)(g:AK d e k b (p++[1]) kb)(i:AK d e k D (p++[2]) n):AK (d+1) e k (.tup [.str<|q "if",A,b,D]) p (m++kb++n++[nt p k]):=λc x t w o r u=>by
 have h:Rl "if" [.truth,k,k] k:=.ifs k;have v:nob "if"=true:=by decide
 have S:=gN h v;have j:∀a∈[Kd.truth,k,k],a.deep<=4:=HH (by decide) hk hk;obtain⟨l,rfl⟩:∃l,c=l+3:=⟨c-3,by lia⟩;rw[K8,K8,K8,Mi] at u;rw[<- Lz,<- Lz,<- Lz];exact n6 (ins:=[.truth,k,k]) (rs:=[A,b,D]) w o r (bT l _ S.a .s) ((cq rfl (tA (ins:=[]) (eG S _ _) rfl (by decide) f (by lia) (by lia) (by decide) (by lia) o r J)).trans<|(cq rfl (tA (ins:=[Kd.truth.th]) (eG S _ _) rfl (by decide) g (by lia) (by rw[K8];lia) (by show 1<=10;decide) (by lia) .s .s _)).trans<|(cq rfl (tA (ins:=[Kd.truth.th,k.th]) (eG S _ _) rfl (by decide) i (by lia) (by rw[K8,K8];lia) (by show 2<=10;decide) (by lia) .s .s _)).trans rfl) (fY h j hk (by lia) _ e)<|by rw[K8,K8,K8];lia
theorem Je {d:O}{e:EV}{x:Str}{a k:Kd}{A b:T}{p:U O}{j kb:U T}(hx:e.lookup x=J)(h:e.length<=100)(t:a.deep<=4)(hk:k.deep<=4)(hp:p.length<=90)(f:AK d e a A (p++[0]) j)(g:AK d (e++[(x,a)]) k b (p++[1]) kb):AK (d+1) e k (.tup [.str<|q "let",.str x,A,b]) p (j++kb++[nt p k]):=λc w r v n o u=>by
 have i:tab_BINDING.lookup (q "let")=Y (.int ((1:O):I)):=by kernel_rfl
 obtain⟨l,rfl⟩:∃l,c=l+3:=⟨c-3,by lia⟩;rw[K8,K8,Mi] at u;rw[<- Lz,<- Lz];exact n6 (ins:=[a,k]) (rs:=[A,b]) v n o (bx l _ _ (by kernel_rfl) .s) ((cq rfl (tA (ins:=[]) (bd i _ _) rfl (by decide) f (by lia) (by lia) (by decide) (by lia) n o J)).trans<|(cq rfl (tB (ins:=[a]) (bd i _ _) hx h (λm=>Fd l a m) g (by lia) (by rw[K8];lia) (by show 1<=10;decide) (by lia) .s .s _)).trans rfl) (fY (.lets a k) (iN t hk) hk (by lia) _ e)<|by rw[K8,K8];lia
theorem Fm {d:O}{e:EV}{x:Str}{a k:Kd}{A b:T}{p:U O}{j kb:U T}(hx:e.lookup x=J)(h:e.length<=100)(t:(Kd.row a).deep<=4)(u:k.deep<=3)(hp:p.length<=90)(f:AK d e (.row a) A (p++[0]) j)(g:AK d (e++[(x,a)]) k b (p++[1]) kb):AK (d+1) e (.row k) (.tup [.str<|q "each",.str x,A,b]) p (j++kb++[nt p<|.row k]):=λc y r w n o v=>by
 have hk:(Kd.row k).deep<=4:=by show k.deep+1<=4;lia
 have i:tab_BINDING.lookup (q "each")=Y (.int ((1:O):I)):=by kernel_rfl
 obtain⟨l,rfl⟩:∃l,c=l+3:=⟨c-3,by lia⟩;rw[K8,K8,Mi] at v;rw[<- Lz,<- Lz];exact n6 (ins:=[.row a,k]) (rs:=[A,b]) w n o (bx l _ _ (by kernel_rfl) .s) ((cq rfl (tA (ins:=[]) (bd i _ _) rfl (by decide) f (by lia) (by lia) (by decide) (by lia) n o J)).trans<|(cq rfl (tB (ins:=[.row a]) (bd i _ _) hx h (λm=>yO l a m) g (by lia) (by rw[K8];lia) (by show 1<=10;decide) (by lia) .s .s _)).trans rfl) (fY (.each a k) (iN t<|by lia) hk (by lia) _ e)<|by rw[K8,K8];lia
theorem yA {d:O}{e:EV}{x:Str}{k:Kd}{A a D:T}{p:U O}{j kb n:U T}(hx:e.lookup x=J)(i:e.length<=100)(hk:k.deep<=4)(hp:p.length<=90)(c:AK d e .num A (p++[0]) j)(f:AK d e k a (p++[1]) kb)(g:AK d (e++[(x,k)]) k D (p++[2]) n):AK (d+1) e k (.tup [.str<|q "times",.str x,A,a,D]) p (j++kb++n++[nt p k]):=λb w t v o r u=>by
 have h:tab_BINDING.lookup (q "times")=Y (.int ((2:O):I)):=by kernel_rfl
 obtain⟨l,rfl⟩:∃l,b=l+3:=⟨b-3,by lia⟩;rw[K8,K8,K8,Mi] at u;rw[<- Lz,<- Lz,<- Lz];exact n6 (ins:=[.num,k,k]) (rs:=[A,a,D]) v o r (bx l _ _ (by kernel_rfl) .s) ((cq rfl (tA (ins:=[]) (bd h _ _) rfl (by decide) c (by lia) (by lia) (by decide) (by lia) o r J)).trans<|(cq rfl (tA (ins:=[Kd.num.th]) (bd h _ _) rfl (by decide) f (by lia) (by rw[K8];lia) (by show 1<=10;decide) (by lia) .s .s _)).trans<|(cq rfl (tB (ins:=[.num,k]) (bd h _ _) hx i (λm=>tH l k m) g (by lia) (by rw[K8,K8];lia) (by show 2<=10;decide) (by lia) .s .s _)).trans rfl) (fY (.times k) (HH (by decide) hk hk) hk (by lia) _ e)<|by rw[K8,K8,K8];lia
theorem d8:∀k:Kd,noL k.th=K1
|.num=>rfl
|.truth=>rfl
|.pair a b=>by show(K1&&(noL a.th&&(noL b.th&&K1)))=K1;rw[d8 a,d8 b];rfl
|.row a=>by show(K1&&(noL a.th&&K1))=K1;rw[d8 a];rfl
theorem bD:∀p:U O,noLs (pT p)=K1
|[]=>rfl
|_::p=>by show(K1&&noLs (pT p))=K1;rw[bD p];rfl
theorem nlT (a:U T):noL (.tup a)=noLs a:=rfl
theorem nlC (t:T)(a:U T):noLs (t::a)=(noL t&&noLs a):=rfl
theorem nl0:noLs []=true:=rfl
theorem nlS (x:Str):noL (.str x)=true:=rfl
theorem nlI (i:I):noL (.int i)=true:=rfl
abbrev bQ (p:U O)(x:Str):T:=.tup [.str<|q "call",.tup<|pT p,.str x]
theorem qP (n:O)(p:U O)(x:Str)(D:T)(m a b:Md):C (n+1) 477 [(m,nmT x),(a,.tup<|pT p),(b,D)]=.ok ((.d,.lst [bQ p x]),[]):=by rw[bc,x_run _ _ _ rfl];simp_all only[aS,qeq,ai,nlT,bD,nlS]
structure S7 (s:Q4):Prop where
 c1:(q s==q "name")=K0
 c2:(q s==q "let")=K0
 c3:(q s==q "if")=K0
 c4:(q s==q "each")=K0
 c5:(q s==q "times")=K0
 c8:([(q "if",(1:I)),(q "each",1),(q "times",2)].lookup (q s))=J
def ck7 (s:Q4):QT:=!(q s==q "name")&&!(q s==q "let")&&!(q s==q "if")&&!(q s==q "each")&&!(q s==q "times")&&([(q "if",(1:I)),(q "each",1),(q "times",2)].lookup<|q s).isNone
theorem HS {s:Q4}(h:ck7 s=K1):S7 s:=by unfold ck7 at h;simp only[Li,OW,Qo] at h;obtain⟨⟨⟨⟨⟨a,b⟩,c⟩,d⟩,e⟩,f⟩:=h;exact⟨a,b,c,d,e,f⟩
theorem oW {s:Q4}{b:U Kd}{k:Kd}(h:Rl s b k)(a:nob s=K1)(c:b.length<=2):S7 s/\(q s==q "num")=K0/\(q s==q "none")=false:=by
 cases h with
 |lets=>cases a
 |each=>cases a
 |times=>cases a
 |ifs=>exact QW c<|by show¬3<=2;decide
 |_=>exact⟨HS<|by decide +kernel,by decide +kernel,by decide +kernel⟩
theorem Ae {L d:O}{e:EV}{k:Kd}{t:T}{c:U T}{a:U<|U I}{b:U T}{R:W}(g:d+12<=L)(l:(e.map LO).Nodup)(h:e.length<=100)(f:AK d e k t [] c)(hk:c.length<LIM)(hd:dtPs c=Y (a,b))(i:(decide a.Nodup&&decide (c.length<=LIM))=K1)(j:C (L+1) 477 [(.s,t),(.d,.tup []),(.s,.dtt a b)]=.ok (R,[]))(m:Md):C (L+2) 476 [(m,.tup [.tup<|eT e,t])]=.ok (R,[]):=by have hk:=λm=>mx g l h f hk m;rw[show L+2=(L+1)+1 from rfl,Aj,x_run _ _ _ rfl];simp_all only[gK,ai,hk,hd,i,j]
abbrev ee (p:U O)(s k:T)(ps:U T):T:=.tup [.str<|q "do",.tup<|pT p,s,k,.lst ps]
def RW (d:O)(D t:T)(p:U O)(R:U T):Prop:=∀a,d<=a->∀b:Md,C a 477 [(.s,t),(b,.tup<|pT p),(.s,D)]=.ok ((.d,.lst R),[])
theorem aT (p:U O)(x:Str)(D:T):RW 1 D (nmT x) p [bQ p x]:=λa c b=>by obtain⟨n,rfl⟩:∃n,a=n+1:=⟨a-1,by lia⟩;exact qP n p x D .s b .s
theorem RW.up {d b:O}{D t:T}{p:U O}{R:U T}(h:RW d D t p R)(hd:d<=b):RW b D t p R:=λa e c=>h a (by lia) c
theorem bW {d L i:O}{t D A:T}{r:U T}{p:U O}{R:U T}(e1:∀l m,C (l+2) 176 [(m,t)]=.ok ((.s,.tup r),[]))(h:atI r (i:I)=Y A)(hp:p.length<=90)(a:RW d D A (p++[i]) R)(f:d+3<=L)(b e:Md):
  C L 478 [(b,t),(.d,.int (i:I)),(e,.tup<|pT p),(.s,D)]=.ok ((.d,.lst R),[]):=by
 obtain⟨n,rfl⟩:∃n,L=n+3:=⟨L-3,by lia⟩;have e2:=λc=>a (n+2) (by lia) c;rw[show n+3=(n+2)+1 from rfl,jM,x_run _ _ _ rfl];simp_all only[bY,ai,e1,h,aR,bj<|show p.length<=100 by lia,e2]
theorem bU:∀p:U O,intsOf (pT p)=Y (p.map λ(n:O)=>(n:I))
|[]=>rfl
|n::p=>by show((intsOf<|pT p).map λr=>((n:I)::r))=_;rw[bU p];rfl
noncomputable abbrev pI' (p:U O):U I:=p.map λ(n:O)=>(n:I)
theorem gw {b:O}{s:Q4}{r:U T}{k:Kd}{j:U<|U I}{l:U T}{p:U O}(S:Sg s)(f:S7 s)(v:(q s==q "num")=K0)(x:(q s==q "none")=K0)(hp:p.length<=90)(h:lookT (pI' p) j l=Y k.th)(M:r.length<=2)(H:3<=b):C b 479 [(.s,.tup (.str (q s)::r)),(.d,.tup<|pT p),(.s,.dtt j l)]=.ok ((.d,ee p (.str<|q s) k.th<|(Lx r.length).map λi=>.tup<|pT<|p++[i]),[]):=by
 obtain⟨n,rfl⟩:∃n,b=n+3:=⟨b-3,by lia⟩;have e1:=λm=>bT n r S.a m;have z:=bU p;have o:∀c o2 o3 e:B W,ba [5] (fO (evE (C (n+2)) (.op .nl K0 [.op .catT K0 [.op .nl K0 [.var 1],.tup [.var 5]]]))) ((Lx r.length).map λ(k:O)=>[((.d,.int (k:I)):W)]) [c,Y (.s,.tup (pT p)),o2,o3,e,J] []=.ok ([]++(Lx r.length).map λi=>((.d,.tup (pT (p++[i]))):W),[c,Y (.s,.tup (pT p)),o2,o3,e,J]):=λc o2 o3 e=>eE (λi:O=>((.d,.tup<|pT<|p++[i]):W)) _ [] λi _=>⟨_,[c,Y (.s,.tup<|pT p),o2,o3,e,Y (.d,.int (i:I))],rfl,by simp_all only[ai,nlT,bD,aR,bj<|show p.length<=100 by lia],rfl⟩;have D:(decide ((r.length:I).natAbs<4611686018427387904)&&fits r.length)=true:=by rw[Li];exact⟨QV<|by lia,QV<|by show _<=16777215;lia⟩
 have F:(r.length:I).toNat=r.length:=rfl;have g:(flatT (.str (q s))&&[T.str (q "num"),.str (q "none")].all flatT)=true:=rfl;have u:([T.str (q "num"),.str (q "none")].any λt=>eqT t (.str (q s)))=false:=by show(q "num"==q s || (q "none"==q s || false))=K0;rw[Oi,v,Oi (a:=q "none"),x];rfl
 have A:((Lx r.length).map λi=>((.d,.tup (pT (p++[i]))):W)).all okD=true:=MV.mpr λw y=>by obtain⟨i,_,rfl⟩:=LR.mp y;rfl
 have G:trees ((Lx r.length).map λi=>((.d,.tup (pT (p++[i]))):W))=(Lx r.length).map λi=>.tup (pT (p++[i])):=dC (λ_=>.d) (λi=>.tup<|pT<|p++[i]) _;rw[show n+3=(n+2)+1 from rfl,cw,x_run _ _ _ rfl];simp_all only[bu,ai,nlT,bD,nl0,z,h,f.c3,f.c4,f.c5,g,u,nlS,d8,e1,D,F,o,A,G,au,aN,LX]
theorem rwA {d:O}{s:Q4}{A X D:T}{p:U O}{b:U T}(S:Sg s)(c:S7 s)(hp:p.length<=90)(j:RW d D A (p++[0]) b)(ho:∀L,3<=L->C L 479 [(.s,.tup [.str<|q s,A]),(.d,.tup<|pT p),(.s,D)]=.ok ((.d,X),[]))(v:b.length<=1000):RW (d+4) D (.tup [.str<|q s,A]) p (b++[X]):=λL u w=>by
 obtain⟨n,rfl⟩:∃n,L=n+4:=⟨L-4,by lia⟩;have e1:=λm=>bT (n+1) [A] S.a m;have ho:=ho (n+3) (by lia);have h:=λk o=>bW (i:=0) (L:=n+3) (λl m=>bT l [A] S.a m) rfl hp j (by lia) k o;have r:(decide ((([A]:U T).length:I).natAbs<4611686018427387904)&&fits ([A]:U T).length)=true:=rfl;have t:((([A]:U T).length:O):I).toNat=([A]:U T).length:=rfl;have e:Lx ([A]:U T).length=[0]:=rfl;have f:([]:U T).length+b.length<=LIM:=by show 0+_<=16777215;lia
 have g:b.length<LIM:=by show _<16777215;lia
 rw[show n+4=(n+3)+1 from rfl,bc,x_run _ _ _ rfl];simp_all only[aS,c.c1,c.c2,c.c8,N7,ai,e1,r,t,e,cV,bp,nlT,bD,h,ho,f,g,LX]
theorem rwB {d:O}{s:Q4}{A b X D:T}{p:U O}{c e:U T}(S:Sg s)(f:S7 s)(hp:p.length<=90)(v:RW d D A (p++[0]) c)(w:RW d D b (p++[1]) e)(ho:∀L,3<=L->C L 479 [(.s,.tup [.str<|q s,A,b]),(.d,.tup<|pT p),(.s,D)]=.ok ((.d,X),[]))(F:c.length+e.length<=1000):RW (d+4) D (.tup [.str<|q s,A,b]) p (c++e++[X]):=λL z G=>by
 obtain⟨n,rfl⟩:∃n,L=n+4:=⟨L-4,by lia⟩;have e1:=λm=>bT (n+1) [A,b] S.a m;have ho:=ho (n+3) (by lia);have t:=λg h=>bW (i:=0) (L:=n+3) (λl m=>bT l [A,b] S.a m) rfl hp v (by lia) g h;have u:=λg h=>bW (i:=1) (L:=n+3) (λl m=>bT l [A,b] S.a m) rfl hp w (by lia) g h;have x:(decide ((([A,b]:U T).length:I).natAbs<4611686018427387904)&&fits ([A,b]:U T).length)=true:=rfl;have y:((([A,b]:U T).length:O):I).toNat=([A,b]:U T).length:=rfl;have j:Lx ([A,b]:U T).length=[0,1]:=rfl;have k:([]:U T).length+c.length<=LIM:=by show 0+_<=16777215;lia
 have r:c.length+e.length<=LIM:=by show _<=16777215;lia
 have o:(c++e).length<LIM:=by rw[K8];show _<16777215;lia
 rw[show n+4=(n+3)+1 from rfl,bc,x_run _ _ _ rfl];simp_all only[aS,f.c1,f.c2,f.c8,N7,ai,e1,x,y,j,cV,bp,nlT,bD,t,u,ho,k,r,o,LX]
theorem Gb {d:O}{x:Str}{A a D:T}{p:U O}{c g:U T}(hp:p.length<=90)(k:RW d D A (p++[0]) c)(o:RW d D a (p++[1]) g)(v:c.length+g.length<=1000):
  RW (d+4) D (.tup [.str<|q "let",.str x,A,a]) p (c++[.tup [.str<|q "let",.str x,.tup<|pT<|p++[0]]]++g++[.tup [.str<|q "call",.tup<|pT p,.tup<|pT<|p++[1]]]):=λb u w=>by
 obtain⟨n,rfl⟩:∃n,b=n+4:=⟨b-4,by lia⟩;have h:∀e f,C (n+3) 478 [(e,.tup [.str (q "let"),.str x,A,a]),(.d,.int 0),(f,.tup (pT p)),(.s,D)]=.ok ((.d,.lst c),[]):=λe f=>bW (i:=0) (λl m=>bx l (.str x) [A,a] (by kernel_rfl) m) rfl hp k (by lia) e f;have j:∀e f,C (n+3) 478 [(e,.tup [.str (q "let"),.str x,A,a]),(.d,.int 1),(f,.tup (pT p)),(.s,D)]=.ok ((.d,.lst g),[]):=λe f=>bW (i:=1) (λl m=>bx l (.str x) [A,a] (by kernel_rfl) m) rfl hp o (by lia) e f;have p0:pT p++[T.int 0]=pT (p++[0]):=aR p 0;have t:pT p++[T.int 1]=pT (p++[1]):=aR p 1;have l1:∀y:T,fits (c.length+[y].length)=true:=λy=>QV (by show _+1<=16777215;lia);have l2:fits ((c++[T.tup [.str (q "let"),.str x,.tup (pT (p++[0]))]]).length+g.length)=true:=QV (by rw[K8];show _+1+_<=16777215;lia);have r:∀y:T,fits ((c++[T.tup [.str (q "let"),.str x,.tup (pT (p++[0]))]]++g).length+[y].length)=true:=λy=>QV (by rw[K8,K8];show _+1+_+1<=16777215;lia);rw[show n+4=(n+3)+1 from rfl,bc,x_run _ _ _ rfl];simp_all only[aS,qeq,ai,nlT,bD,nlS,p0,t,bj<|show p.length<=100 by lia,h,j,l1,l2,r]
theorem fA {d L i:O}{t D A:T}{r:U T}{p:U O}{R e:U T}(e1:∀l m,C (l+2) 176 [(m,t)]=.ok ((.s,.tup r),[]))(h:atI r (i:I)=Y A)(hp:p.length<=90)(f:RW d D A (p++[i]) R)(a:∀L,10<=L->∀m,C L 475 [(m,t),(.d,.int (i:I))]=.ok ((.d,.lst e),[]))(o:d+4<=L)(k:11<=L)(b c:Md):
  C L 480 [(b,t),(.d,.int (i:I)),(c,.tup<|pT p),(.s,D)]=.ok ((.d,.tup [.lst e,.lst R]),[]):=by
 obtain⟨n,rfl⟩:∃n,L=n+1:=⟨L-1,by lia⟩;have g:=λb c=>bW (L:=n) e1 h hp f (by lia) b c;have j:=λm=>a n (by lia) m;rw[tP,x_run _ _ _ rfl];simp_all only[fE,ai,g,j]
theorem ud {j d:O}{A g E:T}{k:Kd}{t:U<|U I}{u R1 R2 v w:U T}{p:U O}(hp:p.length<=90)(h:lookT (pI' p) t u=Y k.th)(H:RW d (.dtt t u) g (p++[1]) R1)(M:RW d (.dtt t u) E (p++[2]) R2)
  (x:∀j,10<=j->∀m,C j 475 [(m,.tup [.str<|q "if",A,g,E]),(.d,.int 1)]=.ok ((.d,.lst v),[])) (D:∀j,10<=j->∀m,C j 475 [(m,.tup [.str<|q "if",A,g,E]),(.d,.int 2)]=.ok ((.d,.lst w),[])) (hL:d+5<=j) (N:12<=j):
  C j 479 [(.s,.tup [.str<|q "if",A,g,E]),(.d,.tup<|pT p),(.s,.dtt t u)]=.ok ((.d,.tup [.str<|q "arms",.tup<|pT p,k.th,.tup<|pT<|p++[0],.lst v,.lst R1,.lst w,.lst R2]),[]):=by
 obtain⟨n,rfl⟩:∃n,j=n+1:=⟨j-1,by lia⟩;have Z:=bU p;have P:∀o r,C n 480 [(o,.tup [.str (q "if"),A,g,E]),(.d,.int 1),(r,.tup (pT p)),(.s,.dtt t u)]=.ok ((.d,.tup [.lst v,.lst R1]),[]):=λo r=>fA (i:=1) (λl m=>bT l [A,g,E] (by kernel_rfl) m) rfl hp H x (by lia) (by lia) o r;have Q:∀o r,C n 480 [(o,.tup [.str (q "if"),A,g,E]),(.d,.int 2),(r,.tup (pT p)),(.s,.dtt t u)]=.ok ((.d,.tup [.lst w,.lst R2]),[]):=λo r=>fA (i:=2) (λl m=>bT l [A,g,E] (by kernel_rfl) m) rfl hp M D (by lia) (by lia) o r;have p0:pT p++[T.int 0]=pT (p++[0]):=aR p 0;have F:∀a b c d y z:T,fits (([a,b,c,d]:U T).length+([y,z]:U T).length)=true:=λ_ _ _ _ _ _=>rfl;have G:∀a b c d e f y z:T,fits (([a,b,c,d,e,f]:U T).length+([y,z]:U T).length)=true:=λ_ _ _ _ _ _ _ _=>rfl;rw[cw,x_run _ _ _ rfl];simp_all only[bu,qeq,ai,nlT,bD,nlS,Z,h,d8,p0,bj<|show p.length<=100 by lia,P,Q,au,aN,F,G]
theorem vq {j d:O}{A g:T}{x:Str}{k:Kd}{o:U<|U I}{r R1 v:U T}{p:U O}(hp:p.length<=90)(h:lookT (pI' p) o r=Y k.th)(G:RW d (.dtt o r) g (p++[1]) R1)
  (w:∀j,10<=j->∀m,C j 475 [(m,.tup [.str<|q "each",.str x,A,g]),(.d,.int 1)]=.ok ((.d,.lst v),[])) (P:d+5<=j) (H:12<=j):
  C j 479 [(.s,.tup [.str<|q "each",.str x,A,g]),(.d,.tup<|pT p),(.s,.dtt o r)]=.ok ((.d,.tup [.str<|q "within",.tup<|pT p,k.th,.str x,.tup<|pT<|p++[0],.lst v,.lst R1]),[]):=by
 obtain⟨n,rfl⟩:∃n,j=n+1:=⟨j-1,by lia⟩;have N:=bU p;have M:∀t u,C n 480 [(t,.tup [.str (q "each"),.str x,A,g]),(.d,.int 1),(u,.tup (pT p)),(.s,.dtt o r)]=.ok ((.d,.tup [.lst v,.lst R1]),[]):=λt u=>fA (i:=1) (λl m=>bx l (.str x) [A,g] (by kernel_rfl) m) rfl hp G w (by lia) (by lia) t u;have p0:pT p++[T.int 0]=pT (p++[0]):=aR p 0;have D:∀a b c d e y z:T,fits (([a,b,c,d,e]:U T).length+([y,z]:U T).length)=true:=λ_ _ _ _ _ _ _=>rfl;have F:∀a b c d e f y z:T,fits (([a,b,c,d,e,f]:U T).length+([y,z]:U T).length)=true:=λ_ _ _ _ _ _ _ _=>rfl;rw[cw,x_run _ _ _ rfl];simp_all only[bu,qeq,ai,nlT,bD,nlS,N,h,d8,p0,bj<|show p.length<=100 by lia,M,au,aN,D,F]
theorem rN {j d:O}{o A g:T}{x:Str}{k:Kd}{r:U<|U I}{t R1 w:U T}{p:U O}(hp:p.length<=90)(h:lookT (pI' p) r t=Y k.th)(H:RW d (.dtt r t) g (p++[2]) R1)
  (D:∀j,10<=j->∀m,C j 475 [(m,.tup [.str<|q "times",.str x,o,A,g]),(.d,.int 2)]=.ok ((.d,.lst w),[])) (Z:d+5<=j) (M:12<=j):
  C j 479 [(.s,.tup [.str<|q "times",.str x,o,A,g]),(.d,.tup<|pT p),(.s,.dtt r t)]=.ok ((.d,.tup [.str<|q "rounds",.tup<|pT p,k.th,.str x,.tup<|pT<|p++[0],.tup<|pT<|p++[1],.lst w,.lst R1]),[]):=by
 obtain⟨n,rfl⟩:∃n,j=n+1:=⟨j-1,by lia⟩;have P:=bU p;have N:∀u v,C n 480 [(u,.tup [.str (q "times"),.str x,o,A,g]),(.d,.int 2),(v,.tup (pT p)),(.s,.dtt r t)]=.ok ((.d,.tup [.lst w,.lst R1]),[]):=λu v=>fA (i:=2) (λl m=>bx l (.str x) [o,A,g] (by kernel_rfl) m) rfl hp H D (by lia) (by lia) u v;have p0:pT p++[T.int 0]=pT (p++[0]):=aR p 0;have Q:pT p++[T.int 1]=pT (p++[1]):=aR p 1;have F:∀a b c d e f y z:T,fits (([a,b,c,d,e,f]:U T).length+([y,z]:U T).length)=true:=λ_ _ _ _ _ _ _ _=>rfl;have G:∀a b c d e f y z:T,fits (([a,b,c,d,e,f]:U T).length+([y,z]:U T).length)=true:=λ_ _ _ _ _ _ _ _=>rfl;rw[cw,x_run _ _ _ rfl];simp_all only[bu,qeq,ai,nlT,bD,nlS,P,h,d8,p0,Q,bj<|show p.length<=100 by lia,N,au,aN,F,G]
abbrev PK:=U<|U O×Kd
abbrev ntL (l:PK):U T:=l.map λx=>nt x.1 x.2
abbrev kyL (l:PK):U (U I):=l.map λx=>pI' x.1
abbrev vlL (l:PK):U T:=l.map λx=>x.2.th
theorem pM:∀l:PK,dtPs (ntL l)=Y (kyL l,vlL l)
|[]=>rfl
|x::l=>by show((intsOf<|pT x.1).bind λk=>(dtPs<|ntL l).map λp=>(k::p.1,x.2.th::p.2))=_;rw[bU,pM l];rfl
theorem dW:∀{l:PK} {x:U O×Kd},(kyL l).Nodup->x∈l->lookT (pI' x.1) (kyL l) (vlL l)=Y x.2.th
|[],_,_,h=>QW h LY
| y::l,x,b,h=>by
 show(if pI' y.1=pI' x.1 then Y y.2.th else lookT (pI' x.1) (kyL l)<|vlL l)=_;rcases Lm.mp h with rfl|h
 .rw[QY rfl]
 .have a:=Mg.mp<|show (pI' y.1::kyL l).Nodup from b;rw[Q0 λz=>a.1<|by rw[z];exact LR.mpr ⟨x,h,rfl⟩,dW a.2 h]
theorem AK.up {d c:O}{e:EV}{k:Kd}{t:T}{p:U O}{f:U T}(h:AK d e k t p f)(hd:d<=c):AK c e k t p f:=λa m b i j l g=>h a (by lia) b i j l g
theorem tI {e:EV}{k:Kd}{t:T}{l:PK}{R:U T}(g:(e.map LO).Nodup)(b:e.length<=100)(a:AK 7 e k t []<|ntL l)(hk:l.length<=300)(c:(kyL l).Nodup)(f:RW 37 (.dtt (kyL l)<|vlL l) t [] R)(m:Md):C 38 476 [(m,.tup [.tup<|eT e,t])]=.ok ((.d,.lst R),[]):=
 Ae (L:=36) (d:=7) (by lia) g b a (by rw[K9];show _<16777215;lia) (pM l) (by rw[QV c,QV<|by rw[K9];show _<=16777215;lia];rfl) (f 37 (by lia) .d) m
structure Wy (e:EV)(t:T)(k:Kd)(ksf:U O->PK)(R:U O->U T):Prop where
 ak:∀p,p.length<=80->AK 5 e k t p (ntL (ksf p))
 rw:∀p ks vs,p.length<=80->(∀x∈ksf p,lookT (pI' x.1) ks vs=Y x.2.th)->RW 25 (.dtt ks vs) t p (R p)
 n:∀p,(R p).length<=100
 l:∀p,(ksf p).length<=100
 dk:k.deep<=3
section
variable {e:EV}{t:T}{k o:Kd}{ksf:U O->PK}{R:U O->U T}
theorem pl0 (W:Wy e t k ksf R)(c:(e.map LO).Nodup)(b:e.length<=100)(a:(kyL<|ksf []).Nodup)(m:Md):C 38 476 [(m,.tup [.tup<|eT e,t])]=.ok ((.d,.lst<|R []),[]):=
 tI c b ((W.ak []<|by decide).up<|by decide) (by have:=W.l [];lia) a ((W.rw [] _ _ (by decide) λx hx=>dW a hx).up<|by decide) m
abbrev t1 (t:T):T:=.tup [.str<|q "pair",nmT<|q "e",t]
noncomputable abbrev l1 (o k:Kd)(l:PK)(p:U O):PK:=[(p++[0],o)]++l++[(p,.pair o k)]
abbrev rr1 (o k:Kd)(R:U T)(p:U O):U T:=[bQ (p++[0])<|q "e"]++R++[ee p (.str<|q "pair") (Kd.pair o k).th [.tup<|pT<|p++[0],.tup<|pT<|p++[1]]]
theorem g9 (o k:Kd):Rl "pair" [o,k] (.pair o k):=by constructor
theorem wy1 (W:Wy e t k ksf R)(l:e.lookup (q "e")=Y o)(ho:o.deep<=3)(p:U O)(hp:p.length<=60):AK 6 e (.pair o k) (t1 t) p (ntL<|l1 o k (ksf<|p++[1]) p)/\∀c f,(∀x∈l1 o k (ksf<|p++[1]) p,lookT (pI' x.1) c f=Y x.2.th)->RW 29 (.dtt c f) (t1 t) p (rr1 o k (R<|p++[1]) p):=by
 have w:=W.dk;have i:(p++[1]).length<=80:=by rw[K8];show _+1<=80;lia
 have g:(Kd.pair o k).deep<=4:=by show max o.deep k.deep+1<=4;lia
 obtain⟨h,u,v⟩:=oW (g9 o k) (by decide) (by show 2<=2;decide);have S:=gN (g9 o k) (by decide);refine⟨?_,λc f b=>?_⟩
 .have:=ak2 (d:=5) (g9 o k) (by decide) g (by lia) (by lia) (by lia) (aU l<|p++[0])<|W.ak (p++[1]) i;rw[show ntL (l1 o k (ksf<|p++[1]) p)=[nt (p++[0]) o]++ntL (ksf<|p++[1])++[nt p<|.pair o k] by rw[ntL,L9,L9];rfl];exact this
 .have s:=W.rw (p++[1]) c f i fun x hx=>b x<|Mv _<|Lw _ hx;have m:=b (p,.pair o k)<|Lw _<|Lv.mpr rfl;exact rwB (d:=25) S h (by lia) ((aT (p++[0]) (q "e") _).up<|by decide) s (λa j=>gw (r:=[nmT<|q "e",t]) S h u v (by lia) m (by show 2<=2;decide) j) (by have:=W.n<|p++[1];show 1+_<=1000;lia)
theorem pl1 (W:Wy e t k ksf R)(h:(e.map LO).Nodup)(g:e.length<=100)(f:e.lookup (q "e")=Y o)(ho:o.deep<=3)(c:(kyL<|l1 o k (ksf [1]) []).Nodup)(m:Md):C 38 476 [(m,.tup [.tup<|eT e,t1 t])]=.ok ((.d,.lst<|rr1 o k (R [1]) []),[]):=by obtain⟨a,b⟩:=wy1 W f ho [] (by decide);exact tI h g (a.up<|by decide) (by have:=W.l<|[]++[1];rw[K8,K8];show 1+_+1<=300;lia) c ((b _ _ λx hx=>dW c hx).up<|by decide) m
abbrev t2 (t:T):T:=.tup [.str<|q "second",t1 t]
abbrev l2 (o k:Kd)(l:PK):PK:=l1 o k l [0]++[([],k)]
abbrev rr2 (o k:Kd)(R:U T):U T:=rr1 o k R [0]++[ee [] (.str<|q "second") k.th [.tup<|pT [0]]]
theorem Eh (o k:Kd):Rl "second" [.pair o k] k:=by constructor
theorem pl2 (W:Wy e t k ksf R)(D:(e.map LO).Nodup)(u:e.length<=100)(s:e.lookup (q "e")=Y o)(ho:o.deep<=3)(g:(kyL<|l2 o k<|ksf [0,1]).Nodup)(m:Md):C 38 476 [(m,.tup [.tup<|eT e,t2 t])]=.ok ((.d,.lst<|rr2 o k<|R [0,1]),[]):=by
 obtain⟨a,b⟩:=wy1 W s ho [0] (by decide);have F:=W.dk;have h:(Kd.pair o k).deep<=4:=by show max o.deep k.deep+1<=4;lia
 obtain⟨i,z,A⟩:=oW (Eh o k) (by decide) (by show 1<=2;decide);have S:=gN (Eh o k) (by decide);have f:=ak1 (d:=6) (p:=[]) (Eh o k) (by decide) (by lia) h (by decide) a;have f:AK 7 e k (t2 t) [] (ntL (l2 o k (ksf [0,1]))):=by rw[show ntL (l2 o k<|ksf [0,1])=ntL (l1 o k (ksf<|[0]++[1]) [0])++[nt [] k] by rw[ntL,L9];rfl];exact f
 have y:=b _ _ λx hx=>dW g<|Mv _ hx;have v:=dW g (x:=([],k))<|Lw _<|Lv.mpr rfl;have w:=rwA (d:=29) (p:=[]) S i (by decide) y (λc j=>gw (r:=[t1 t]) S i z A (by decide) v (by show 1<=2;decide) j) (by have:=W.n<|[0]++[1];rw[K8,K8];show 1+_+1<=1000;lia);exact tI D u f (by have:=W.l [0,1];rw[K8,K8,K8];show 1+_+1+1<=300;lia) g (w.up<|by decide) m
end
theorem GN {d:O}{A a E X D:T}{p:U O}{b:U T}(hp:p.length<=90)(k:RW d D A (p++[0]) b)(ho:∀L,21<=L->C L 479 [(.s,.tup [.str<|q "if",A,a,E]),(.d,.tup<|pT p),(.s,D)]=.ok ((.d,X),[]))(t:b.length<=1000)(hd:d<=18):RW 22 D (.tup [.str<|q "if",A,a,E]) p (b++[X]):=λL r u=>by
 obtain⟨n,rfl⟩:∃n,L=n+4:=⟨L-4,by lia⟩;have e1:=λm=>bT (n+1) (s:=q "if") [A,a,E] (by kernel_rfl) m;have ho:=ho (n+3) (by lia);have j:∀c e,C (n+3) 478 [(c,.tup [.str (q "if"),A,a,E]),(.d,.int ((0:O):I)),(e,.tup (pT p)),(.s,D)]=.ok ((.d,.lst b),[]):=λc e=>bW (i:=0) (L:=n+3) (λl m=>bT l (s:=q "if") [A,a,E] (by kernel_rfl) m) rfl hp k (by lia) c e;have h:([(q "if",(1:I)),(q "each",1),(q "times",2)].lookup (q "if"))=Y 1:=by kernel_rfl
 have o:(decide ((1:I).natAbs<4611686018427387904)&&fits (1:I).toNat)=true:=rfl;have f:([]:U T).length+b.length<=LIM:=by show 0+_<=16777215;lia
 have g:b.length<LIM:=by show _<16777215;lia
 rw[show n+4=(n+3)+1 from rfl,bc,x_run _ _ _ rfl];simp_all only[aS,qeq,h,Ot,ai,e1,o,r1,Ln,Ma,cV,bp,nlT,bD,j,ho,f,g,LX]
theorem Fo {d:O}{x:Str}{A a X D:T}{p:U O}{b:U T}(hp:p.length<=90)(k:RW d D A (p++[0]) b)(ho:∀L,21<=L->C L 479 [(.s,.tup [.str<|q "each",.str x,A,a]),(.d,.tup<|pT p),(.s,D)]=.ok ((.d,X),[]))(t:b.length<=1000)(hd:d<=18):RW 22 D (.tup [.str<|q "each",.str x,A,a]) p (b++[X]):=λL r u=>by
 obtain⟨n,rfl⟩:∃n,L=n+4:=⟨L-4,by lia⟩;have e1:=λm=>bx (n+1) (s:=q "each") (.str x) [A,a] (by kernel_rfl) m;have ho:=ho (n+3) (by lia);have j:∀c e,C (n+3) 478 [(c,.tup [.str (q "each"),.str x,A,a]),(.d,.int ((0:O):I)),(e,.tup (pT p)),(.s,D)]=.ok ((.d,.lst b),[]):=λc e=>bW (i:=0) (L:=n+3) (λl m=>bx l (s:=q "each") (.str x) [A,a] (by kernel_rfl) m) rfl hp k (by lia) c e;have h:([(q "if",(1:I)),(q "each",1),(q "times",2)].lookup (q "each"))=Y 1:=by kernel_rfl
 have o:(decide ((1:I).natAbs<4611686018427387904)&&fits (1:I).toNat)=true:=rfl;have f:([]:U T).length+b.length<=LIM:=by show 0+_<=16777215;lia
 have g:b.length<LIM:=by show _<16777215;lia
 rw[show n+4=(n+3)+1 from rfl,bc,x_run _ _ _ rfl];simp_all only[aS,qeq,h,Ot,ai,e1,o,r1,Ln,Ma,cV,bp,nlT,bD,j,ho,f,g,LX]
theorem zG {d:O}{x:Str}{b A a X D:T}{p:U O}{c g:U T}(hp:p.length<=90)(u:RW d D b (p++[0]) c)(v:RW d D A (p++[1]) g)(ho:∀L,21<=L->C L 479 [(.s,.tup [.str<|q "times",.str x,b,A,a]),(.d,.tup<|pT p),(.s,D)]=.ok ((.d,X),[]))(z:c.length+g.length<=1000)(hd:d<=18):RW 22 D (.tup [.str<|q "times",.str x,b,A,a]) p (c++g++[X]):=λL y F=>by
 obtain⟨n,rfl⟩:∃n,L=n+4:=⟨L-4,by lia⟩;have e1:=λm=>bx (n+1) (s:=q "times") (.str x) [b,A,a] (by kernel_rfl) m;have ho:=ho (n+3) (by lia);have r:∀e f,C (n+3) 478 [(e,.tup [.str (q "times"),.str x,b,A,a]),(.d,.int ((0:O):I)),(f,.tup (pT p)),(.s,D)]=.ok ((.d,.lst c),[]):=λe f=>bW (i:=0) (L:=n+3) (λl m=>bx l (s:=q "times") (.str x) [b,A,a] (by kernel_rfl) m) rfl hp u (by lia) e f;have t:∀e f,C (n+3) 478 [(e,.tup [.str (q "times"),.str x,b,A,a]),(.d,.int ((1:O):I)),(f,.tup (pT p)),(.s,D)]=.ok ((.d,.lst g),[]):=λe f=>bW (i:=1) (L:=n+3) (λl m=>bx l (s:=q "times") (.str x) [b,A,a] (by kernel_rfl) m) rfl hp v (by lia) e f;have o:([(q "if",(1:I)),(q "each",1),(q "times",2)].lookup (q "times"))=Y 2:=by kernel_rfl
 have w:(decide ((2:I).natAbs<4611686018427387904)&&fits (2:I).toNat)=true:=rfl;have h:([]:U T).length+c.length<=LIM:=by show 0+_<=16777215;lia
 have k:c.length+g.length<=LIM:=by show _<=16777215;lia
 have j:(c++g).length<LIM:=by rw[K8];show _<16777215;lia
 rw[show n+4=(n+3)+1 from rfl,bc,x_run _ _ _ rfl];simp_all only[aS,qeq,o,Ot,ai,e1,w,r2,Ln,Ma,cV,bp,nlT,bD,r,t,ho,h,k,j,LX]
abbrev nS (s:Q4):T:=nmT<|q s
abbrev e5 (a o:Kd):EV:=[(q "rowe",.truth),(q "q",a),(q "b",a),(q "some",.row a),(q "e",o)]
abbrev tr0:T:=.tup [.str<|q "if",nS "rowe",.tup [.str<|q "pair",nS "q",nS "b"],.tup [.str<|q "pair",nS "q",nS "q"]]
abbrev tr4:T:=.tup [.str<|q "if",nS "rowe",nS "q",nS "q"]
abbrev tr1:T:=.tup [.str<|q "let",.str<|q "zz",.tup [.str<|q "one",nS "b"],.tup [.str<|q "long",nS "zz"]]
abbrev tr2:T:=.tup [.str<|q "each",.str<|q "addy",nS "some",.tup [.str<|q "join",.tup [.str<|q "one",nS "addy"],nS "some"]]
abbrev tr3 (i:I):T:=.tup [.str<|q "times",.str<|q "x",.tup [.str<|q "num",.int i],nS "some",.tup [.str<|q "join",nS "x",.tup [.str<|q "one",nS "q"]]]
theorem br {t:T}{i:I}{b:U T}(h:∀l m,C (l+10) 475 [(m,t),(.d,.int i)]=.ok ((.d,.lst b),[])):∀a,10<=a->∀m,C a 475 [(m,t),(.d,.int i)]=.ok ((.d,.lst b),[]):=λa c m=>by obtain⟨l,rfl⟩:∃l,a=l+10:=⟨a-10,by lia⟩;exact h l m
theorem KH (l:O)(m:Md):C (l+10) 475 [(m,tr0),(.d,.int 1)]=.ok ((.d,.lst [.str<|q "b",.str<|q "q"]),[]):=by kernel_rfl
theorem Jp (l:O)(m:Md):C (l+10) 475 [(m,tr0),(.d,.int 2)]=.ok ((.d,.lst [.str<|q "q"]),[]):=by kernel_rfl
theorem JB (l:O)(m:Md):C (l+10) 475 [(m,tr4),(.d,.int 1)]=.ok ((.d,.lst [.str<|q "q"]),[]):=by kernel_rfl
theorem JC (l:O)(m:Md):C (l+10) 475 [(m,tr4),(.d,.int 2)]=.ok ((.d,.lst [.str<|q "q"]),[]):=by kernel_rfl
theorem Kh (l:O)(m:Md):C (l+10) 475 [(m,tr2),(.d,.int 1)]=.ok ((.d,.lst [.str<|q "some"]),[]):=by kernel_rfl
theorem JK (i:I)(l:O)(m:Md):C (l+10) 475 [(m,tr3 i),(.d,.int 2)]=.ok ((.d,.lst [.str<|q "q"]),[]):=by kernel_rfl
section
variable (a o:Kd)
theorem lkR:(e5 a o).lookup (q "rowe")=Y .truth:=by kernel_rfl
theorem lkQ:(e5 a o).lookup (q "q")=Y a:=by kernel_rfl
theorem lkB:(e5 a o).lookup (q "b")=Y a:=by kernel_rfl
theorem lkS:(e5 a o).lookup (q "some")=Y (.row a):=by kernel_rfl
theorem lkE:(e5 a o).lookup (q "e")=Y o:=by kernel_rfl
theorem E4:((e5 a o).map LO).Nodup:=by show([q "rowe",q "q",q "b",q "some",q "e"]:U Str).Nodup;decide +kernel
end
theorem lp1 {p:U O}{n i:O}(h:p.length<=n):(p++[i]).length<=n+1:=by rw[K8];exact NH h
theorem pe {d:O}{s:Q4}{a k:Kd}{A:T}{p:U O}{e:U<|U I}{f c:U T}(r:Rl s [a] k)(i:nob s=K1)(hp:p.length<=90)(l:RW d (.dtt e f) A (p++[0]) c)(h:lookT (pI' p) e f=Y k.th)(m:c.length<=1000):RW (d+4) (.dtt e f) (.tup [.str<|q s,A]) p (c++[ee p (.str<|q s) k.th [.tup<|pT<|p++[0]]]):=by obtain⟨g,n,o⟩:=oW r i (by show 1<=2;decide);have S:=gN r i;exact rwA S g hp l (λb j=>gw (r:=[A]) S g n o hp h (by show 1<=2;decide) j) m
theorem oN {d:O}{s:Q4}{a b k:Kd}{A c:T}{p:U O}{f:U<|U I}{g i j:U T}(r:Rl s [a,b] k)(m:nob s=K1)(hp:p.length<=90)(o:RW d (.dtt f g) A (p++[0]) i)(t:RW d (.dtt f g) c (p++[1]) j)(h:lookT (pI' p) f g=Y k.th)(u:i.length+j.length<=1000):RW (d+4) (.dtt f g) (.tup [.str<|q s,A,c]) p (i++j++[ee p (.str<|q s) k.th [.tup<|pT<|p++[0],.tup<|pT<|p++[1]]]):=by obtain⟨l,v,w⟩:=oW r m (by show 2<=2;decide);have S:=gN r m;exact rwB S l hp o t (λe n=>gw (r:=[A,c]) S l v w hp h (by show 2<=2;decide) n) u
abbrev rpr (p:U O)(x y:Q4)(k:Kd):U T:=[bQ (p++[0])<|q x,bQ (p++[1])<|q y,ee p (.str<|q "pair") k.th [.tup<|pT<|p++[0],.tup<|pT<|p++[1]]]
section
variable (a o:Kd)
abbrev ks0 (p:U O):PK:=[(p++[0],.truth),(p++[1]++[0],a),(p++[1]++[1],a),(p++[1],.pair a a),(p++[2]++[0],a),(p++[2]++[1],a),(p++[2],.pair a a),(p,.pair a a)]
abbrev R0 (p:U O):U T:=[bQ (p++[0])<|q "rowe",.tup [.str<|q "arms",.tup<|pT p,(Kd.pair a a).th,.tup<|pT<|p++[0],.lst [.str<|q "b",.str<|q "q"],.lst<|rpr (p++[1]) "q" "b"<|.pair a a,.lst [.str<|q "q"],.lst<|rpr (p++[2]) "q" "q"<|.pair a a]]
theorem wy0 (m:a.deep<=1):Wy (e5 a o) tr0 (.pair a a) (ks0 a) (R0 a):=by
 have hk:(Kd.pair a a).deep<=4:=by show max a.deep a.deep+1<=4;lia
 refine⟨λp hp=>?_,λp c e hp h=>?_,λp=>by show 2<=100;decide,λp=>by show 8<=100;decide,by show max a.deep a.deep+1<=3;lia⟩
 .exact(HF (d:=1) hk (by lia) (aU (lkR a o) _) (ak2 (d:=0) (g9 a a) (by decide) hk (by lia) (by lia) (Lf (lp1 hp)<|by decide) (aU (lkQ a o) _)<|aU (lkB a o) _)<|ak2 (d:=0) (g9 a a) (by decide) hk (by lia) (by lia) (Lf (lp1 hp)<|by decide) (aU (lkQ a o) _)<|aU (lkQ a o) _).up<|by decide
 .have f:=h (p++[1],.pair a a) (by simp);have g:=h (p++[2],.pair a a) (by simp);have i:=h (p,.pair a a) (by simp);have j:RW 5 (.dtt c e) (.tup [.str (q "pair"),nS "q",nS "b"]) (p++[1]) (rpr (p++[1]) "q" "b" (.pair a a)):=oN (d:=1) (g9 a a) (by decide) (Lf (lp1 hp)<|by decide) (aT _ _ _) (aT _ _ _) f (by show 2<=1000;decide);have k:RW 5 (.dtt c e) (.tup [.str (q "pair"),nS "q",nS "q"]) (p++[2]) (rpr (p++[2]) "q" "q" (.pair a a)):=oN (d:=1) (g9 a a) (by decide) (Lf (lp1 hp)<|by decide) (aT _ _ _) (aT _ _ _) g (by show 2<=1000;decide);exact(GN (d:=1) (by lia) (aT _ _ _) (λb l=>ud (by lia) i j k (br KH) (br Jp) (by lia)<|by lia) (by show 1<=1000;decide)<|by decide).up<|by decide
abbrev ks4 (p:U O):PK:=[(p++[0],.truth),(p++[1],a),(p++[2],a),(p,a)]
abbrev R4 (p:U O):U T:=[bQ (p++[0])<|q "rowe",.tup [.str<|q "arms",.tup<|pT p,a.th,.tup<|pT<|p++[0],.lst [.str<|q "q"],.lst [bQ (p++[1])<|q "q"],.lst [.str<|q "q"],.lst [bQ (p++[2])<|q "q"]]]
theorem wy4 (f:a.deep<=1):Wy (e5 a o) tr4 a (ks4 a) (R4 a):=by
 refine⟨λp hp=>?_,λp g i hp h=>?_,λp=>by show 2<=100;decide,λp=>by show 4<=100;decide,by lia⟩
 .exact(HF (d:=0) (by lia) (by lia) (aU (lkR a o) _) (aU (lkQ a o) _)<|aU (lkQ a o) _).up<|by decide
 .have c:=h (p,a) (by simp);exact(GN (d:=1) (by lia) (aT _ _ _) (λb e=>ud (d:=1) (by lia) c (aT _ _ _) (aT _ _ _) (br JB) (br JC) (by lia)<|by lia) (by show 1<=1000;decide)<|by decide).up<|by decide
noncomputable abbrev ks1 (p:U O):PK:=[(p++[0]++[0],a),(p++[0],.row a),(p++[1]++[0],.row a),(p++[1],.num),(p,.num)]
abbrev R1 (p:U O):U T:=[bQ (p++[0]++[0])<|q "b",ee (p++[0]) (.str<|q "one") (Kd.row a).th [.tup<|pT<|p++[0]++[0]],.tup [.str<|q "let",.str<|q "zz",.tup<|pT<|p++[0]],bQ (p++[1]++[0])<|q "zz",ee (p++[1]) (.str<|q "long") Kd.num.th [.tup<|pT<|p++[1]++[0]],.tup [.str<|q "call",.tup<|pT p,.tup<|pT<|p++[1]]]
theorem Jw (f:a.deep<=1):Wy (e5 a o) tr1 .num (ks1 a) (R1 a):=by
 have b:(Kd.row a).deep<=4:=by show a.deep+1<=4;lia
 refine⟨λp hp=>?_,λp g i hp h=>?_,λp=>by show 6<=100;decide,λp=>by show 5<=100;decide,by decide⟩
 .exact(Je (d:=1) (by kernel_rfl) (by show 5<=100;decide) b (by decide) (by lia) (ak1 (d:=0) (.one a) (by decide) b (by lia) (Lf (lp1 hp)<|by decide)<|aU (lkB a o) _)<|ak1 (d:=0) (.long a) (by decide) (by decide) b (Lf (lp1 hp)<|by decide)<|aU (by kernel_rfl) _).up<|by decide
 .have c:=h (p++[0],.row a) (by simp);have e:=h (p++[1],.num) (by simp);exact(Gb (d:=5) (by lia) (pe (d:=1) (.one a) (by decide) (Lf (lp1 hp)<|by decide) (aT _ _ _) c<|by show 1<=1000;decide) (pe (d:=1) (.long a) (by decide) (Lf (lp1 hp)<|by decide) (aT _ _ _) e<|by show 1<=1000;decide)<|by show 2+2<=1000;decide).up<|by decide
end
theorem yB {L:O}{i:I}{b:U<|U I}{c:U T}{p:U O}(h:lookT (pI' p) b c=Y Kd.num.th)(o:4<=L):C L 479 [(.s,.tup [.str<|q "num",.int i]),(.d,.tup<|pT p),(.s,.dtt b c)]=.ok ((.d,ee p (.tup [.str<|q "num",.int i]) Kd.num.th []),[]):=by
 obtain⟨n,rfl⟩:∃n,L=n+3:=⟨L-3,by lia⟩;have e1:=λm=>bx n (s:=q "num") (.int i) [] (by kernel_rfl) m;have f:=bU p;have g:(flatT (.str (q "num"))&&[T.str (q "num"),.str (q "none")].all flatT)=true:=rfl;have e:([T.str (q "num"),.str (q "none")].any λt=>eqT t (.str (q "num")))=true:=by kernel_rfl
 have k:(decide ((([]:U T).length:I).natAbs<4611686018427387904)&&fits ([]:U T).length)=true:=rfl;have l:((([]:U T).length:O):I).toNat=([]:U T).length:=rfl;have a:Lx ([]:U T).length=[]:=rfl;have j:([]:U W).all okD=true:=rfl;rw[show n+3=(n+2)+1 from rfl,cw,x_run _ _ _ rfl];simp_all only[bu,qeq,ai,nlT,bD,nl0,nlC,f,h,g,e,nlS,nlI,d8,e1,k,l,a,ba,j,au,aN,P4]
theorem Ft {i:I}{b:U<|U I}{c:U T}{p:U O}(h:lookT (pI' p) b c=Y Kd.num.th):RW 6 (.dtt b c) (.tup [.str<|q "num",.int i]) p [ee p (.tup [.str<|q "num",.int i]) Kd.num.th []]:=λL j k=>by
 obtain⟨n,rfl⟩:∃n,L=n+4:=⟨L-4,by lia⟩;have e1:=λm=>bx (n+1) (s:=q "num") (.int i) [] (by kernel_rfl) m;have ho:=yB (L:=n+3) (i:=i) (p:=p) h (by lia);have e:([(q "if",(1:I)),(q "each",1),(q "times",2)].lookup (q "num"))=none:=by kernel_rfl
 have f:(decide ((([]:U T).length:I).natAbs<4611686018427387904)&&fits ([]:U T).length)=true:=rfl;have g:((([]:U T).length:O):I).toNat=([]:U T).length:=rfl;have a:Lx ([]:U T).length=[]:=rfl;have d:([]:U T).length<LIM:=by decide
 rw[show n+4=(n+3)+1 from rfl,bc,x_run _ _ _ rfl];simp_all only[aS,qeq,e,N7,ai,e1,f,g,a,cV,nlT,bD,ho,d,LX]
section
variable (a o:Kd)
noncomputable abbrev ks2 (p:U O):PK:=[(p++[0],.row a),(p++[1]++[0]++[0],a),(p++[1]++[0],.row a),(p++[1]++[1],.row a),(p++[1],.row a),(p,.row<|.row a)]
abbrev R2 (p:U O):U T:=[bQ (p++[0])<|q "some",.tup [.str<|q "within",.tup<|pT p,(Kd.row<|.row a).th,.str<|q "addy",.tup<|pT<|p++[0],.lst [.str<|q "some"],.lst [bQ (p++[1]++[0]++[0])<|q "addy",ee (p++[1]++[0]) (.str<|q "one") (Kd.row a).th [.tup<|pT<|p++[1]++[0]++[0]],bQ (p++[1]++[1])<|q "some",ee (p++[1]) (.str<|q "join") (Kd.row a).th [.tup<|pT<|p++[1]++[0],.tup<|pT<|p++[1]++[1]]]]]
theorem wy2 (k:a.deep<=1):Wy (e5 a o) tr2 (.row<|.row a) (ks2 a) (R2 a):=by
 have l:(Kd.row a).deep<=2:=by show a.deep+1<=2;lia
 refine⟨λp hp=>?_,λp m n hp h=>?_,λp=>by show 2<=100;decide,λp=>by show 6<=100;decide,by show a.deep+1+1<=3;lia⟩
 .have c:(p++[1]).length<=81:=lp1 hp;exact(Fm (d:=2) (a:=a) (by kernel_rfl) (by show 5<=100;decide) (by lia) (by lia) (by lia) (aU (lkS a o) _)<|ak2 (d:=1) (.join a) (by decide) (by lia) (by lia) (by lia) (by lia) (ak1 (d:=0) (.one a) (by decide) (by lia) (by lia) (Lf (lp1 c)<|by decide)<|aU (by kernel_rfl) _)<|aU (by kernel_rfl) _).up<|by decide
 .have c:(p++[1]).length<=81:=lp1 hp;have e:=h (p++[1]++[0],.row a) (by simp);have f:=h (p++[1],.row a) (by simp);have g:=h (p,.row<|.row a) (by simp);have i:=oN (d:=5) (.join a) (by decide) (by lia) (pe (d:=1) (.one a) (by decide) (Lf (lp1 c)<|by decide) (aT (p++[1]++[0]++[0]) (q "addy") _) e<|by show 1<=1000;decide) ((aT (p++[1]++[1]) (q "some") _).up<|by decide) f (by show 2+1<=1000;decide);exact(Fo (d:=1) (by lia) (aT _ _ _) (λb j=>vq (d:=9) (by lia) g i (br Kh) (by lia)<|by lia) (by show 1<=1000;decide)<|by decide).up<|by decide
noncomputable abbrev ks3 (p:U O):PK:=[(p++[0],.num),(p++[1],.row a),(p++[2]++[0],.row a),(p++[2]++[1]++[0],a),(p++[2]++[1],.row a),(p++[2],.row a),(p,.row a)]
abbrev R3 (i:I)(p:U O):U T:=[ee (p++[0]) (.tup [.str<|q "num",.int i]) Kd.num.th [],bQ (p++[1])<|q "some",.tup [.str<|q "rounds",.tup<|pT p,(Kd.row a).th,.str<|q "x",.tup<|pT<|p++[0],.tup<|pT<|p++[1],.lst [.str<|q "q"],.lst [bQ (p++[2]++[0])<|q "x",bQ (p++[2]++[1]++[0])<|q "q",ee (p++[2]++[1]) (.str<|q "one") (Kd.row a).th [.tup<|pT<|p++[2]++[1]++[0]],ee (p++[2]) (.str<|q "join") (Kd.row a).th [.tup<|pT<|p++[2]++[0],.tup<|pT<|p++[2]++[1]]]]]
theorem wy3 (i:I)(t:a.deep<=1):Wy (e5 a o) (tr3 i) (.row a) (ks3 a) (R3 a i):=by
 have u:(Kd.row a).deep<=2:=by show a.deep+1<=2;lia
 refine⟨λp hp=>?_,λp v w hp h=>?_,λp=>by show 3<=100;decide,λp=>by show 7<=100;decide,by lia⟩
 .have c:(p++[2]).length<=81:=lp1 hp;exact(yA (d:=2) (k:=.row a) (by kernel_rfl) (by show 5<=100;decide) (by lia) (by lia) (FQ (s:="num") (r:=[.int i]) (k:=.num) (λl=>bx l (s:=q "num") (.int i) [] (by kernel_rfl) .s) (by kernel_rfl) (by kernel_rfl) (by kernel_rfl) _) (aU (lkS a o) _)<|ak2 (d:=1) (.join a) (by decide) (by lia) (by lia) (by lia) (by lia) (aU (by kernel_rfl) _)<|ak1 (d:=0) (.one a) (by decide) (by lia) (by lia) (Lf (lp1 c)<|by decide)<|aU (by kernel_rfl) _).up<|by decide
 .have c:(p++[2]).length<=81:=lp1 hp;have e:=h (p++[0],.num) (by simp);have f:=h (p++[2]++[1],.row a) (by simp);have g:=h (p++[2],.row a) (by simp);have j:=h (p,.row a) (by simp);have m:=oN (d:=5) (.join a) (by decide) (by lia) ((aT (p++[2]++[0]) (q "x") _).up<|by decide) (pe (d:=1) (.one a) (by decide) (Lf (lp1 c)<|by decide) (aT (p++[2]++[1]++[0]) (q "q") _) f<|by show 1<=1000;decide) g (by show 1+2<=1000;decide);exact(zG (d:=6) (by lia) (Ft e) ((aT _ _ _).up<|by decide) (λb n=>rN (d:=9) (by lia) j m (br<|JK i) (by lia)<|by lia) (by show 1+1<=1000;decide)<|by decide).up<|by decide
end
theorem oD:∀{d a:O} {t:T},PT d t->d<=a->PT a t
|d,0,t,h,hd=>by cases Nat.le_zero.mp hd;exact h
|0,a+1,t,h,_=>by cases t<;>first|trivial|exact h.elim
|d+1,a+1,t,h,hd=>by cases t<;>first|trivial|exact h.elim|exactλu b=>oD (h u b)<|Nat.le_of_succ_le_succ hd
theorem pn {P:T->Prop}:∀u∈([]:U T),P u:=λu h=>nomatch h
theorem pc {P:T->Prop}{a:T}{b:U T}(h:P a)(c:∀u∈b,P u):∀u∈a::b,P u:=List.forall_mem_cons.mpr ⟨h,c⟩
theorem pS (d:O)(x:Str):PT d (.str x):=by cases d<;>trivial
theorem pI (d:O)(i:I):PT d (.int i):=by cases d<;>trivial
theorem ptT {d:O}{a:U T}(h:∀u∈a,PT d u):PT (d+1) (.tup a):=h
theorem ptL {d:O}{a:U T}(h:∀u∈a,PT d u):PT (d+1) (.lst a):=h
theorem pW:∀k:Kd,PT (k.deep+1) k.th
|.num=>ptT<|pc (pS _ _) pn
|.truth=>ptT<|pc (pS _ _) pn
|.pair a b=>ptT<|pc (pS _ _)<|pc (oD (pW a)<|by show a.deep+1<=max a.deep b.deep+1;lia)<|pc (oD (pW b)<|by show b.deep+1<=max a.deep b.deep+1;lia) pn
|.row a=>ptT<|pc (pS _ _)<|pc (pW a) pn
theorem pk {k:Kd}(d:O)(h:k.deep<=4):PT (d+5) k.th:=oD (pW k)<|by lia
theorem ptP (d:O)(p:U O):PT (d+1) (.tup<|pT p):=ptT λu a=>by obtain⟨i,_,rfl⟩:=LR.mp a;exact pI _ _
theorem A7:∀{d:O} {t:T},PT d t->dp t<=d
|_,.bl _,_=>LH _
|_,.int _,_=>LH _
|_,.str _,_=>LH _
|_,.non,_=>LH _
|d+1,.tup a,h=>NH<|dl a h
|d+1,.lst a,h=>NH<|dl a h
|0,.tup _,h=>h.elim
|0,.lst _,h=>h.elim
|0,.dct _ _,h=>h.elim
|_+1,.dct _ _,h=>h.elim
|0,.ins _ _ _,h=>h.elim
|_+1,.ins _ _ _,h=>h.elim
|0,.obj _ _ _,h=>h.elim
|_+1,.obj _ _ _,h=>h.elim
|0,.dtt _ _,h=>h.elim
|_+1,.dtt _ _,h=>h.elim
|0,.scr _,h=>h.elim
|_+1,.scr _,h=>h.elim
|0,.gone,h=>h.elim
|_+1,.gone,h=>h.elim
where dl {d:O}:∀a:U T,(∀u∈a,PT d u)->dps a<=d
 |[],_=>LH _
 |t::a,h=>Nat.max_le.mpr ⟨A7<|h t Lg,dl a λu b=>h u<|Lr _ b⟩
theorem zL:∀{a:U T},(∀u∈a,szS u=K1)->szSs a=K1
|[],_=>rfl
|t::a,h=>by show(szS t&&szSs a)=K1;rw[h t Lg,zL λu b=>h u<|Lr _ b];rfl
theorem zT {a:U T}(b:a.length<=1000)(h:∀u∈a,szS u=K1):szS (.tup a)=true:=by show(decide (a.length<LIM)&&szSs a)=K1;rw[zL h,QV (show a.length<LIM by show _<16777215;lia)];rfl
theorem zLs {a:U T}(b:a.length<=1000)(h:∀u∈a,szS u=K1):szS (.lst a)=true:=zT b h
theorem zS (x:Str):szS (.str x)=true:=rfl
theorem zI (x:I):szS (.int x)=true:=rfl
theorem zth:∀k:Kd,szS k.th=K1
|.num=>rfl
|.truth=>rfl
|.pair a b=>zT (LI rfl)<|pc (zS _)<|pc (zth a)<|pc (zth b) pn
|.row a=>zT (LI rfl)<|pc (zS _)<|pc (zth a) pn
theorem zP {p:U O}(h:p.length<=100):szS (.tup<|pT p)=true:=zT (by rw[K9];lia) λu a=>by obtain⟨i,_,rfl⟩:=LR.mp a;rfl
theorem eO:∀k:Kd,nl k.th=0
|.num=>rfl
|.truth=>rfl
|.pair a b=>by show 0+(nl a.th+(nl b.th+0))=0;rw[eO a,eO b]
|.row a=>by show 0+(nl a.th+0)=0;rw[eO a]
theorem dM:∀p:U O,nls (pT p)=0
|[]=>rfl
|i::p=>by show 0+nls (pT p)=0;rw[dM p]
theorem cS:∀a b:U T,nls (a++b)=nls a+nls b
|[],b=>by show nls b=0+nls b;lia
|t::a,b=>by show nl t+nls (a++b)=nl t+nls a+nls b;rw[cS a b];lia
structure Gd (R:U T):Prop where
 p:∀u∈R,PT 14 u
 z:∀u∈R,szS u=K1
 n:nls R<=100
 l:R.length<=100
theorem Gq {R:U T}(G:Gd R):C 38 486 [(.d,.lst R)]=.ok ((.d,.gone),[]):=by have hd:dp (.lst R)<=15:=A7 (d:=15)<|ptL G.p;have a:szS (.lst R)=true:=zLs (by have:=G.l;lia) G.z;rw[show(38:O)=37+1 from rfl,kB];show(if((lf .d (.lst R)==.d)&&(decide (dp (.lst R)<=37)&&decide (dp (.lst R)<=64)&&(szS (.lst R)&&decide (nl (.lst R)<LIM))))=K1 then _ else _)=_;rw[QV<|show dp (.lst R)<=37 by lia,QV<|show dp (.lst R)<=64 by lia,a,QV (show nl (.lst R)<LIM by have:=G.n;show nls R+1<16777215;lia)];rfl
theorem gY {R:U T}{e:EV}{t:T}(G:Gd R)(c:∀m,C 38 476 [(m,.tup [.tup<|eT e,t])]=.ok ((.d,.lst R),[]))(g h:Md):C 39 487 [(g,.lst R),(h,.tup [.tup<|eT e,t])]=.ok ((.d,.bl K1),[]):=by have b:∀m a,C 38 24 [(m,.lst R),(a,.lst R)]=.ok ((.d,.bl K1),[]):=λm a=>HQ 22 15 (.lst R) m a<|ptL G.p;have f:=Gq G;rw[show(39:O)=38+1 from rfl,jQ,x_run _ _ _ rfl];simp_all only[bX,ai,c,b,f]
theorem BG {o k:Kd}{R:U T}{p:U O}(G:Gd R)(e:R.length<=50)(f:nls R<=50)(h:(Kd.pair o k).deep<=4)(hp:p.length<=50):Gd (rr1 o k R p)/\(rr1 o k R p).length<=60/\nls (rr1 o k R p)<=60:=by
 have b:∀i,(p++[i]).length<=100:=λi=>by rw[K8];show _+1<=100;lia
 have c:(rr1 o k R p).length<=60:=by rw[K8,K8];show 1+_+1<=60;lia
 have d:nls (rr1 o k R p)<=60:=by
  rw[cS,cS];have e1:nls [bQ (p++[0]) (q "e")]=0:=by show(0+(nls (pT<|p++[0])+(0+0)))+0=0;rw[dM]
  have e2:nls [ee p (.str (q "pair")) (Kd.pair o k).th [.tup (pT (p++[0])),.tup (pT (p++[1]))]]=1:=by show(0+(nls (pT p)+(0+(nl (Kd.pair o k).th+(nls (pT<|p++[0])+(nls (pT<|p++[1])+0)+1+0)))))+0=1;rw[dM,dM,dM,eO]
  lia
 refine⟨⟨λu a=>?_,λu a=>?_,by lia,by lia⟩,c,d⟩
 .rcases LL.mp a with a | a
  .rcases LL.mp a with a | a
   .rw[Lv.mp a];exact ptT<|pc (pS _ _)<|pc (ptP _ _)<|pc (pS _ _) pn
   .exact G.p u a
  .rw[Lv.mp a];exact ptT<|pc (pS _ _)<|pc (ptP _ _)<|pc (pS _ _)<|pc (pk 8 h)<|pc (ptL<|pc (ptP _ _)<|pc (ptP _ _) pn) pn
 .rcases LL.mp a with a | a
  .rcases LL.mp a with a | a
   .rw[Lv.mp a];exact zT (LI rfl)<|pc (zS _)<|pc (zP<|b _)<|pc (zS _) pn
   .exact G.z u a
  .rw[Lv.mp a];exact zT (LI rfl)<|pc (zS _)<|pc (zP<|by lia)<|pc (zS _)<|pc (zth _)<|pc (zLs (LI rfl)<|pc (zP<|b _)<|pc (zP<|b _) pn) pn
theorem Hd {o k:Kd}{R:U T}(G:Gd R)(b:R.length<=50)(c:nls R<=50)(h:(Kd.pair o k).deep<=4)(hk:k.deep<=4):Gd (rr2 o k R):=by
 obtain⟨g,l1,d⟩:=BG (p:=[0]) G b c h (by decide);have e2:nls [ee [] (.str (q "second")) k.th [.tup (pT [0])]]=1:=by show(0+(0+(0+(nl k.th+(nls (pT [0])+0+1+0)))))+0=1;rw[dM,eO]
 refine⟨λu a=>?_,λu a=>?_,by rw[cS];lia,by rw[K8];show _+1<=100;lia⟩
 .rcases LL.mp a with a | a
  .exact g.p u a
  .rw[Lv.mp a];exact ptT<|pc (pS _ _)<|pc (ptP _ _)<|pc (pS _ _)<|pc (pk 8 hk)<|pc (ptL<|pc (ptP _ _) pn) pn
 .rcases LL.mp a with a | a
  .exact g.z u a
  .rw[Lv.mp a];exact zT (LI rfl)<|pc (zS _)<|pc (zP<|by decide)<|pc (zS _)<|pc (zth _)<|pc (zLs (LI rfl)<|pc (zP<|by decide) pn) pn
theorem gd0 {a:Kd}(h:a.deep<=1){p:U O}(hp:p.length<=50):Gd (R0 a p)/\(R0 a p).length<=50/\nls (R0 a p)<=50:=by
 have c:(Kd.pair a a).deep<=4:=by show max a.deep a.deep+1<=4;lia
 have d:(Kd.row a).deep<=4:=by show a.deep+1<=4;lia
 have e:(Kd.row (.row a)).deep<=4:=by show a.deep+1+1<=4;lia
 have f:a.deep<=4:=by lia
 have g:Kd.num.deep<=4:=by decide
 have b:nls (R0 a p)<=50:=by simp only[nls,nl,eO,dM];lia
 refine⟨⟨?_,?_,by lia,by show 2<=100;decide⟩,by show 2<=50;decide,b⟩
 .repeat' first
   |with_reducible exact pn
   |with_reducible exact pS _ _
   |with_reducible exact pI _ _
   |with_reducible exact pk _<|by assumption
   |with_reducible exact ptP _ _
   |with_reducible refine ptT ?_
   |with_reducible refine ptL ?_
   |with_reducible refine pc ?_ ?_
 .repeat' first
   |with_reducible exact pn
   |with_reducible exact zS _
   |with_reducible exact zI _
   |with_reducible exact zth _
   |with_reducible exact zP<|by first|lia|(simp only[K8,Lk,MT];lia)
   |with_reducible refine zT (LI rfl) ?_
   |with_reducible refine zLs (LI rfl) ?_
   |with_reducible refine pc ?_ ?_
theorem gd4 {a:Kd}(h:a.deep<=1){p:U O}(hp:p.length<=50):Gd (R4 a p)/\(R4 a p).length<=50/\nls (R4 a p)<=50:=by
 have c:(Kd.pair a a).deep<=4:=by show max a.deep a.deep+1<=4;lia
 have d:(Kd.row a).deep<=4:=by show a.deep+1<=4;lia
 have e:(Kd.row (.row a)).deep<=4:=by show a.deep+1+1<=4;lia
 have f:a.deep<=4:=by lia
 have g:Kd.num.deep<=4:=by decide
 have b:nls (R4 a p)<=50:=by simp only[nls,nl,eO,dM];lia
 refine⟨⟨?_,?_,by lia,by show 2<=100;decide⟩,by show 2<=50;decide,b⟩
 .repeat' first
   |with_reducible exact pn
   |with_reducible exact pS _ _
   |with_reducible exact pI _ _
   |with_reducible exact pk _<|by assumption
   |with_reducible exact ptP _ _
   |with_reducible refine ptT ?_
   |with_reducible refine ptL ?_
   |with_reducible refine pc ?_ ?_
 .repeat' first
   |with_reducible exact pn
   |with_reducible exact zS _
   |with_reducible exact zI _
   |with_reducible exact zth _
   |with_reducible exact zP<|by first|lia|(simp only[K8,Lk,MT];lia)
   |with_reducible refine zT (LI rfl) ?_
   |with_reducible refine zLs (LI rfl) ?_
   |with_reducible refine pc ?_ ?_
theorem gd1 {a:Kd}(h:a.deep<=1){p:U O}(hp:p.length<=50):Gd (R1 a p)/\(R1 a p).length<=50/\nls (R1 a p)<=50:=by
 have c:(Kd.pair a a).deep<=4:=by show max a.deep a.deep+1<=4;lia
 have d:(Kd.row a).deep<=4:=by show a.deep+1<=4;lia
 have e:(Kd.row (.row a)).deep<=4:=by show a.deep+1+1<=4;lia
 have f:a.deep<=4:=by lia
 have g:Kd.num.deep<=4:=by decide
 have b:nls (R1 a p)<=50:=by simp only[nls,nl,eO,dM];lia
 refine⟨⟨?_,?_,by lia,by show 6<=100;decide⟩,by show 6<=50;decide,b⟩
 .repeat' first
   |with_reducible exact pn
   |with_reducible exact pS _ _
   |with_reducible exact pI _ _
   |with_reducible exact pk _<|by assumption
   |with_reducible exact ptP _ _
   |with_reducible refine ptT ?_
   |with_reducible refine ptL ?_
   |with_reducible refine pc ?_ ?_
 .repeat' first
   |with_reducible exact pn
   |with_reducible exact zS _
   |with_reducible exact zI _
   |with_reducible exact zth _
   |with_reducible exact zP<|by first|lia|(simp only[K8,Lk,MT];lia)
   |with_reducible refine zT (LI rfl) ?_
   |with_reducible refine zLs (LI rfl) ?_
   |with_reducible refine pc ?_ ?_
theorem gd2 {a:Kd}(h:a.deep<=1){p:U O}(hp:p.length<=50):Gd (R2 a p)/\(R2 a p).length<=50/\nls (R2 a p)<=50:=by
 have c:(Kd.pair a a).deep<=4:=by show max a.deep a.deep+1<=4;lia
 have d:(Kd.row a).deep<=4:=by show a.deep+1<=4;lia
 have e:(Kd.row (.row a)).deep<=4:=by show a.deep+1+1<=4;lia
 have f:a.deep<=4:=by lia
 have g:Kd.num.deep<=4:=by decide
 have b:nls (R2 a p)<=50:=by simp only[nls,nl,eO,dM];lia
 refine⟨⟨?_,?_,by lia,by show 2<=100;decide⟩,by show 2<=50;decide,b⟩
 .repeat' first
   |with_reducible exact pn
   |with_reducible exact pS _ _
   |with_reducible exact pI _ _
   |with_reducible exact pk _<|by assumption
   |with_reducible exact ptP _ _
   |with_reducible refine ptT ?_
   |with_reducible refine ptL ?_
   |with_reducible refine pc ?_ ?_
 .repeat' first
   |with_reducible exact pn
   |with_reducible exact zS _
   |with_reducible exact zI _
   |with_reducible exact zth _
   |with_reducible exact zP<|by first|lia|(simp only[K8,Lk,MT];lia)
   |with_reducible refine zT (LI rfl) ?_
   |with_reducible refine zLs (LI rfl) ?_
   |with_reducible refine pc ?_ ?_
theorem gd3 {a:Kd}{i:I}(h:a.deep<=1){p:U O}(hp:p.length<=50):Gd (R3 a i p)/\(R3 a i p).length<=50/\nls (R3 a i p)<=50:=by
 have c:(Kd.pair a a).deep<=4:=by show max a.deep a.deep+1<=4;lia
 have d:(Kd.row a).deep<=4:=by show a.deep+1<=4;lia
 have e:(Kd.row (.row a)).deep<=4:=by show a.deep+1+1<=4;lia
 have f:a.deep<=4:=by lia
 have g:Kd.num.deep<=4:=by decide
 have b:nls (R3 a i p)<=50:=by simp only[nls,nl,eO,dM];lia
 refine⟨⟨?_,?_,by lia,by show 3<=100;decide⟩,by show 3<=50;decide,b⟩
 .repeat' first
   |with_reducible exact pn
   |with_reducible exact pS _ _
   |with_reducible exact pI _ _
   |with_reducible exact pk _<|by assumption
   |with_reducible exact ptP _ _
   |with_reducible refine ptT ?_
   |with_reducible refine ptL ?_
   |with_reducible refine pc ?_ ?_
 .repeat' first
   |with_reducible exact pn
   |with_reducible exact zS _
   |with_reducible exact zI _
   |with_reducible exact zth _
   |with_reducible exact zP<|by first|lia|(simp only[K8,Lk,MT];lia)
   |with_reducible refine zT (LI rfl) ?_
   |with_reducible refine zLs (LI rfl) ?_
   |with_reducible refine pc ?_ ?_
theorem pT2 (p:U O)(i j:O):pT p++[T.int (i:I),T.int (j:I)]=pT (p++[i]++[j]):=by rw[pT,pT,L9,L9,Lz];rfl
theorem pT3 (p:U O)(i j k:O):pT p++[T.int (i:I),T.int (j:I),T.int (k:I)]=pT (p++[i]++[j]++[k]):=by rw[pT,pT,L9,L9,L9,Lz,Lz];rfl
theorem pF2 {p:U O}(h:p.length<=100)(x y:T):fits ((pT p).length+[x,y].length)=true:=QV<|by rw[K9];show _+2<=16777215;lia
theorem pF3 {p:U O}(h:p.length<=100)(x y z:T):fits ((pT p).length+[x,y,z].length)=true:=QV<|by rw[K9];show _+3<=16777215;lia
theorem la1 (x:T):[x].length<LIM:=by show 1<16777215;decide
theorem la2 (x y:T):[x,y].length<LIM:=by show 2<16777215;decide
theorem la3 (x y z:T):[x,y,z].length<LIM:=by show 3<16777215;decide
theorem la4 (x y z w:T):[x,y,z,w].length<LIM:=by show 4<16777215;decide
theorem la5 (x y z w v:T):[x,y,z,w,v].length<LIM:=by show 5<16777215;decide
theorem fc (x y z w:T):fits ([x,y,z].length+[w].length)=true:=rfl
theorem fc4 (x y z v w:T):fits ([x,y,z,v].length+[w].length)=true:=rfl
section
variable {a:Kd}{p:U O}
theorem zc (hp:p.length<=90)(g h:Md):C 38 481 [(g,a.th),(h,.tup<|pT p)]=.ok ((.o .s,.tup [tr0,.lst<|R0 a p,(Kd.pair a a).th]),[]):=by
 have b:p.length<=100:=by lia
 have i:pT p++[T.int 0]=pT (p++[0]):=aR p 0;have j:pT p++[T.int 1]=pT (p++[1]):=aR p 1;have k:pT p++[T.int 2]=pT (p++[2]):=aR p 2;have c:pT p++[T.int 1,T.int 0]=pT (p++[1]++[0]):=pT2 p 1 0;have d:pT p++[T.int 1,T.int 1]=pT (p++[1]++[1]):=pT2 p 1 1;have e:pT p++[T.int 2,T.int 0]=pT (p++[2]++[0]):=pT2 p 2 0;have f:pT p++[T.int 2,T.int 1]=pT (p++[2]++[1]):=pT2 p 2 1;rw[show(38:O)=37+1 from rfl,k8,x_run _ _ _ rfl];simp_all only[cI,ai,au,aN,bj b,pF2 b,i,j,k,c,d,e,f,la1,la2,la3,fc];rfl
theorem AF (hp:p.length<=90)(c d:Md):C 38 485 [(c,a.th),(d,.tup<|pT p)]=.ok ((.o .s,.tup [tr4,.lst<|R4 a p,a.th]),[]):=by
 have b:p.length<=100:=by lia
 have e:pT p++[T.int 0]=pT (p++[0]):=aR p 0;have f:pT p++[T.int 1]=pT (p++[1]):=aR p 1;have g:pT p++[T.int 2]=pT (p++[2]):=aR p 2;rw[show(38:O)=37+1 from rfl,lK,x_run _ _ _ rfl];simp_all only[cG,ai,au,aN,bj b,pF2 b,e,f,g,la1,la2,la3,fc]
theorem Er (hp:p.length<=90)(e f:Md):C 38 482 [(e,a.th),(f,.tup<|pT p)]=.ok ((.o<|.o .s,.tup [tr1,.lst<|R1 a p,Kd.num.th]),[]):=by
 have b:p.length<=100:=by lia
 have g:pT p++[T.int 0]=pT (p++[0]):=aR p 0;have h:pT p++[T.int 1]=pT (p++[1]):=aR p 1;have d:pT p++[T.int 1,T.int 0]=pT (p++[1]++[0]):=pT2 p 1 0;have c:pT p++[T.int 0,T.int 0]=pT (p++[0]++[0]):=pT2 p 0 0;rw[show(38:O)=37+1 from rfl,mZ,x_run _ _ _ rfl];simp_all only[da,ai,au,aN,bj b,pF2 b,g,h,d,c,la1,la2,la3,la4,la5,fc];rfl
theorem zQ (hp:p.length<=90)(f g:Md):C 38 483 [(f,a.th),(g,.tup<|pT p)]=.ok ((.o .s,.tup [tr2,.lst<|R2 a p,(Kd.row<|.row a).th]),[]):=by
 have b:p.length<=100:=by lia
 have h:pT p++[T.int 0]=pT (p++[0]):=aR p 0;have i:pT p++[T.int 1]=pT (p++[1]):=aR p 1;have d:pT p++[T.int 1,T.int 0]=pT (p++[1]++[0]):=pT2 p 1 0;have e:pT p++[T.int 1,T.int 1]=pT (p++[1]++[1]):=pT2 p 1 1;have c:pT p++[T.int 1,T.int 0,T.int 0]=pT (p++[1]++[0]++[0]):=pT3 p 1 0 0;rw[show(38:O)=37+1 from rfl,kO,x_run _ _ _ rfl];simp_all only[cJ,ai,au,aN,bj b,pF2 b,pF3 b,h,i,d,e,c,la1,la2,la3,la4,la5,fc];rfl
theorem xm (i:I)(hp:p.length<=90)(f g h:Md):C 38 484 [(f,a.th),(g,.tup<|pT p),(h,.int i)]=.ok ((.o .s,.tup [tr3 i,.lst<|R3 a i p,(Kd.row a).th]),[]):=by
 have b:p.length<=100:=by lia
 have j:pT p++[T.int 0]=pT (p++[0]):=aR p 0;have k:pT p++[T.int 1]=pT (p++[1]):=aR p 1;have l:pT p++[T.int 2]=pT (p++[2]):=aR p 2;have d:pT p++[T.int 2,T.int 0]=pT (p++[2]++[0]):=pT2 p 2 0;have e:pT p++[T.int 2,T.int 1]=pT (p++[2]++[1]):=pT2 p 2 1;have c:pT p++[T.int 2,T.int 1,T.int 0]=pT (p++[2]++[1]++[0]):=pT3 p 2 1 0;rw[show(38:O)=37+1 from rfl,jP,x_run _ _ _ rfl];simp_all only[b6,ai,au,aN,bj b,pF2 b,pF3 b,j,k,l,d,e,c,la1,la2,la3,la4,la5,fc,fc4];rfl
theorem xN {o:Kd}{i:I}(hp:p.length<=90)(w:O)(N:w<5)(D M:Md):∃F,(F=.o .s\/F=.o (.o .s))/\∀t k R,(w=0/\t=tr0/\k=Kd.pair a a/\R=R0 a p\/w=4/\t=tr4/\k=a/\R=R4 a p\/w=1/\t=tr1/\k=Kd.num/\R=R1 a p\/w=2/\t=tr2/\k=Kd.row (.row a)/\R=R2 a p\/w=3/\t=tr3 i/\k=Kd.row a/\R=R3 a i p) ->
  C 39 488 [(.s,a.th),(.s,o.th),(D,.int i),(.d,.int (w:I)),(M,.tup<|pT p)]=.ok ((F,.tup [t,.lst R,k.th]),[]):=by
 have e:(((0:O):I)==0)=true:=rfl;have z:(((4:O):I)==0)=false:=rfl;have A:(((4:O):I)==4)=true:=rfl;have f:(((1:O):I)==0)=false:=rfl;have j:(((1:O):I)==4)=false:=rfl;have g:(((1:O):I)==1)=true:=rfl;have l:(((2:O):I)==0)=false:=rfl;have r:(((2:O):I)==4)=false:=rfl;have m:(((2:O):I)==1)=false:=rfl;have n:(((2:O):I)==2)=true:=rfl;have u:(((3:O):I)==0)=false:=rfl;have y:(((3:O):I)==4)=false:=rfl;have v:(((3:O):I)==1)=false:=rfl;have x:(((3:O):I)==2)=false:=rfl;have G:=λb c=>zc (a:=a) hp b c;have H:=λb c=>AF (a:=a) hp b c;have e1:=λb c=>Er (a:=a) hp b c;have e2:=λb c=>zQ (a:=a) hp b c;have e3:=λb c D=>xm (a:=a) i hp b c D;rw[show(39:O)=38+1 from rfl,lC];refine⟨if w=1 then .o (.o .s) else .o .s,by split<;>simp,λt k R h=>?_⟩;rw[x_run _ _ _ rfl];rcases h with⟨rfl,rfl,rfl,rfl⟩|⟨rfl,rfl,rfl,rfl⟩|⟨rfl,rfl,rfl,rfl⟩|⟨rfl,rfl,rfl,rfl⟩|⟨rfl,rfl,rfl,rfl⟩
 .simp_all only [aZ,ai,au,aN,e,G];rfl
 .simp_all only [aZ,ai,au,aN,z,A,H];rfl
 .simp_all only[aZ,ai,au,aN,f,j,g,e1]
 .simp_all only [aZ,ai,au,aN,l,r,m,n,e2];rfl
 .simp_all only [aZ,ai,au,aN,u,y,v,x,e3];rfl
end
structure Wa (a o:Kd)(i:I)(w:O)(t:T)(k:Kd)(ksf:U O->PK)(R:U O->U T):Prop where
 W:Wy (e5 a o) t k ksf R
 g:∀p,p.length<=50->Gd (R p)/\(R p).length<=50/\nls (R p)<=50
 n0:(kyL (ksf [])).Nodup
 n1:(kyL (l1 o k (ksf [1]) [])).Nodup
 n2:(kyL (l2 o k (ksf [0,1]))).Nodup
 l:lf .s t=.s
 td:∀p,p.length<=90->∀m2 m4,∃md,(md=.o .s\/md=.o (.o .s))/\C 39 488 [(.s,a.th),(.s,o.th),(m2,.int i),(.d,.int (w:I)),(m4,.tup (pT p))]=.ok ((md,.tup [t,.lst (R p),k.th]),[])
theorem BL (a o:Kd)(i:I)(d:a.deep<=1)(w:O)(l:w<5):∃t k j R,Wa a o i w t k j R:=by
 have g:=λp hp b c=>xN (a:=a) (p:=p) (o:=o) (i:=i) hp w l b c;rcases(show w=0\/w=1\/w=2\/w=3\/w=4 by lia) with rfl|rfl|rfl|rfl|rfl
 .refine ⟨_,_,_,_,wy0 a o d,fun p hp=>gd0 d hp,QU<|by kernel_rfl,QU<|by kernel_rfl,QU<|by kernel_rfl,rfl,fun p hp b c=>?_⟩;obtain⟨f,h,e⟩:=g p hp b c;exact⟨f,h,e _ _ _<|.inl ⟨rfl,rfl,rfl,rfl⟩⟩
 .refine ⟨_,_,_,_,Jw a o d,fun p hp=>gd1 d hp,QU<|by kernel_rfl,QU<|by kernel_rfl,QU<|by kernel_rfl,rfl,fun p hp b c=>?_⟩;obtain⟨f,h,e⟩:=g p hp b c;exact⟨f,h,e _ _ _<|.inr<|.inr<|.inl ⟨rfl,rfl,rfl,rfl⟩⟩
 .refine ⟨_,_,_,_,wy2 a o d,fun p hp=>gd2 d hp,QU<|by kernel_rfl,QU<|by kernel_rfl,QU<|by kernel_rfl,rfl,fun p hp b c=>?_⟩;obtain⟨f,h,e⟩:=g p hp b c;exact⟨f,h,e _ _ _<|.inr<|.inr<|.inr<|.inl ⟨rfl,rfl,rfl,rfl⟩⟩
 .refine ⟨_,_,_,_,wy3 a o i d,fun p hp=>gd3 d hp,QU<|by kernel_rfl,QU<|by kernel_rfl,QU<|by kernel_rfl,rfl,fun p hp b c=>?_⟩;obtain⟨f,h,e⟩:=g p hp b c;exact⟨f,h,e _ _ _<|.inr<|.inr<|.inr<|.inr ⟨rfl,rfl,rfl,rfl⟩⟩
 .refine ⟨_,_,_,_,wy4 a o d,fun p hp=>gd4 d hp,QU<|by kernel_rfl,QU<|by kernel_rfl,QU<|by kernel_rfl,rfl,fun p hp b c=>?_⟩;obtain⟨f,h,e⟩:=g p hp b c;exact⟨f,h,e _ _ _<|.inr<|.inl ⟨rfl,rfl,rfl,rfl⟩⟩
abbrev lB:U S:=[.asgT (.q [2,3] [4,6]) [7,8,9]<|.call 488 [.var 2,.var 3,.var 4,.var 6,.tup []],.ite (.q [5,7,8] []) (.not<|.call 487 [.var 8,.tup [.var 5,.var 7]]) [.ret []<|.cst<|.bl K0] [],.asgT (.q [2,3] [4,6]) [7,8,9]<|.call 488 [.var 2,.var 3,.var 4,.var 6,.tup [.cst<|.int 1]],.asg (.q [3,9] []) 10<|.tup [.cst<|.str<|q "pair",.var 3,.var 9],.asg (.q [8] []) 8<|.op .add K0 [.lst K0 [.tup [.cst<|.str<|q "call",.tup [.cst<|.int 0],.cst<|.str<|q "e"]],.var 8],.app (.q [10] []) 8<|.tup [.cst<|.str<|q "do",.tup [],.cst<|.str<|q "pair",.var 10,.lst K0 [.tup [.cst<|.int 0],.tup [.cst<|.int 1]]],.ite (.q [5,7,8] []) (.not<|.call 487 [.var 8,.tup [.var 5,.tup [.cst<|.str<|q "pair",.tup [.cst<|.str<|q "name",.cst<|.str<|q "e"],.var 7]]]) [.ret []<|.cst<|.bl K0] [],.asgT (.q [2,3] [4,6]) [7,8,9]<|.call 488 [.var 2,.var 3,.var 4,.var 6,.tup [.cst<|.int 0,.cst<|.int 1]],.asg (.q [3,9] []) 10<|.tup [.cst<|.str<|q "pair",.var 3,.var 9],.asg (.q [8] []) 8<|.op .add K0 [.lst K0 [.tup [.cst<|.str<|q "call",.tup [.cst<|.int 0,.cst<|.int 0],.cst<|.str<|q "e"]],.var 8],.app (.q [10] []) 8<|.tup [.cst<|.str<|q "do",.tup [.cst<|.int 0],.cst<|.str<|q "pair",.var 10,.lst K0 [.tup [.cst<|.int 0,.cst<|.int 0],.tup [.cst<|.int 0,.cst<|.int 1]]],.app (.q [9] []) 8<|.tup [.cst<|.str<|q "do",.tup [],.cst<|.str<|q "second",.var 9,.lst K0 [.tup [.cst<|.int 0]]],.asg (.q [7] []) 11<|.tup [.cst<|.str<|q "second",.tup [.cst<|.str<|q "pair",.tup [.cst<|.str<|q "name",.cst<|.str<|q "e"],.var 7]],.ite (.q [5,8,11] []) (.not<|.call 487 [.var 8,.tup [.var 5,.var 11]]) [.ret []<|.cst<|.bl K0] []]
abbrev Lb (i j:O):U S:=(lB.drop i).take j
section
variable {a o:Kd}{i:I}{w:O}{t:T}{k:Kd}{ksf:U O->PK}{R:U O->U T}
abbrev TE (a o:Kd)(i:I)(w:O)(h j:B W)(e f g:Md)(l m n b c:B W):Env:=[h,j,Y (e,a.th),Y (f,o.th),Y (.d,.int i),Y (g,.tup<|eT<|e5 a o),Y (.d,.int (w:I)),l,m,n,b,c]
theorem tA0 (h:Wa a o i w t k ksf R)(ho:o.deep<=2)(y z:B W)(H M x:Md)(P Q Z m n:B W):∃p r u b c,evSs (C 39) (Lb 0 2) (TE a o i w y z H M x P Q Z m n)=.nx (TE a o i w y z .s .s x p r u b c):=by
 obtain⟨N,D,e⟩:=h.td [] (by decide) .d .d;have dk:=h.W.dk;have F:(Kd.pair o k).deep<=4:=by show max o.deep k.deep+1<=4;lia
 obtain⟨G,gl,gn⟩:=h.g [] (by decide);have A:∀f j,C 39 487 [(f,.lst (R [])),(j,.tup [.tup [.tup [.str (q "rowe"),Kd.truth.th],.tup [.str (q "q"),a.th],.tup [.str (q "b"),a.th],.tup [.str (q "some"),(Kd.row a).th],.tup [.str (q "e"),o.th]],t])]=.ok ((.d,.bl K1),[]):=λf j=>gY G (pl0 h.W (E4 a o) (by show 5<=100;decide) h.n0) f j;have v:=h.l;have e:C 39 488 [(.s,a.th),(.s,o.th),(.d,.int i),(.d,.int (w:I)),(.d,.tup [])]=.ok ((N,.tup [t,.lst (R []),k.th]),[]):=e;rcases D with rfl|rfl
 .exact⟨_,_,_,_,_,by simp_all only[Lb,lB,TE,Mu,Mr,MD,Mw,ai,au,aN,e,v,A];rfl⟩
 .exact⟨_,_,_,_,_,by simp_all only[Lb,lB,TE,Mu,Mr,MD,Mw,ai,au,aN,e,v,A];rfl⟩
theorem tA1 (h:Wa a o i w t k ksf R)(ho:o.deep<=2)(H M:B W)(m2 m3 F:Md)(o7 o8 o9 n r:B W):∃u v x b c,evSs (C 39) (Lb 2 5) (TE a o i w H M m2 m3 F o7 o8 o9 n r)=.nx (TE a o i w H M .s .s F u v x b c):=by
 obtain⟨md,Z,e⟩:=h.td [1] (by decide) .d .d;have dk:=h.W.dk;have f:(Kd.pair o k).deep<=4:=by show max o.deep k.deep+1<=4;lia
 obtain⟨G,P,Q⟩:=h.g [1] (by decide);have N:∀j m,C 39 487 [(j,.lst (.tup [.str (q "call"),.tup [.int 0],.str (q "e")]::(R [1]++[.tup [.str (q "do"),.tup [],.str (q "pair"),.tup [.str (q "pair"),o.th,k.th],.lst [.tup [.int 0],.tup [.int 1]]]]))),(m,.tup [.tup [.tup [.str (q "rowe"),Kd.truth.th],.tup [.str (q "q"),a.th],.tup [.str (q "b"),a.th],.tup [.str (q "some"),(Kd.row a).th],.tup [.str (q "e"),o.th]],.tup [.str (q "pair"),.tup [.str (q "name"),.str (q "e")],t]])]=.ok ((.d,.bl K1),[]):=λj m=>gY (BG (p:=[]) G P Q f<|by decide).1 (pl1 h.W (E4 a o) (by show 5<=100;decide) (lkE a o) (by lia) h.n1) j m;have D:=h.l;have e:C 39 488 [(.s,a.th),(.s,o.th),(.d,.int i),(.d,.int (w:I)),(.d,.tup [.int 1])]=.ok ((md,.tup [t,.lst (R [1]),k.th]),[]):=e;have z:∀y:T,fits ([y].length+(R [1]).length)=true:=λy=>QV (by show 1+_<=16777215;lia);have A:∀y:T,(y::R [1]).length<LIM:=λy=>by show _+1<16777215;lia
 rcases Z with rfl|rfl
 .exact⟨_,_,_,_,_,by simp_all only[Lb,lB,TE,Mu,Mr,MD,Mw,ai,au,aN,e,D,N,z,A,OC,Nl,LX];rfl⟩
 .exact⟨_,_,_,_,_,by simp_all only[Lb,lB,TE,Mu,Mr,MD,Mw,ai,au,aN,e,D,N,z,A,OC,Nl,LX];rfl⟩
theorem tA2 (h:Wa a o i w t k ksf R)(ho:o.deep<=2)(M N:B W)(m2 m3 H:Md)(o7 o8 o9 n p:B W):∃r u v b c,evSs (C 39) (Lb 7 7) (TE a o i w M N m2 m3 H o7 o8 o9 n p)=.nx (TE a o i w M N .s .s H r u v b c):=by
 obtain⟨md,hm,e⟩:=h.td [0,1] (by decide) .d .d;have dk:=h.W.dk;have f:(Kd.pair o k).deep<=4:=by show max o.deep k.deep+1<=4;lia
 obtain⟨G,Q,Z⟩:=h.g [0,1] (by decide);have P:∀j m,C 39 487 [(j,.lst (.tup [.str (q "call"),.tup [.int 0,.int 0],.str (q "e")]::(R [0,1]++[.tup [.str (q "do"),.tup [.int 0],.str (q "pair"),.tup [.str (q "pair"),o.th,k.th],.lst [.tup [.int 0,.int 0],.tup [.int 0,.int 1]]]]++[.tup [.str (q "do"),.tup [],.str (q "second"),k.th,.lst [.tup [.int 0]]]]))),(m,.tup [.tup [.tup [.str (q "rowe"),Kd.truth.th],.tup [.str (q "q"),a.th],.tup [.str (q "b"),a.th],.tup [.str (q "some"),(Kd.row a).th],.tup [.str (q "e"),o.th]],.tup [.str (q "second"),.tup [.str (q "pair"),.tup [.str (q "name"),.str (q "e")],t]]])]=.ok ((.d,.bl K1),[]):=λj m=>gY (Hd G Q Z f<|by lia) (pl2 h.W (E4 a o) (by show 5<=100;decide) (lkE a o) (by lia) h.n2) j m;have F:=h.l;have e:C 39 488 [(.s,a.th),(.s,o.th),(.d,.int i),(.d,.int (w:I)),(.d,.tup [.int 0,.int 1])]=.ok ((md,.tup [t,.lst (R [0,1]),k.th]),[]):=e;have x:∀y:T,fits ([y].length+(R [0,1]).length)=true:=λy=>QV (by show 1+_<=16777215;lia);have A:∀y:T,(y::R [0,1]).length<LIM:=λy=>by show _+1<16777215;lia
 have D:∀y z:T,(y::(R [0,1]++[z])).length<LIM:=λy z=>by rw[Lk,K8];show _+1+1<16777215;lia
 rcases hm with rfl|rfl
 .exact⟨_,_,_,_,_,by simp_all only[Lb,lB,TE,Mu,Mr,MD,Mw,ai,au,aN,e,F,P,x,A,D,OC,Nl,LX];rfl⟩
 .exact⟨_,_,_,_,_,by simp_all only[Lb,lB,TE,Mu,Mr,MD,Mw,ai,au,aN,e,F,P,x,A,D,OC,Nl,LX];rfl⟩
end
theorem CM {a o:Kd}{i:I}{w:O}(N:a.deep<=1)(ho:o.deep<=2)(P:w<5)(d e:B W)(y z c:Md)(A D F f j:B W):∃m n p g l,evSs (C 39) lB (TE a o i w d e y z c A D F f j)=.nx (TE a o i w d e .s .s c m n p g l):=by obtain⟨t,k,Q,R,h⟩:=BL a o i N w P;obtain⟨Z,x8,x9,r,u,G⟩:=tA0 h ho d e y z c A D F f j;obtain⟨y7,y8,y9,v,x,H⟩:=tA1 h ho d e .s .s c Z x8 x9 r u;obtain⟨z7,z8,z9,z10,z11,M⟩:=tA2 h ho d e .s .s c y7 y8 y9 v x;exact⟨_,_,_,_,_,(go1 (b:=Lb 2 5++Lb 7 7) G).trans<|(go1 (b:=Lb 7 7) H).trans M⟩
abbrev T6 (a o:Kd)(i:I)(h j:B W)(e f g:Md)(k l m n b c:B W):Env:=[h,j,Y (e,a.th),Y (f,o.th),Y (.d,.int i),Y (g,.tup<|eT<|e5 a o),k,l,m,n,b,c]
theorem FP {a o:Kd}{i:I}(Q:a.deep<=1)(ho:o.deep<=2)(x y:B W)(v:Md):∀(t:U O) (g j:Md) (z n p r b c:B W),(∀k∈t,k<5)->∃e f A D F G l m,dP [6] (evSs (C 39) lB) (t.map λ(k:O)=>[((.d,.int k):W)]) (T6 a o i x y g j v z n p r b c)=.nx (T6 a o i x y e f v A D F G l m)
|[],g,j,z,n,p,r,b,c,_=>⟨g,j,z,n,p,r,b,c,rfl⟩
|w::t,g,j,z,n,p,r,b,c,hk=>by obtain⟨x7,x8,x9,H,M,h⟩:=CM (i:=i) Q ho (hk w Lg) x y g j v n p r b c;obtain⟨e,f,y6,y7,y8,y9,N,P,Z⟩:=FP Q ho x y v t .s .s (Y (.d,.int (w:I))) x7 x8 x9 H M λu hu=>hk u<|Lr _ hu;exact⟨e,f,y6,y7,y8,y9,N,P,(cq rfl h).trans Z⟩
theorem Bv {N:O}{t:T}(c:O)(m:1<=c)(f:c<=3)(h:Tp N t)(i:N<1000000000):∃r t1 e k t2,C 39 428 [(.d,t),(.d,.int (c:I))]=.ok ((.d,.int r),[(.d,t1)])/\C 39 429 [(.d,t1),(.d,.int<|1+r)]=.ok ((e,Kd.th k),[(.d,t2)])/\k.deep<c/\Tp (N+16) t2:=by
 obtain⟨r,t1,r0,r1,a,e1⟩:=Dj (n:=37) .d (c:I) h (by lia) (by lia) (by lia);obtain⟨l,g,l1,l2⟩:∃l:O,1+r=(l:I)/\1<=l/\l<=c:=⟨(1+r).toNat,by lia,by lia,by lia⟩;have j:kb l<=15:=by rcases(show l=1\/l=2\/l=3 by lia) with rfl|rfl|rfl<;>decide
 obtain⟨e,k,t2,hk,b,e2⟩:=kind (37-l) l a (by lia) l1;rw[show 37-l+l+2=39 by lia] at e2;exact⟨r,t1,e,k,t2,e1,by rw[g];exact e2,by lia,tm b<|by lia⟩
theorem iD:∀a:U I,leaves (a.map T.int)=K1
|[]=>rfl
|_::a=>by show(K1&&leaves (a.map T.int))=K1;rw[iD a];rfl
theorem BW (c:U I):∃t a o i g h r s,a.deep<=1/\o.deep<=2/\evSs (C 39) (Bk f_law 0 6) [Y (.d,.scr c),J,J,J,J,J,J,J,J,J,J,J]=.nx (T6 a o i s (Y (.d,t)) g h r J J J J J J):=by have l:Tp 0 (tape (cut c J (Y 63)) ((0:O):I) 0 0):=⟨_,0,0,0,rfl,La _⟩;obtain⟨r1,t1,g,a,t2,e1,e2,F,e⟩:=Bv 2 (by decide) (by decide) l (by decide);obtain⟨w,A,h,b,N,e3,j,G,f⟩:=Bv 3 (by decide) (by decide) e (by decide);obtain⟨i,D,H,M,m,e5⟩:=Dj (n:=37) .d (1000000000000000000+1) f (by decide) (by decide) (by decide);have p:=iD<|cut c J<|Y 63;have e1:C 39 428 [(.d,.lst [.lst ((cut c J (Y 63)).map T.int),.int 0,.int 0,.int 0]),(.d,.int 2)]=.ok ((.d,.int r1),[(.d,t1)]):=e1;have e3:C 39 428 [(.d,t2),(.d,.int 3)]=.ok ((.d,.int w),[(.d,A)]):=e3;have k:∀x y z u v:T,fits ([x,y,z].length+[u,v].length)=true:=λ_ _ _ _ _=>rfl;exact⟨D,a,b,i,_,_,_,_,by lia,by lia,by simp_all only[Bk,Mu,Mr,MD,Mw,f_law,ai,au,aN,p,e1,e2,e3,j,gS,e5,k];rfl⟩
theorem r5:bb .rng [(.d,.int 5)]=Y ((Lx 5).map λ(k:O)=>[((.d,.int k):W)]):=rfl
theorem pure_law (h:U I):∃m bs,C 40 0 [(.d,.scr h)]=.ok ((m,.bl K1),bs):=by
 obtain⟨t,a,o,i,c,e,f,g,p,ho,j⟩:=BW h;obtain⟨s,u,y,z,A,D,v,w,l⟩:=FP (i:=i) p ho g (Y (.d,t)) f (Lx 5) c e J J J J J J λk hk=>Om.mp hk;have x:evL (C 39) [.cst (.int 5)] (pick [] [] (T6 a o i g (Y (.d,t)) c e f J J J J J J))=.ok ([(.d,.int 5)],pick [] [] (T6 a o i g (Y (.d,t)) c e f J J J J J J)):=by simp_all only[ai]
 have n:=BH (vs:=[]) (r:=[]) x r5 l;rw[show(40:O)=39+1 from rfl,DZ,x_run _ _ _ rfl];have go:=Q8 (Fl.out [])<|(go1 (b:=Bk f_law 6 1++f_law.body.drop 7) j).trans<|go1 (b:=f_law.body.drop 7) n;exact⟨_,_,go.trans<|by simp_all only[f_law,Mu,Mr,ai];rfl⟩
end
end P48

namespace A48
open PySem PySem.Spec PyProof.Rows L2 L3 MR
noncomputable def top (i:O):Rf:=PySem.Challenge.pw_broadrow_k48_rows_of_lets_and_of_what_ho.main.body.getD i<|.Pass ⟨0,0,0,0⟩
abbrev uB:Rf:=top 7
abbrev vZ:Rf:=top 8
abbrev vY:Rf:=top 9
abbrev v9:Rf:=top 10
abbrev u9:Rf:=top 14
abbrev uf:Rf:=top 15
abbrev t8:Rf:=top 16
abbrev sQ:Rf:=top 17
abbrev tY:Rf:=top 18
abbrev vO:Rf:=top 22
abbrev vb:Rf:=top 23
abbrev xo:Rf:=top 24
abbrev wy:Rf:=top 25
abbrev su:Rf:=top 26
abbrev uW:Rf:=top 27
abbrev uL:Rf:=top 28
abbrev wK:Rf:=top 30
abbrev uJ:Rf:=top 33
abbrev v8:Rf:=top 34
abbrev xf:Rf:=top 35
abbrev xC:Rf:=top 36
abbrev vB:Rf:=top 37
abbrev sA:Rf:=top 39
abbrev wG:Rf:=top 40
abbrev s24:Rf:=top 41
abbrev ve:Rf:=top 42
abbrev uF:Rf:=top 43
abbrev uQ:Rf:=top 44
abbrev wB:Rf:=top 45
abbrev vt:Rf:=top 46
abbrev Ax:Rf:=top 47
abbrev uv:Rf:=top 48
abbrev uu:Rf:=top 49
abbrev s0:Rf:=top 50
structure Glb (K:K3)(w:K6)(mg:Str->B L):Prop where
 DEEPEST:∃t,mg "DEEPEST"=Y (.int 5 t)
 c_AHEAD_laid:kq K w mg "AHEAD_laid" dX
 k_AHEAD_trees:rP K w mg "AHEAD_trees" keys_AHEAD_trees
 c_BINDING:kq K w mg "BINDING" tab_BINDING
 k_LEAVES:rP K w mg "LEAVES" keys_LEAVES
 c_LEAVES:kq K w mg "LEAVES" tab_LEAVES
 c_RULES:kq K w mg "RULES" tab_RULES
 k_WITHIN:rP K w mg "WITHIN" keys_WITHIN
 c_WITHIN:kq K w mg "WITHIN" tab_WITHIN
structure Calls (P:QZ)(w:K6)(K:K3)(mg:Str->B L)(base:Q5)(n:O)(C:M.Call):Prop where
 c364:ae P w K mg base n C "kind_text" 364 []
 c365:ae P w K mg base n C "read_kind" 365 []
 c366:ae P w K mg base n C "take_kind" 366 []
 c367:ae P w K mg base n C "take_kind_within" 367 []
 c175:ae P w K mg base n C "parts_start" 175 []
 c176:ae P w K mg base n C "parts" 176 []
 c233:ae P w K mg base n C "binding" 233 []
 c234:ae P w K mg base n C "free_names" 234 []
 c235:ae P w K mg base n C "add_free" 235 [2]
 c368:ae P w K mg base n C "kinds_of" 368 []
 c369:ae P w K mg base n C "add_kinds" 369 [3]
 c370:ae P w K mg base n C "with_bound" 370 [3]
 c371:ae P w K mg base n C "bound_kind" 371 [1]
 c372:ae P w K mg base n C "own_kind" 372 []
 c373:ae P w K mg base n C "fitted" 373 []
 c374:ae P w K mg base n C "kind_by" 374 []
 c475:ae P w K mg base n C "brought_names" 475 []
 c476:ae P w K mg base n C "laid" 476 []
 c477:ae P w K mg base n C "rows_of" 477 []
 c478:ae P w K mg base n C "part_rows" 478 []
 c479:ae P w K mg base n C "own_row" 479 []
 c480:ae P w K mg base n C "inner" 480 []
 c428:ae P w K mg base n C "_law_draw" 428 [0]
 c429:ae P w K mg base n C "_law_kind" 429 [0]
 c24:ae P w K mg base n C "_law_alike" 24 []
 c481:ae P w K mg base n C "_law_arms" 481 []
 c482:ae P w K mg base n C "_law_let" 482 []
 c483:ae P w K mg base n C "_law_each" 483 []
 c484:ae P w K mg base n C "_law_times" 484 []
 c485:ae P w K mg base n C "_law_like" 485 []
 c486:yM P w K mg base n C "_law_lists" 486
 c487:ae P w K mg base n C "_law_right" 487 []
 c488:ae P w K mg base n C "_law_told" 488 []
abbrev DD (x:Str)(e:Rf)(N:U Str)(g:M.Fn):Prop:=∀{P:QZ} {w:K6} {K:K3} {d:Str->B L} {a:Q5} {n:O} {C:M.Call} {f:QS} {c:L} {A:Lj} {b:U Env} {s:K2} {H:Hp} {E:XK},Calls P w K d a n C->Txt d->Glb K w d->Room n (A.deeper<|Mj x (defScope e) s.heap.objs.size f c)->SSs (jT CX0 P w K d a N x (defScope e) f c A b s H E).nox (slN N.length) g.io C (defBody e) g.body
theorem Ge:aj ["kind"] ["kind"] (defScope uB):=fsc
theorem KI:DD "kind_text" uB ["kind"] aX:=λ{_ _ _ _ _ _ _ _ _ _ _ s _ _} cs T G a=>
 have S:=Ge
 (ss1 (aD (Bs sS (eJ (@sLx _ _ _ _ _ _ _ (by decide) (@slx _ _ _ _ _ _ _ (@aJ _ _ _ _ _ _ _ _ _ (sV 0) sI (λ_ _=>rfl)) sl0 rfl)) (sC1 [] [] [] [] (Am (C8 (sV 0) sI)) (λ_ _ _ _=>(ao cs.c364 a (@say _ _ _ _ _ _ _ (sV 0) sa0 rfl rfl))) csc .nil .nil)))))
theorem FU:aj ["text","words","taken"] ["text"] (defScope vZ):=fsc
theorem J6:DD "read_kind" vZ ["text","words","taken"] b5:=λ{_ _ _ _ _ _ _ _ _ _ _ s _ _} cs T G a=>
 have S:=FU
 (@ssc _ _ _ _ _ _ _ _ (@zA _ _ _ _ _ _ _ 1 _ _ _ _ S.nd (nP (sV 0) sS) rfl rfl rfl rfl rfl rfl)
    (@ssc _ _ _ _ _ _ _ _ (@zA _ _ _ _ _ _ _ 2 _ _ _ _ S.nd (ao cs.c366 a (@say _ _ _ _ _ _ _ (sV 1) (@say _ _ _ _ _ _ _ sI sa0 rfl rfl) rfl rfl)) rfl rfl rfl rfl rfl rfl)
    (@ssc _ _ _ _ _ _ _ _ (zIf (zh (@aJ _ _ _ _ _ _ _ _ _ (sV 2) sI (λ_ _=>rfl)) (jS (hm:=T.len) (ha:=(sV 1)))) (ss1 lU) ss0)
    (@ss1 _ _ _ _ _ _ (@aD _ _ _ _ _ _ _ _ (@aJ _ _ _ _ _ _ _ _ _ (sM 2) sI (λ_ _=>rfl)))))))
theorem Jh:aj ["words","at"] ["words","at"] (defScope vY):=fsc
theorem Kx:DD "take_kind" vY ["words","at"] b0:=λ{_ _ _ _ _ _ _ _ _ _ _ s _ _} cs T G a=>
 have S:=Jh
 (ss1<|aD<|ao cs.c367 a<|@say _ _ _ _ _ _ _ (sM 0) (@say _ _ _ _ _ _ _ (sM 1) (@say _ _ _ _ _ _ _ (sGc G.DEEPEST) sa0 rfl rfl) rfl rfl) rfl rfl)
theorem GF:aj ["words","at","depth","many","kind","after","number","taken"] ["words","at","depth"] (defScope v9):=fsc
theorem Jq:DD "take_kind_within" v9 ["words","at","depth","many","kind","after","number","taken"] ay:=λ{_ _ _ _ _ _ _ _ _ _ _ s _ _} cs T G a=>
 have S:=GF
 (@ssc _ _ _ _ _ _ _ _ (zIf (tW (wOr (GD (sV 1) (jS (hm:=T.len) (ha:=(sV 0)))) (wO1 (yz G.k_WITHIN (@aJ _ _ _ _ _ _ _ _ _ (sV 0) (sV 1) (λ_ _=>rfl)))))) (ss1 lU) ss0)
    (@ssc _ _ _ _ _ _ _ _ (@zA _ _ _ _ _ _ _ 3 _ _ _ _ S.nd (BO G.c_WITHIN (@aJ _ _ _ _ _ _ _ _ _ (sV 0) (sV 1) (λ_ _=>rfl))) rfl rfl rfl rfl rfl rfl)
    (@ssc _ _ _ _ _ _ _ _ (zIf (tW (BQ (Ec (sV 3) sI) (wA1 (cK a (sV 2) sI)))) (ss1 lU) ss0)
    (@ssc _ _ _ _ _ _ _ _ (@zA _ _ _ _ _ _ _ 4 _ _ _ _ S.nd (@sLx _ _ _ _ _ _ _ (by decide) (@slx _ _ _ _ _ _ _ (@aJ _ _ _ _ _ _ _ _ _ (sV 0) (sV 1) (λ_ _=>rfl)) sl0 rfl)) rfl rfl rfl rfl rfl rfl)
    (@ssc _ _ _ _ _ _ _ _ (@zA _ _ _ _ _ _ _ 5 _ _ _ _ S.nd (eJ (sV 1) sI) rfl rfl rfl rfl rfl rfl)
    (@ssc _ _ _ _ _ _ _ _ (pQ 6 S.nd (ym (hm:=T.range) (ha:=(sV 3))) (@ssc _ _ _ _ _ _ _ _ (@zA _ _ _ _ _ _ _ 7 _ _ _ _ S.nd (ao cs.c367 a (@say _ _ _ _ _ _ _ (sV 0) (@say _ _ _ _ _ _ _ (sV 5) (@say _ _ _ _ _ _ _ (qf (sV 2) sI) sa0 rfl rfl) rfl rfl) rfl rfl)) rfl rfl rfl rfl rfl rfl)
     (@ssc _ _ _ _ _ _ _ _ (cf 4 (@aJ _ _ _ _ _ _ _ _ _ (sV 7) sI (λ_ _=>rfl)))
     (ss1 (@zA _ _ _ _ _ _ _ 5 _ _ _ _ S.nd (@aJ _ _ _ _ _ _ _ _ _ (sV 7) sI (λ_ _=>rfl)) rfl rfl rfl rfl rfl rfl)))))
    (ss1 (aD (@sTx _ _ _ _ _ _ _ (by decide) (@slx _ _ _ _ _ _ _ (EL (hm:=T.tup) (ha:=(sM 4))) (@slx _ _ _ _ _ _ _ (sM 5) sl0 rfl) rfl))))))))))
theorem Iq:aj ["sign"] ["sign"] (defScope u9):=fsc
theorem JX:DD "parts_start" u9 ["sign"] a4:=λ{_ _ _ _ _ _ _ _ _ _ _ s _ _} cs T G a=>
 have S:=Iq
 (ss1<|aD<|sIf (Gx G.k_AHEAD_trees<|sM 0) sI sI)
theorem Gr:aj ["tree"] ["tree"] (defScope uf):=fsc
theorem Kk:DD "parts" uf ["tree"] eD:=λ{_ _ _ _ _ _ _ _ _ _ _ s _ _} cs T G a=>
 have S:=Gr
 (ss1 (aD (C8 (sV 0) (ao cs.c175 a (@say _ _ _ _ _ _ _ (@aJ _ _ _ _ _ _ _ _ _ (sV 0) sI (λ_ _=>rfl)) sa0 rfl rfl)))))
theorem HK:aj ["tree"] ["tree"] (defScope t8):=fsc
theorem Kt:DD "binding" t8 ["tree"] dg:=λ{_ _ _ _ _ _ _ _ _ _ _ s _ _} cs T G a=>
 have S:=HK
 (ss1<|aD<|G7 G.c_BINDING<|@aJ _ _ _ _ _ _ _ _ _ (sM 0) sI λ_ _=>rfl)
theorem FL:aj ["tree","found"] ["tree"] (defScope sQ):=fsc
theorem KL:DD "free_names" sQ ["tree","found"] dw:=λ{_ _ _ _ _ _ _ _ _ _ _ s _ _} cs T G a=>
 have S:=FL
 (@ssc _ _ _ _ _ _ _ _ (@zA _ _ _ _ _ _ _ 1 _ _ _ _ S.nd r8 rfl rfl rfl rfl rfl rfl)
    (@ssc _ _ _ _ _ _ _ _ (DC (ao cs.c235 a (@say _ _ _ _ _ _ _ (sV 0) (@say _ _ _ _ _ _ _ (@sTx _ _ _ _ _ _ _ (by decide) sl0) (sai 1 sa0) rfl rfl) rfl rfl)))
    (ss1 (aD (sy (hm:=T.sorted) (ha:=(sM 1)))))))
theorem Jf:aj ["tree","bound","found","where","number","part"] ["tree","bound","found"] (defScope tY):=fsc
theorem Kz:DD "add_free" tY ["tree","bound","found","where","number","part"] eR:=λ{_ _ _ _ _ _ _ _ _ _ _ s _ _} cs T G a=>
 have S:=Jf
 (@ssc _ _ _ _ _ _ _ _ (zIf (tW (BQ (cK a (@aJ _ _ _ _ _ _ _ _ _ (sV 0) sI (λ_ _=>rfl)) sS) (wA1 (yH (@aJ _ _ _ _ _ _ _ _ _ (sV 0) sI (λ_ _=>rfl)) (sV 1))))) (ss1 (Gk 2 a sO (@aJ _ _ _ _ _ _ _ _ _ (sV 0) sI (λ_ _=>rfl)))) ss0)
    (@ssc _ _ _ _ _ _ _ _ (@zA _ _ _ _ _ _ _ 3 _ _ _ _ S.nd (ao cs.c233 a (@say _ _ _ _ _ _ _ (sV 0) sa0 rfl rfl)) rfl rfl rfl rfl rfl rfl)
    (ss1 (pJ 4 5 S.nd (sL (hm:=T.enum) (ha:=(ao cs.c176 a (@say _ _ _ _ _ _ _ (sV 0) sa0 rfl rfl)))) (ss1 (DC (ao cs.c235 a (@say _ _ _ _ _ _ _ (sV 5) (@say _ _ _ _ _ _ _ (sIf (cK a (sV 4) (sV 3)) (aq (sV 1) (@sTx _ _ _ _ _ _ _ (by decide) (@slx _ _ _ _ _ _ _ (@aJ _ _ _ _ _ _ _ _ _ (sV 0) sI (λ_ _=>rfl)) sl0 rfl))) (sV 1)) (sai 2 sa0) rfl rfl) rfl rfl))))))))
theorem Gv:aj ["program","names","name","kind","told"] ["program"] (defScope vO):=fsc
theorem Kc:DD "kinds_of" vO ["program","names","name","kind","told"] f_kinds_of:=λ{_ _ _ _ _ _ _ _ _ _ _ s _ _} cs T G a=>
 have S:=Gv
 (@ssc _ _ _ _ _ _ _ _ (@zA _ _ _ _ _ _ _ 1 _ _ _ _ S.nd r8 rfl rfl rfl rfl rfl rfl)
    (@ssc _ _ _ _ _ _ _ _ (pJ 2 3 S.nd (vQ (@aJ _ _ _ _ _ _ _ _ _ (sV 0) sI (λ_ _=>rfl))) (ss1 (BB 1 a (sV 3) (sV 2))))
    (@ssc _ _ _ _ _ _ _ _ (@zA _ _ _ _ _ _ _ 4 _ _ _ _ S.nd (@sLx _ _ _ _ _ _ _ (by decide) sl0) rfl rfl rfl rfl rfl rfl)
    (@ssc _ _ _ _ _ _ _ _ (DC (ao cs.c369 a (@say _ _ _ _ _ _ _ (@aJ _ _ _ _ _ _ _ _ _ (sV 0) sI (λ_ _=>rfl)) (@say _ _ _ _ _ _ _ (@sTx _ _ _ _ _ _ _ (by decide) sl0) (@say _ _ _ _ _ _ _ (sV 1) (sai 4 sa0) rfl rfl) rfl rfl) rfl rfl)))
    (ss1 (aD (sM 4)))))))
theorem Hf:aj ["tree","place","names","told","ins","number","part","inner","kind"] ["tree","place","names","told"] (defScope vb):=fsc
theorem KD:DD "add_kinds" vb ["tree","place","names","told","ins","number","part","inner","kind"] f_add_kinds:=λ{_ _ _ _ _ _ _ _ _ _ _ s _ _} cs T G a=>
 have S:=Hf
 (@ssc _ _ _ _ _ _ _ _ (@zA _ _ _ _ _ _ _ 4 _ _ _ _ S.nd (@sLx _ _ _ _ _ _ _ (by decide) sl0) rfl rfl rfl rfl rfl rfl)
    (@ssc _ _ _ _ _ _ _ _ (pJ 5 6 S.nd (sL (hm:=T.enum) (ha:=(ao cs.c176 a (@say _ _ _ _ _ _ _ (sV 0) sa0 rfl rfl)))) (@ssc _ _ _ _ _ _ _ _ (@zA _ _ _ _ _ _ _ 7 _ _ _ _ S.nd (sV 2) rfl rfl rfl rfl rfl rfl)
     (@ssc _ _ _ _ _ _ _ _ (zIf (cK a (sV 5) (ao cs.c233 a (@say _ _ _ _ _ _ _ (sV 0) sa0 rfl rfl))) (ss1 (@zA _ _ _ _ _ _ _ 7 _ _ _ _ S.nd (ao cs.c370 a (@say _ _ _ _ _ _ _ (sV 0) (@say _ _ _ _ _ _ _ (sV 1) (@say _ _ _ _ _ _ _ (sV 2) (sai 4 sa0) rfl rfl) rfl rfl) rfl rfl)) rfl rfl rfl rfl rfl rfl)) ss0)
     (ss1 (cf 4 (ao cs.c369 a (@say _ _ _ _ _ _ _ (sV 6) (@say _ _ _ _ _ _ _ (aq (sV 1) (@sTx _ _ _ _ _ _ _ (by decide) (@slx _ _ _ _ _ _ _ (sV 5) sl0 rfl))) (@say _ _ _ _ _ _ _ (sV 7) (sai 3 sa0) rfl rfl) rfl rfl) rfl rfl)))))))
    (@ssc _ _ _ _ _ _ _ _ (@zA _ _ _ _ _ _ _ 8 _ _ _ _ S.nd (ao cs.c372 a (@say _ _ _ _ _ _ _ (sV 0) (@say _ _ _ _ _ _ _ (sV 2) (@say _ _ _ _ _ _ _ (sV 4) sa0 rfl rfl) rfl rfl) rfl rfl)) rfl rfl rfl rfl rfl rfl)
    (@ssc _ _ _ _ _ _ _ _ (zIf (F5 (sV 8) sN) (ss1 lU) ss0)
    (@ssc _ _ _ _ _ _ _ _ (cf 3 (@sTx _ _ _ _ _ _ _ (by decide) (@slx _ _ _ _ _ _ _ (sV 1) (@slx _ _ _ _ _ _ _ (sV 8) sl0 rfl) rfl)))
    (ss1 (aD (sM 8))))))))
theorem HL:aj ["tree","place","names","ins","kind","inner"] ["tree","place","names","ins"] (defScope xo):=fsc
theorem KU:DD "with_bound" xo ["tree","place","names","ins","kind","inner"] bL:=λ{_ _ _ _ _ _ _ _ _ _ _ s _ _} cs T G a=>
 have S:=HL
 (@ssc _ _ _ _ _ _ _ _ (@zA _ _ _ _ _ _ _ 4 _ _ _ _ S.nd (ao cs.c371 a (@say _ _ _ _ _ _ _ (@aJ _ _ _ _ _ _ _ _ _ (sV 0) sI (λ_ _=>rfl)) (sai 3 sa0) rfl rfl)) rfl rfl rfl rfl rfl rfl)
    (@ssc _ _ _ _ _ _ _ _ (zIf (F5 (sV 4) sN) (ss1 lU) ss0)
    (@ssc _ _ _ _ _ _ _ _ (@zA _ _ _ _ _ _ _ 5 _ _ _ _ S.nd (Ip (hm:=T.dict) (ha:=(sV 2))) rfl rfl rfl rfl rfl rfl)
    (@ssc _ _ _ _ _ _ _ _ (BB 5 a (sV 4) (@aJ _ _ _ _ _ _ _ _ _ (sV 0) sI (λ_ _=>rfl)))
    (ss1 (aD (sM 5)))))))
theorem IQ:aj ["sign","ins"] ["sign","ins"] (defScope wy):=fsc
theorem JJ:DD "bound_kind" wy ["sign","ins"] aY:=λ{_ _ _ _ _ _ _ _ _ _ _ s _ _} cs T G a=>
 have S:=IQ
 (@ssc _ _ _ _ _ _ _ _ (zIf (cK a (sV 0) sS) (ss1 (aD (rX 1 sI))) ss0)
    (@ssc _ _ _ _ _ _ _ _ (zIf (cK a (sV 0) sS) (ss1 (aD (sIf (cK a (@aJ _ _ _ _ _ _ _ _ _ (rX 1 sI) sI (λ_ _=>rfl)) sS) (@aJ _ _ _ _ _ _ _ _ _ (rX 1 sI) sI (λ_ _=>rfl)) sN))) ss0)
    (ss1 (aD (sIf (cK a (rX 1 sI) (@sTx _ _ _ _ _ _ _ (by decide) (@slx _ _ _ _ _ _ _ sS sl0 rfl))) (rX 1 sI) sN)))))
theorem GS:aj ["tree","names","ins","before","after","found"] ["tree","names","ins"] (defScope su):=fsc
theorem JT:DD "own_kind" su ["tree","names","ins","before","after","found"] aV:=λ{_ _ _ _ _ _ _ _ _ _ _ s _ _} cs T G a=>
 have S:=GS
 (@ssc _ _ _ _ _ _ _ _ (zIf (cK a (@aJ _ _ _ _ _ _ _ _ _ (sV 0) sI (λ_ _=>rfl)) sS) (ss1 (aD (Gg a (sM 1) (@aJ _ _ _ _ _ _ _ _ _ (sM 0) sI (λ_ _=>rfl))))) ss0)
    (@ssc _ _ _ _ _ _ _ _ (zIf (Gx G.k_LEAVES (@aJ _ _ _ _ _ _ _ _ _ (sV 0) sI (λ_ _=>rfl))) (ss1 (aD (BO G.c_LEAVES (@aJ _ _ _ _ _ _ _ _ _ (sM 0) sI (λ_ _=>rfl))))) ss0)
    (@ssc _ _ _ _ _ _ _ _ (zIf (cK a (@aJ _ _ _ _ _ _ _ _ _ (sV 0) sI (λ_ _=>rfl)) sS) (ss1 (aD (ao cs.c374 a (@say _ _ _ _ _ _ _ sS (@say _ _ _ _ _ _ _ (Hc (ha:=(@aJ _ _ _ _ _ _ _ _ _ (sM 0) sI (λ_ _=>rfl)))) sa0 rfl rfl) rfl rfl)))) ss0)
    (@ssc _ _ _ _ _ _ _ _ (pJ 3 4 S.nd (vQ (BO G.c_RULES (@aJ _ _ _ _ _ _ _ _ _ (sV 0) sI (fun _ _=>rfl)))) (@ssc _ _ _ _ _ _ _ _ (@zA _ _ _ _ _ _ _ 5 _ _ _ _ S.nd (ao cs.c373 a (@say _ _ _ _ _ _ _ (sV 3) (@say _ _ _ _ _ _ _ (sV 2) sa0 rfl rfl) rfl rfl)) rfl rfl rfl rfl rfl rfl)
     (ss1 (zIf (Ku (sV 5) sN) (ss1 (aD (ao cs.c374 a (@say _ _ _ _ _ _ _ (sM 4) (@say _ _ _ _ _ _ _ (sM 5) sa0 rfl rfl) rfl rfl)))) ss0))))
    (ss1 (aD sN))))))
theorem Gy:aj ["before","kinds","found","ahead","word","kind"] ["before","kinds"] (defScope uW):=fsc
theorem Kr:DD "fitted" uW ["before","kinds","found","ahead","word","kind"] dY:=λ{_ _ _ _ _ _ _ _ _ _ _ s _ _} cs T G a=>
 have S:=Gy
 (@ssc _ _ _ _ _ _ _ _ (@zA _ _ _ _ _ _ _ 2 _ _ _ _ S.nd r8 rfl rfl rfl rfl rfl rfl)
    (@ssc _ _ _ _ _ _ _ _ (@zA _ _ _ _ _ _ _ 3 _ _ _ _ S.nd (tD (hm:=T.list) (ha:=(sV 1))) rfl rfl rfl rfl rfl rfl)
    (@ssc _ _ _ _ _ _ _ _ (pQ 4 S.nd (Am (nP (sV 0) sS)) (@ssc _ _ _ _ _ _ _ _ (@zA _ _ _ _ _ _ _ 5 _ _ _ _ S.nd (HU 3) rfl rfl rfl rfl rfl rfl)
     (ss1 (zIf (v7 (sV 4) (@sTx _ _ _ _ _ _ _ (by decide) (@slx _ _ _ _ _ _ _ sS (@slx _ _ _ _ _ _ _ sS sl0 rfl) rfl))) (ss1 (zIf (qI a (Jl 2 4 5) (sV 5)) (ss1 (aD sN)) ss0)) (ss1 (zIf (cK a (sV 4) (@aJ _ _ _ _ _ _ _ _ _ (sV 5) sI (λ_ _=>rfl))) (ss1 (@zA _ _ _ _ _ _ _ 3 _ _ _ _ S.nd (eJ (tD (hm:=T.list) (ha:=(C8 (sV 5) sI))) (sV 3)) rfl rfl rfl rfl rfl rfl)) (ss1 (aD sN))))))))
    (ss1 (aD (sM 2))))))
theorem HN:aj ["after","found","words","kind"] ["after","found"] (defScope uL):=fsc
theorem Ka:DD "kind_by" uL ["after","found","words","kind"] dn:=λ{_ _ _ _ _ _ _ _ _ _ _ s _ _} cs T G a=>
 have S:=HN
 (@ssc _ _ _ _ _ _ _ _ (zC1 2 [1] [1] [("found",s.heap.objs.size+1)] ["found"] (Am (nP (sV 0) sS)) (λ_ _ _ _=>(sIf (Gz a (sV 0) (sV 1)) (ao cs.c364 a (@say _ _ _ _ _ _ _ (Ey a (sV 1) (sV 0)) sa0 rfl rfl)) (sV 0))) csc (Fu .nil) (frc .nil) S.nd)
    (@ssc _ _ _ _ _ _ _ _ (Kq (ss1 (@zA _ _ _ _ _ _ _ 3 _ _ _ _ S.nd (ao cs.c365 a (@say _ _ _ _ _ _ _ (Bs sS (sV 2)) sa0 rfl rfl)) rfl rfl rfl rfl rfl rfl)))
    (ss1 (aD (sM 3)))))
theorem Ii:aj ["tree","number","bound"] ["tree","number"] (defScope wK):=fsc
theorem KC:DD "brought_names" wK ["tree","number","bound"] b9:=λ{_ _ _ _ _ _ _ _ _ _ _ s _ _} cs T G a=>
 have S:=Ii
 (@ssc _ _ _ _ _ _ _ _ (@zA _ _ _ _ _ _ _ 2 _ _ _ _ S.nd (sIf (cK a (sV 1) (ao cs.c233 a (@say _ _ _ _ _ _ _ (sV 0) sa0 rfl rfl))) (@aJ _ _ _ _ _ _ _ _ _ (sV 0) sI (λ_ _=>rfl)) sN) rfl rfl rfl rfl rfl rfl)
    (ss1 (aD (Ko [2] [2] [("bound",s.heap.objs.size+1)] ["bound"] (Am (ao cs.c234 a (@say _ _ _ _ _ _ _ (@aJ _ _ _ _ _ _ _ _ _ (ao cs.c176 a (@say _ _ _ _ _ _ _ (sM 0) sa0 rfl rfl)) (sM 1) (λ_ _=>rfl)) sa0 rfl rfl))) (λ_ _ _ _=>(qI a (sV 0) (sV 1))) (λ_ _ _ _=>(sV 0)) csc (Fu .nil) (frc .nil)))))
theorem F9:aj ["program"] ["program"] (defScope uJ):=fsc
theorem Jn:DD "laid" uJ ["program"] gK:=λ{_ _ _ _ _ _ _ _ _ _ _ s _ _} cs T G a=>
 have S:=F9
 (ss1 (aD (ao cs.c477 a (@say _ _ _ _ _ _ _ (@aJ _ _ _ _ _ _ _ _ _ (sV 0) sI (λ_ _=>rfl)) (@say _ _ _ _ _ _ _ (@sTx _ _ _ _ _ _ _ (by decide) sl0) (@say _ _ _ _ _ _ _ (FN a (by rfl) (hm:=T.dict) (ha:=(sW (ao cs.c368 a (@say _ _ _ _ _ _ _ (sV 0) sa0 rfl rfl))))) sa0 rfl rfl) rfl rfl) rfl rfl))))
theorem GP:aj ["tree","place","kinds","middle","end","rows","number"] ["tree","place","kinds"] (defScope v8):=fsc
theorem Km:DD "rows_of" v8 ["tree","place","kinds","middle","end","rows","number"] aS:=λ{_ _ _ _ _ _ _ _ _ _ _ s _ _} cs T G a=>
 have S:=GP
 (@ssc _ _ _ _ _ _ _ _ (zIf (cK a (@aJ _ _ _ _ _ _ _ _ _ (sV 0) sI (λ_ _=>rfl)) sS) (ss1 (aD (@sLx _ _ _ _ _ _ _ (by decide) (@slx _ _ _ _ _ _ _ (@sTx _ _ _ _ _ _ _ (by decide) (@slx _ _ _ _ _ _ _ sS (@slx _ _ _ _ _ _ _ (sNl (sM 1)) (@slx _ _ _ _ _ _ _ (sNl (@aJ _ _ _ _ _ _ _ _ _ (sM 0) sI (λ_ _=>rfl))) sl0 rfl) rfl) rfl)) sl0 rfl)))) ss0)
    (@ssc _ _ _ _ _ _ _ _ (zIf (cK a (@aJ _ _ _ _ _ _ _ _ _ (sV 0) sI (fun _ _=>rfl)) sS) (@ssc _ _ _ _ _ _ _ _ (@zA _ _ _ _ _ _ _ 3 _ _ _ _ S.nd (@sLx _ _ _ _ _ _ _ (by decide) (@slx _ _ _ _ _ _ _ (@sTx _ _ _ _ _ _ _ (by decide) (@slx _ _ _ _ _ _ _ sS (@slx _ _ _ _ _ _ _ (sNl (@aJ _ _ _ _ _ _ _ _ _ (sV 0) sI (fun _ _=>rfl))) (@slx _ _ _ _ _ _ _ (sNl (aq (sNl (sV 1)) (@sTx _ _ _ _ _ _ _ (by decide) (@slx _ _ _ _ _ _ _ sI sl0 rfl)))) sl0 rfl) rfl) rfl)) sl0 rfl)) rfl rfl rfl rfl rfl rfl)
     (@ssc _ _ _ _ _ _ _ _ (@zA _ _ _ _ _ _ _ 4 _ _ _ _ S.nd (@sLx _ _ _ _ _ _ _ (by decide) (@slx _ _ _ _ _ _ _ (@sTx _ _ _ _ _ _ _ (by decide) (@slx _ _ _ _ _ _ _ sS (@slx _ _ _ _ _ _ _ (sNl (sV 1)) (@slx _ _ _ _ _ _ _ (sNl (aq (sNl (sV 1)) (@sTx _ _ _ _ _ _ _ (by decide) (@slx _ _ _ _ _ _ _ sI sl0 rfl)))) sl0 rfl) rfl) rfl)) sl0 rfl)) rfl rfl rfl rfl rfl rfl)
     (ss1 (aD (eJ (eJ (eJ (ao cs.c478 a (@say _ _ _ _ _ _ _ (sV 0) (@say _ _ _ _ _ _ _ sI (@say _ _ _ _ _ _ _ (sNl (sV 1)) (@say _ _ _ _ _ _ _ (sV 2) sa0 rfl rfl) rfl rfl) rfl rfl) rfl rfl)) (sM 3)) (ao cs.c478 a (@say _ _ _ _ _ _ _ (sV 0) (@say _ _ _ _ _ _ _ sI (@say _ _ _ _ _ _ _ (sNl (sV 1)) (@say _ _ _ _ _ _ _ (sV 2) sa0 rfl rfl) rfl rfl) rfl rfl) rfl rfl))) (sM 4)))))) ss0)
    (@ssc _ _ _ _ _ _ _ _ (@zA _ _ _ _ _ _ _ 5 _ _ _ _ S.nd (@sLx _ _ _ _ _ _ _ (by decide) sl0) rfl rfl rfl rfl rfl rfl)
    (@ssc _ _ _ _ _ _ _ _ (pQ 6 S.nd (ym (hm:=T.range) (ha:=(GK G.c_AHEAD_laid (@aJ _ _ _ _ _ _ _ _ _ (sV 0) sI (λ_ _=>rfl)) (jS (hm:=T.len) (ha:=(ao cs.c176 a (@say _ _ _ _ _ _ _ (sV 0) sa0 rfl rfl))))))) (ss1 (KQ 5 (ao cs.c478 a (@say _ _ _ _ _ _ _ (sV 0) (@say _ _ _ _ _ _ _ (sV 6) (@say _ _ _ _ _ _ _ (sNl (sV 1)) (@say _ _ _ _ _ _ _ (sV 2) sa0 rfl rfl) rfl rfl) rfl rfl) rfl rfl)))))
    (@ssc _ _ _ _ _ _ _ _ (cf 5 (ao cs.c479 a (@say _ _ _ _ _ _ _ (sV 0) (@say _ _ _ _ _ _ _ (sNl (sV 1)) (@say _ _ _ _ _ _ _ (sV 2) sa0 rfl rfl) rfl rfl) rfl rfl)))
    (ss1 (aD (sM 5))))))))
theorem Gi:aj ["tree","number","place","kinds"] ["tree","number","place","kinds"] (defScope xf):=fsc
theorem JV:DD "part_rows" xf ["tree","number","place","kinds"] bY:=λ{_ _ _ _ _ _ _ _ _ _ _ s _ _} cs T G a=>
 have S:=Gi
 (ss1 (aD (ao cs.c477 a (@say _ _ _ _ _ _ _ (@aJ _ _ _ _ _ _ _ _ _ (ao cs.c176 a (@say _ _ _ _ _ _ _ (sM 0) sa0 rfl rfl)) (sV 1) (λ_ _=>rfl)) (@say _ _ _ _ _ _ _ (aq (sM 2) (@sTx _ _ _ _ _ _ _ (by decide) (@slx _ _ _ _ _ _ _ (sV 1) sl0 rfl))) (@say _ _ _ _ _ _ _ (sM 3) sa0 rfl rfl) rfl rfl) rfl rfl))))
theorem Jb:aj ["tree","place","kinds","kind","sign"] ["tree","place","kinds"] (defScope xC):=fsc
theorem KN:DD "own_row" xC ["tree","place","kinds","kind","sign"] bu:=λ{_ _ _ _ _ _ _ _ _ _ _ s _ _} cs T G a=>
 have S:=Jb
 (@ssc _ _ _ _ _ _ _ _ (@zA _ _ _ _ _ _ _ 3 _ _ _ _ S.nd (FT a (sV 2) (sNl (sV 1))) rfl rfl rfl rfl rfl rfl)
    (@ssc _ _ _ _ _ _ _ _ (zIf (cK a (@aJ _ _ _ _ _ _ _ _ _ (sV 0) sI (λ_ _=>rfl)) sS) (ss1 (aD (pF (pF (@sTx _ _ _ _ _ _ _ (by decide) (@slx _ _ _ _ _ _ _ sS (@slx _ _ _ _ _ _ _ (sNl (sV 1)) (@slx _ _ _ _ _ _ _ (sNl (sM 3)) (@slx _ _ _ _ _ _ _ (sNl (aq (sNl (sV 1)) (@sTx _ _ _ _ _ _ _ (by decide) (@slx _ _ _ _ _ _ _ sI sl0 rfl)))) sl0 rfl) rfl) rfl) rfl)) (ao cs.c480 a (@say _ _ _ _ _ _ _ (sV 0) (@say _ _ _ _ _ _ _ sI (@say _ _ _ _ _ _ _ (sNl (sV 1)) (@say _ _ _ _ _ _ _ (sV 2) sa0 rfl rfl) rfl rfl) rfl rfl) rfl rfl))) (ao cs.c480 a (@say _ _ _ _ _ _ _ (sV 0) (@say _ _ _ _ _ _ _ sI (@say _ _ _ _ _ _ _ (sNl (sV 1)) (@say _ _ _ _ _ _ _ (sV 2) sa0 rfl rfl) rfl rfl) rfl rfl) rfl rfl))))) ss0)
    (@ssc _ _ _ _ _ _ _ _ (zIf (cK a (@aJ _ _ _ _ _ _ _ _ _ (sV 0) sI (λ_ _=>rfl)) sS) (ss1 (aD (pF (@sTx _ _ _ _ _ _ _ (by decide) (@slx _ _ _ _ _ _ _ sS (@slx _ _ _ _ _ _ _ (sNl (sV 1)) (@slx _ _ _ _ _ _ _ (sNl (sM 3)) (@slx _ _ _ _ _ _ _ (@aJ _ _ _ _ _ _ _ _ _ (sV 0) sI (λ_ _=>rfl)) (@slx _ _ _ _ _ _ _ (sNl (aq (sNl (sV 1)) (@sTx _ _ _ _ _ _ _ (by decide) (@slx _ _ _ _ _ _ _ sI sl0 rfl)))) sl0 rfl) rfl) rfl) rfl) rfl)) (ao cs.c480 a (@say _ _ _ _ _ _ _ (sV 0) (@say _ _ _ _ _ _ _ sI (@say _ _ _ _ _ _ _ (sNl (sV 1)) (@say _ _ _ _ _ _ _ (sM 2) sa0 rfl rfl) rfl rfl) rfl rfl) rfl rfl))))) ss0)
    (@ssc _ _ _ _ _ _ _ _ (zIf (cK a (@aJ _ _ _ _ _ _ _ _ _ (sV 0) sI (λ_ _=>rfl)) sS) (ss1 (aD (pF (@sTx _ _ _ _ _ _ _ (by decide) (@slx _ _ _ _ _ _ _ sS (@slx _ _ _ _ _ _ _ (sNl (sV 1)) (@slx _ _ _ _ _ _ _ (sNl (sM 3)) (@slx _ _ _ _ _ _ _ (@aJ _ _ _ _ _ _ _ _ _ (sV 0) sI (λ_ _=>rfl)) (@slx _ _ _ _ _ _ _ (sNl (aq (sNl (sV 1)) (@sTx _ _ _ _ _ _ _ (by decide) (@slx _ _ _ _ _ _ _ sI sl0 rfl)))) (@slx _ _ _ _ _ _ _ (sNl (aq (sNl (sV 1)) (@sTx _ _ _ _ _ _ _ (by decide) (@slx _ _ _ _ _ _ _ sI sl0 rfl)))) sl0 rfl) rfl) rfl) rfl) rfl) rfl)) (ao cs.c480 a (@say _ _ _ _ _ _ _ (sV 0) (@say _ _ _ _ _ _ _ sI (@say _ _ _ _ _ _ _ (sNl (sV 1)) (@say _ _ _ _ _ _ _ (sM 2) sa0 rfl rfl) rfl rfl) rfl rfl) rfl rfl))))) ss0)
    (@ssc _ _ _ _ _ _ _ _ (@zA _ _ _ _ _ _ _ 4 _ _ _ _ S.nd (sIf (v7 (@aJ _ _ _ _ _ _ _ _ _ (sV 0) sI (λ_ _=>rfl)) (@sTx _ _ _ _ _ _ _ (by decide) (@slx _ _ _ _ _ _ _ sS (@slx _ _ _ _ _ _ _ sS sl0 rfl) rfl))) (sV 0) (@aJ _ _ _ _ _ _ _ _ _ (sV 0) sI (λ_ _=>rfl))) rfl rfl rfl rfl rfl rfl)
    (ss1 (aD (@sTx _ _ _ _ _ _ _ (by decide) (@slx _ _ _ _ _ _ _ sS (@slx _ _ _ _ _ _ _ (sNl (sV 1)) (@slx _ _ _ _ _ _ _ (sNl (sM 4)) (@slx _ _ _ _ _ _ _ (sNl (sM 3)) (@slx _ _ _ _ _ _ _ (sC1 [1] [1] [("place",s.heap.objs.size+1)] ["place"] (ym (hm:=T.range) (ha:=(jS (hm:=T.len) (ha:=(ao cs.c176 a (@say _ _ _ _ _ _ _ (sM 0) sa0 rfl rfl)))))) (λ_ _ _ _=>(sNl (aq (sNl (sV 1)) (@sTx _ _ _ _ _ _ _ (by decide) (@slx _ _ _ _ _ _ _ (sV 0) sl0 rfl))))) csc (Fu .nil) (frc .nil)) sl0 rfl) rfl) rfl) rfl) rfl)))))))))
theorem Iu:aj ["tree","number","place","kinds"] ["tree","number","place","kinds"] (defScope vB):=fsc
theorem JY:DD "inner" vB ["tree","number","place","kinds"] fE:=λ{_ _ _ _ _ _ _ _ _ _ _ s _ _} cs T G a=>
 have S:=Iu
 (ss1 (aD (@sTx _ _ _ _ _ _ _ (by decide) (@slx _ _ _ _ _ _ _ (ao cs.c475 a (@say _ _ _ _ _ _ _ (sV 0) (@say _ _ _ _ _ _ _ (sV 1) sa0 rfl rfl) rfl rfl)) (@slx _ _ _ _ _ _ _ (ao cs.c478 a (@say _ _ _ _ _ _ _ (sV 0) (@say _ _ _ _ _ _ _ (sV 1) (@say _ _ _ _ _ _ _ (sM 2) (@say _ _ _ _ _ _ _ (sM 3) sa0 rfl rfl) rfl rfl) rfl rfl) rfl rfl)) sl0 rfl) rfl))))
theorem Gj:aj ["tape","many","rest","spot","cell","number"] ["tape","many"] (defScope sA):=fsc
theorem JN:DD "_law_draw" sA ["tape","many","rest","spot","cell","number"] bh:=λ{_ _ _ _ _ _ _ _ _ _ _ s _ _} cs T G a=>
 have S:=Gj
 (@ssc _ _ _ _ _ _ _ _ (zIf (Ec (@aJ _ _ _ _ _ _ _ _ _ (sV 0) sI (λ_ _=>rfl)) sI) (@ssc _ _ _ _ _ _ _ _ (sU 0 (qf (@aJ _ _ _ _ _ _ _ _ _ (sV 0) sI (λ_ _=>rfl)) sI) sI)
      (@ssc _ _ _ _ _ _ _ _ (@zA _ _ _ _ _ _ _ 2 _ _ _ _ S.nd (@aJ _ _ _ _ _ _ _ _ _ (sV 0) sI (λ_ _=>rfl)) rfl rfl rfl rfl rfl rfl)
      (@ssc _ _ _ _ _ _ _ _ (sU 0 (BF (sV 2) (sV 1)) sI)
      (ss1 (aD (fL (sM 2) (sM 1))))))) ss0)
    (@ssc _ _ _ _ _ _ _ _ (@zA _ _ _ _ _ _ _ 3 _ _ _ _ S.nd (@aJ _ _ _ _ _ _ _ _ _ (sV 0) sI (λ_ _=>rfl)) rfl rfl rfl rfl rfl rfl)
    (@ssc _ _ _ _ _ _ _ _ (sU 0 (eJ (sV 3) sI) sI)
    (@ssc _ _ _ _ _ _ _ _ (@zA _ _ _ _ _ _ _ 4 _ _ _ _ S.nd sI rfl rfl rfl rfl rfl rfl)
    (@ssc _ _ _ _ _ _ _ _ (zIf (Ec (jS (hm:=T.len) (ha:=(@aJ _ _ _ _ _ _ _ _ _ (sV 0) sI (λ_ _=>rfl)))) sI) (ss1 (@zA _ _ _ _ _ _ _ 4 _ _ _ _ S.nd (@aJ _ _ _ _ _ _ _ _ _ (@aJ _ _ _ _ _ _ _ _ _ (sV 0) sI (λ_ _=>rfl)) (fL (sV 3) (jS (hm:=T.len) (ha:=(@aJ _ _ _ _ _ _ _ _ _ (sV 0) sI (λ_ _=>rfl))))) (λ_ _=>rfl)) rfl rfl rfl rfl rfl rfl)) ss0)
    (@ssc _ _ _ _ _ _ _ _ (zIf (tW (BQ (zh (sV 3) (jS (hm:=T.len) (ha:=(@aJ _ _ _ _ _ _ _ _ _ (sV 0) sI (fun _ _=>rfl))))) (wA1 (GD (sV 4) (C5 sI sI))))) (@ssc _ _ _ _ _ _ _ _ (sU 0 (qf (sV 4) (C5 sI sI)) sI)
     (@ssc _ _ _ _ _ _ _ _ (sU 0 sI sI)
     (ss1 (aD (ao cs.c428 a (sai 0 (@say _ _ _ _ _ _ _ (sM 1) sa0 rfl rfl))))))) ss0)
    (@ssc _ _ _ _ _ _ _ _ (@zA _ _ _ _ _ _ _ 5 _ _ _ _ S.nd (uE (eJ (fL (sV 4) sI) sI) (eJ (eJ (fL (uE (sV 3) (sV 3)) sI) (uE sI (sV 3))) sI)) rfl rfl rfl rfl rfl rfl)
    (@ssc _ _ _ _ _ _ _ _ (@zA _ _ _ _ _ _ _ 5 _ _ _ _ S.nd (fL (uE (fL (sV 5) sI) (fL (sV 5) sI)) sI) rfl rfl rfl rfl rfl rfl)
    (ss1 (aD (fL (fL (eJ (BF (sM 5) sI) (uE sI (sM 3))) sI) (sM 1))))))))))))
theorem GH:aj ["tape","left","way","one"] ["tape","left"] (defScope wG):=fsc
theorem Js:DD "_law_kind" wG ["tape","left","way","one"] cB:=λ{_ _ _ _ _ _ _ _ _ _ _ s _ _} cs T G a=>
 have S:=GH
 (@ssc _ _ _ _ _ _ _ _ (@zA _ _ _ _ _ _ _ 2 _ _ _ _ S.nd (ao cs.c428 a (sai 0 (@say _ _ _ _ _ _ _ sI sa0 rfl rfl))) rfl rfl rfl rfl rfl rfl)
    (@ssc _ _ _ _ _ _ _ _ (zIf (tW (wOr (cK a (sV 1) sI) (wO1 (zh (sV 2) sI)))) (@ss1 _ _ _ _ _ _ (@aD _ _ _ _ _ _ _ _ (@aJ _ _ _ _ _ _ _ _ _ (@sLx _ _ _ _ _ _ _ (by decide) (@slx _ _ _ _ _ _ _ (@sTx _ _ _ _ _ _ _ (by decide) (@slx _ _ _ _ _ _ _ sS sl0 rfl)) (@slx _ _ _ _ _ _ _ (@sTx _ _ _ _ _ _ _ (by decide) (@slx _ _ _ _ _ _ _ sS sl0 rfl)) sl0 rfl) rfl)) (J5 (sM 2) sI) (λ_ _=>rfl)))) ss0)
    (@ssc _ _ _ _ _ _ _ _ (zIf (zh (sV 2) sI) (@ssc _ _ _ _ _ _ _ _ (@zA _ _ _ _ _ _ _ 3 _ _ _ _ S.nd (ao cs.c429 a (sai 0 (@say _ _ _ _ _ _ _ (qf (sV 1) sI) sa0 rfl rfl))) rfl rfl rfl rfl rfl rfl)
     (ss1 (aD (@sTx _ _ _ _ _ _ _ (by decide) (@slx _ _ _ _ _ _ _ sS (@slx _ _ _ _ _ _ _ (sM 3) (@slx _ _ _ _ _ _ _ (ao cs.c429 a (sai 0 (@say _ _ _ _ _ _ _ (qf (sM 1) sI) sa0 rfl rfl))) sl0 rfl) rfl) rfl))))) ss0)
    (ss1 (aD (@sTx _ _ _ _ _ _ _ (by decide) (@slx _ _ _ _ _ _ _ sS (@slx _ _ _ _ _ _ _ (ao cs.c429 a (sai 0 (@say _ _ _ _ _ _ _ (qf (sM 1) sI) sa0 rfl rfl))) sl0 rfl) rfl)))))))
theorem S24:aj ["due","found"] ["due","found"] (defScope s24):=fsc
theorem D24:DD "_law_alike" s24 ["due","found"] aC:=λ{_ _ _ _ _ _ _ _ _ _ _ s _ _} cs T G a=>
 have S:=S24
 (@ssc _ _ _ _ _ _ _ _ (zIf (tB (IC (by decide) ND (by decide) N1 T.isin T.list T.tup (sV 0))) (@ssc _ _ _ _ _ _ _ _ (zIf (qI a (jF (by decide) ND T.isin T.list (sV 0)) (jF (by decide) ND T.isin T.list (sV 1))) (ss1 (aD sO)) ss0)
      (@ssc _ _ _ _ _ _ _ _ (zIf (qI a (jF (by decide) N1 T.isin T.tup (sV 0)) (jF (by decide) N1 T.isin T.tup (sV 1))) (ss1 (aD sO)) ss0)
      (@ssc _ _ _ _ _ _ _ _ (zIf (qI a (jS (hm:=T.len) (ha:=(sV 0))) (jS (hm:=T.len) (ha:=(sV 1)))) (ss1 (aD sO)) ss0)
      (ss1 (aD (J7 (hm:=T.all) (ha:=(sC2 [] [] [] [] (Hk (hm:=T.zip) (ha:=(sM 0)) (hb:=(sM 1))) (λ_ _ _ _=>(ao cs.c24 a (@say _ _ _ _ _ _ _ (sV 0) (@say _ _ _ _ _ _ _ (sV 1) sa0 rfl rfl) rfl rfl))) csc .nil .nil)))))))) ss0)
    (@ssc _ _ _ _ _ _ _ _ (zIf (qI a (jF (by decide) Qv T.isin T.bool (sV 0)) (jF (by decide) Qv T.isin T.bool (sV 1))) (ss1 (aD sO)) ss0)
    (ss1 (aD (sEq a (sM 0) (sM 1))))))
theorem Iz:aj ["one","at","pair","tree","mine","yours","due"] ["one","at"] (defScope ve):=fsc
theorem Kn:DD "_law_arms" ve ["one","at","pair","tree","mine","yours","due"] cI:=λ{_ _ _ _ _ _ _ _ _ _ _ s _ _} cs T G a=>
 have S:=Iz
 (@ssc _ _ _ _ _ _ _ _ (@zA _ _ _ _ _ _ _ 2 _ _ _ _ S.nd (@sTx _ _ _ _ _ _ _ (by decide) (@slx _ _ _ _ _ _ _ sS (@slx _ _ _ _ _ _ _ (sV 0) (@slx _ _ _ _ _ _ _ (sV 0) sl0 rfl) rfl) rfl)) rfl rfl rfl rfl rfl rfl)
    (@ssc _ _ _ _ _ _ _ _ (@zA _ _ _ _ _ _ _ 3 _ _ _ _ S.nd (@sTx _ _ _ _ _ _ _ (by decide) (@slx _ _ _ _ _ _ _ sS (@slx _ _ _ _ _ _ _ (@sTx _ _ _ _ _ _ _ (by decide) (@slx _ _ _ _ _ _ _ sS (@slx _ _ _ _ _ _ _ sS sl0 rfl) rfl)) (@slx _ _ _ _ _ _ _ (@sTx _ _ _ _ _ _ _ (by decide) (@slx _ _ _ _ _ _ _ sS (@slx _ _ _ _ _ _ _ (@sTx _ _ _ _ _ _ _ (by decide) (@slx _ _ _ _ _ _ _ sS (@slx _ _ _ _ _ _ _ sS sl0 rfl) rfl)) (@slx _ _ _ _ _ _ _ (@sTx _ _ _ _ _ _ _ (by decide) (@slx _ _ _ _ _ _ _ sS (@slx _ _ _ _ _ _ _ sS sl0 rfl) rfl)) sl0 rfl) rfl) rfl)) sl0 rfl) rfl) rfl)) rfl rfl rfl rfl rfl rfl)
    (@ssc _ _ _ _ _ _ _ _ (@zA _ _ _ _ _ _ _ 3 _ _ _ _ S.nd (aq (sV 3) (@sTx _ _ _ _ _ _ _ (by decide) (@slx _ _ _ _ _ _ _ (@sTx _ _ _ _ _ _ _ (by decide) (@slx _ _ _ _ _ _ _ sS (@slx _ _ _ _ _ _ _ (@sTx _ _ _ _ _ _ _ (by decide) (@slx _ _ _ _ _ _ _ sS (@slx _ _ _ _ _ _ _ sS sl0 rfl) rfl)) (@slx _ _ _ _ _ _ _ (@sTx _ _ _ _ _ _ _ (by decide) (@slx _ _ _ _ _ _ _ sS (@slx _ _ _ _ _ _ _ sS sl0 rfl) rfl)) sl0 rfl) rfl) rfl)) sl0 rfl))) rfl rfl rfl rfl rfl rfl)
    (@ssc _ _ _ _ _ _ _ _ (@zA _ _ _ _ _ _ _ 4 _ _ _ _ S.nd (@sLx _ _ _ _ _ _ _ (by decide) (@slx _ _ _ _ _ _ _ (@sTx _ _ _ _ _ _ _ (by decide) (@slx _ _ _ _ _ _ _ sS (@slx _ _ _ _ _ _ _ (aq (sV 1) (@sTx _ _ _ _ _ _ _ (by decide) (@slx _ _ _ _ _ _ _ sI (@slx _ _ _ _ _ _ _ sI sl0 rfl) rfl))) (@slx _ _ _ _ _ _ _ sS sl0 rfl) rfl) rfl)) (@slx _ _ _ _ _ _ _ (@sTx _ _ _ _ _ _ _ (by decide) (@slx _ _ _ _ _ _ _ sS (@slx _ _ _ _ _ _ _ (aq (sV 1) (@sTx _ _ _ _ _ _ _ (by decide) (@slx _ _ _ _ _ _ _ sI (@slx _ _ _ _ _ _ _ sI sl0 rfl) rfl))) (@slx _ _ _ _ _ _ _ sS sl0 rfl) rfl) rfl)) sl0 rfl) rfl)) rfl rfl rfl rfl rfl rfl)
    (@ssc _ _ _ _ _ _ _ _ (cf 4 (@sTx _ _ _ _ _ _ _ (by decide) (@slx _ _ _ _ _ _ _ sS (@slx _ _ _ _ _ _ _ (aq (sV 1) (@sTx _ _ _ _ _ _ _ (by decide) (@slx _ _ _ _ _ _ _ sI sl0 rfl))) (@slx _ _ _ _ _ _ _ sS (@slx _ _ _ _ _ _ _ (sV 2) (@slx _ _ _ _ _ _ _ (@sLx _ _ _ _ _ _ _ (by decide) (@slx _ _ _ _ _ _ _ (aq (sV 1) (@sTx _ _ _ _ _ _ _ (by decide) (@slx _ _ _ _ _ _ _ sI (@slx _ _ _ _ _ _ _ sI sl0 rfl) rfl))) (@slx _ _ _ _ _ _ _ (aq (sV 1) (@sTx _ _ _ _ _ _ _ (by decide) (@slx _ _ _ _ _ _ _ sI (@slx _ _ _ _ _ _ _ sI sl0 rfl) rfl))) sl0 rfl) rfl)) sl0 rfl) rfl) rfl) rfl) rfl)))
    (@ssc _ _ _ _ _ _ _ _ (@zA _ _ _ _ _ _ _ 5 _ _ _ _ S.nd (@sLx _ _ _ _ _ _ _ (by decide) (@slx _ _ _ _ _ _ _ (@sTx _ _ _ _ _ _ _ (by decide) (@slx _ _ _ _ _ _ _ sS (@slx _ _ _ _ _ _ _ (aq (sV 1) (@sTx _ _ _ _ _ _ _ (by decide) (@slx _ _ _ _ _ _ _ sI (@slx _ _ _ _ _ _ _ sI sl0 rfl) rfl))) (@slx _ _ _ _ _ _ _ sS sl0 rfl) rfl) rfl)) (@slx _ _ _ _ _ _ _ (@sTx _ _ _ _ _ _ _ (by decide) (@slx _ _ _ _ _ _ _ sS (@slx _ _ _ _ _ _ _ (aq (sV 1) (@sTx _ _ _ _ _ _ _ (by decide) (@slx _ _ _ _ _ _ _ sI (@slx _ _ _ _ _ _ _ sI sl0 rfl) rfl))) (@slx _ _ _ _ _ _ _ sS sl0 rfl) rfl) rfl)) sl0 rfl) rfl)) rfl rfl rfl rfl rfl rfl)
    (@ssc _ _ _ _ _ _ _ _ (cf 5 (@sTx _ _ _ _ _ _ _ (by decide) (@slx _ _ _ _ _ _ _ sS (@slx _ _ _ _ _ _ _ (aq (sV 1) (@sTx _ _ _ _ _ _ _ (by decide) (@slx _ _ _ _ _ _ _ sI sl0 rfl))) (@slx _ _ _ _ _ _ _ sS (@slx _ _ _ _ _ _ _ (sV 2) (@slx _ _ _ _ _ _ _ (@sLx _ _ _ _ _ _ _ (by decide) (@slx _ _ _ _ _ _ _ (aq (sV 1) (@sTx _ _ _ _ _ _ _ (by decide) (@slx _ _ _ _ _ _ _ sI (@slx _ _ _ _ _ _ _ sI sl0 rfl) rfl))) (@slx _ _ _ _ _ _ _ (aq (sV 1) (@sTx _ _ _ _ _ _ _ (by decide) (@slx _ _ _ _ _ _ _ sI (@slx _ _ _ _ _ _ _ sI sl0 rfl) rfl))) sl0 rfl) rfl)) sl0 rfl) rfl) rfl) rfl) rfl)))
    (@ssc _ _ _ _ _ _ _ _ (@zA _ _ _ _ _ _ _ 6 _ _ _ _ S.nd (@sLx _ _ _ _ _ _ _ (by decide) (@slx _ _ _ _ _ _ _ (@sTx _ _ _ _ _ _ _ (by decide) (@slx _ _ _ _ _ _ _ sS (@slx _ _ _ _ _ _ _ (aq (sV 1) (@sTx _ _ _ _ _ _ _ (by decide) (@slx _ _ _ _ _ _ _ sI sl0 rfl))) (@slx _ _ _ _ _ _ _ sS sl0 rfl) rfl) rfl)) sl0 rfl)) rfl rfl rfl rfl rfl rfl)
    (@ssc _ _ _ _ _ _ _ _ (cf 6 (@sTx _ _ _ _ _ _ _ (by decide) (@slx _ _ _ _ _ _ _ sS (@slx _ _ _ _ _ _ _ (sV 1) (@slx _ _ _ _ _ _ _ (sV 2) (@slx _ _ _ _ _ _ _ (aq (sV 1) (@sTx _ _ _ _ _ _ _ (by decide) (@slx _ _ _ _ _ _ _ sI sl0 rfl))) (@slx _ _ _ _ _ _ _ (@sLx _ _ _ _ _ _ _ (by decide) (@slx _ _ _ _ _ _ _ sS (@slx _ _ _ _ _ _ _ sS sl0 rfl) rfl)) (@slx _ _ _ _ _ _ _ (sV 4) (@slx _ _ _ _ _ _ _ (@sLx _ _ _ _ _ _ _ (by decide) (@slx _ _ _ _ _ _ _ sS sl0 rfl)) (@slx _ _ _ _ _ _ _ (sV 5) sl0 rfl) rfl) rfl) rfl) rfl) rfl) rfl) rfl)))
    (ss1 (aD (@sTx _ _ _ _ _ _ _ (by decide) (@slx _ _ _ _ _ _ _ (sM 3) (@slx _ _ _ _ _ _ _ (sM 6) (@slx _ _ _ _ _ _ _ (sM 2) sl0 rfl) rfl) rfl)))))))))))))
theorem IG:aj ["one","at","tree","due"] ["one","at"] (defScope uF):=fsc
theorem KR:DD "_law_let" uF ["one","at","tree","due"] da:=λ{_ _ _ _ _ _ _ _ _ _ _ s _ _} cs T G a=>
 have S:=IG
 (@ssc _ _ _ _ _ _ _ _ (@zA _ _ _ _ _ _ _ 2 _ _ _ _ S.nd (@sTx _ _ _ _ _ _ _ (by decide) (@slx _ _ _ _ _ _ _ sS (@slx _ _ _ _ _ _ _ sS (@slx _ _ _ _ _ _ _ (@sTx _ _ _ _ _ _ _ (by decide) (@slx _ _ _ _ _ _ _ sS (@slx _ _ _ _ _ _ _ (@sTx _ _ _ _ _ _ _ (by decide) (@slx _ _ _ _ _ _ _ sS (@slx _ _ _ _ _ _ _ sS sl0 rfl) rfl)) sl0 rfl) rfl)) (@slx _ _ _ _ _ _ _ (@sTx _ _ _ _ _ _ _ (by decide) (@slx _ _ _ _ _ _ _ sS (@slx _ _ _ _ _ _ _ (@sTx _ _ _ _ _ _ _ (by decide) (@slx _ _ _ _ _ _ _ sS (@slx _ _ _ _ _ _ _ sS sl0 rfl) rfl)) sl0 rfl) rfl)) sl0 rfl) rfl) rfl) rfl)) rfl rfl rfl rfl rfl rfl)
    (@ssc _ _ _ _ _ _ _ _ (@zA _ _ _ _ _ _ _ 3 _ _ _ _ S.nd (@sLx _ _ _ _ _ _ _ (by decide) (@slx _ _ _ _ _ _ _ (@sTx _ _ _ _ _ _ _ (by decide) (@slx _ _ _ _ _ _ _ sS (@slx _ _ _ _ _ _ _ (aq (sV 1) (@sTx _ _ _ _ _ _ _ (by decide) (@slx _ _ _ _ _ _ _ sI (@slx _ _ _ _ _ _ _ sI sl0 rfl) rfl))) (@slx _ _ _ _ _ _ _ sS sl0 rfl) rfl) rfl)) sl0 rfl)) rfl rfl rfl rfl rfl rfl)
    (@ssc _ _ _ _ _ _ _ _ (cf 3 (@sTx _ _ _ _ _ _ _ (by decide) (@slx _ _ _ _ _ _ _ sS (@slx _ _ _ _ _ _ _ (aq (sV 1) (@sTx _ _ _ _ _ _ _ (by decide) (@slx _ _ _ _ _ _ _ sI sl0 rfl))) (@slx _ _ _ _ _ _ _ sS (@slx _ _ _ _ _ _ _ (@sTx _ _ _ _ _ _ _ (by decide) (@slx _ _ _ _ _ _ _ sS (@slx _ _ _ _ _ _ _ (sV 0) sl0 rfl) rfl)) (@slx _ _ _ _ _ _ _ (@sLx _ _ _ _ _ _ _ (by decide) (@slx _ _ _ _ _ _ _ (aq (sV 1) (@sTx _ _ _ _ _ _ _ (by decide) (@slx _ _ _ _ _ _ _ sI (@slx _ _ _ _ _ _ _ sI sl0 rfl) rfl))) sl0 rfl)) sl0 rfl) rfl) rfl) rfl) rfl)))
    (@ssc _ _ _ _ _ _ _ _ (cf 3 (@sTx _ _ _ _ _ _ _ (by decide) (@slx _ _ _ _ _ _ _ sS (@slx _ _ _ _ _ _ _ sS (@slx _ _ _ _ _ _ _ (aq (sV 1) (@sTx _ _ _ _ _ _ _ (by decide) (@slx _ _ _ _ _ _ _ sI sl0 rfl))) sl0 rfl) rfl) rfl)))
    (@ssc _ _ _ _ _ _ _ _ (cf 3 (@sTx _ _ _ _ _ _ _ (by decide) (@slx _ _ _ _ _ _ _ sS (@slx _ _ _ _ _ _ _ (aq (sV 1) (@sTx _ _ _ _ _ _ _ (by decide) (@slx _ _ _ _ _ _ _ sI (@slx _ _ _ _ _ _ _ sI sl0 rfl) rfl))) (@slx _ _ _ _ _ _ _ sS sl0 rfl) rfl) rfl)))
    (@ssc _ _ _ _ _ _ _ _ (cf 3 (@sTx _ _ _ _ _ _ _ (by decide) (@slx _ _ _ _ _ _ _ sS (@slx _ _ _ _ _ _ _ (aq (sV 1) (@sTx _ _ _ _ _ _ _ (by decide) (@slx _ _ _ _ _ _ _ sI sl0 rfl))) (@slx _ _ _ _ _ _ _ sS (@slx _ _ _ _ _ _ _ (@sTx _ _ _ _ _ _ _ (by decide) (@slx _ _ _ _ _ _ _ sS sl0 rfl)) (@slx _ _ _ _ _ _ _ (@sLx _ _ _ _ _ _ _ (by decide) (@slx _ _ _ _ _ _ _ (aq (sV 1) (@sTx _ _ _ _ _ _ _ (by decide) (@slx _ _ _ _ _ _ _ sI (@slx _ _ _ _ _ _ _ sI sl0 rfl) rfl))) sl0 rfl)) sl0 rfl) rfl) rfl) rfl) rfl)))
    (@ssc _ _ _ _ _ _ _ _ (cf 3 (@sTx _ _ _ _ _ _ _ (by decide) (@slx _ _ _ _ _ _ _ sS (@slx _ _ _ _ _ _ _ (sV 1) (@slx _ _ _ _ _ _ _ (aq (sV 1) (@sTx _ _ _ _ _ _ _ (by decide) (@slx _ _ _ _ _ _ _ sI sl0 rfl))) sl0 rfl) rfl) rfl)))
    (ss1 (aD (@sTx _ _ _ _ _ _ _ (by decide) (@slx _ _ _ _ _ _ _ (sM 2) (@slx _ _ _ _ _ _ _ (sM 3) (@slx _ _ _ _ _ _ _ (@sTx _ _ _ _ _ _ _ (by decide) (@slx _ _ _ _ _ _ _ sS sl0 rfl)) sl0 rfl) rfl) rfl)))))))))))
theorem HI:aj ["one","at","tree","row","inner_v","due"] ["one","at"] (defScope uQ):=fsc
theorem J2:DD "_law_each" uQ ["one","at","tree","row","inner_v","due"] cJ:=λ{_ _ _ _ _ _ _ _ _ _ _ s _ _} cs T G a=>
 have S:=HI
 (@ssc _ _ _ _ _ _ _ _ (@zA _ _ _ _ _ _ _ 2 _ _ _ _ S.nd (@sTx _ _ _ _ _ _ _ (by decide) (@slx _ _ _ _ _ _ _ sS (@slx _ _ _ _ _ _ _ sS (@slx _ _ _ _ _ _ _ (@sTx _ _ _ _ _ _ _ (by decide) (@slx _ _ _ _ _ _ _ sS (@slx _ _ _ _ _ _ _ sS sl0 rfl) rfl)) sl0 rfl) rfl) rfl)) rfl rfl rfl rfl rfl rfl)
    (@ssc _ _ _ _ _ _ _ _ (@zA _ _ _ _ _ _ _ 3 _ _ _ _ S.nd (@sTx _ _ _ _ _ _ _ (by decide) (@slx _ _ _ _ _ _ _ sS (@slx _ _ _ _ _ _ _ (sV 0) sl0 rfl) rfl)) rfl rfl rfl rfl rfl rfl)
    (@ssc _ _ _ _ _ _ _ _ (@zA _ _ _ _ _ _ _ 2 _ _ _ _ S.nd (aq (sV 2) (@sTx _ _ _ _ _ _ _ (by decide) (@slx _ _ _ _ _ _ _ (@sTx _ _ _ _ _ _ _ (by decide) (@slx _ _ _ _ _ _ _ sS (@slx _ _ _ _ _ _ _ (@sTx _ _ _ _ _ _ _ (by decide) (@slx _ _ _ _ _ _ _ sS (@slx _ _ _ _ _ _ _ (@sTx _ _ _ _ _ _ _ (by decide) (@slx _ _ _ _ _ _ _ sS (@slx _ _ _ _ _ _ _ sS sl0 rfl) rfl)) sl0 rfl) rfl)) (@slx _ _ _ _ _ _ _ (@sTx _ _ _ _ _ _ _ (by decide) (@slx _ _ _ _ _ _ _ sS (@slx _ _ _ _ _ _ _ sS sl0 rfl) rfl)) sl0 rfl) rfl) rfl)) sl0 rfl))) rfl rfl rfl rfl rfl rfl)
    (@ssc _ _ _ _ _ _ _ _ (@zA _ _ _ _ _ _ _ 4 _ _ _ _ S.nd (@sLx _ _ _ _ _ _ _ (by decide) (@slx _ _ _ _ _ _ _ (@sTx _ _ _ _ _ _ _ (by decide) (@slx _ _ _ _ _ _ _ sS (@slx _ _ _ _ _ _ _ (aq (sV 1) (@sTx _ _ _ _ _ _ _ (by decide) (@slx _ _ _ _ _ _ _ sI (@slx _ _ _ _ _ _ _ sI (@slx _ _ _ _ _ _ _ sI sl0 rfl) rfl) rfl))) (@slx _ _ _ _ _ _ _ sS sl0 rfl) rfl) rfl)) sl0 rfl)) rfl rfl rfl rfl rfl rfl)
    (@ssc _ _ _ _ _ _ _ _ (cf 4 (@sTx _ _ _ _ _ _ _ (by decide) (@slx _ _ _ _ _ _ _ sS (@slx _ _ _ _ _ _ _ (aq (sV 1) (@sTx _ _ _ _ _ _ _ (by decide) (@slx _ _ _ _ _ _ _ sI (@slx _ _ _ _ _ _ _ sI sl0 rfl) rfl))) (@slx _ _ _ _ _ _ _ sS (@slx _ _ _ _ _ _ _ (sV 3) (@slx _ _ _ _ _ _ _ (@sLx _ _ _ _ _ _ _ (by decide) (@slx _ _ _ _ _ _ _ (aq (sV 1) (@sTx _ _ _ _ _ _ _ (by decide) (@slx _ _ _ _ _ _ _ sI (@slx _ _ _ _ _ _ _ sI (@slx _ _ _ _ _ _ _ sI sl0 rfl) rfl) rfl))) sl0 rfl)) sl0 rfl) rfl) rfl) rfl) rfl)))
    (@ssc _ _ _ _ _ _ _ _ (cf 4 (@sTx _ _ _ _ _ _ _ (by decide) (@slx _ _ _ _ _ _ _ sS (@slx _ _ _ _ _ _ _ (aq (sV 1) (@sTx _ _ _ _ _ _ _ (by decide) (@slx _ _ _ _ _ _ _ sI (@slx _ _ _ _ _ _ _ sI sl0 rfl) rfl))) (@slx _ _ _ _ _ _ _ sS sl0 rfl) rfl) rfl)))
    (@ssc _ _ _ _ _ _ _ _ (cf 4 (@sTx _ _ _ _ _ _ _ (by decide) (@slx _ _ _ _ _ _ _ sS (@slx _ _ _ _ _ _ _ (aq (sV 1) (@sTx _ _ _ _ _ _ _ (by decide) (@slx _ _ _ _ _ _ _ sI sl0 rfl))) (@slx _ _ _ _ _ _ _ sS (@slx _ _ _ _ _ _ _ (sV 3) (@slx _ _ _ _ _ _ _ (@sLx _ _ _ _ _ _ _ (by decide) (@slx _ _ _ _ _ _ _ (aq (sV 1) (@sTx _ _ _ _ _ _ _ (by decide) (@slx _ _ _ _ _ _ _ sI (@slx _ _ _ _ _ _ _ sI sl0 rfl) rfl))) (@slx _ _ _ _ _ _ _ (aq (sV 1) (@sTx _ _ _ _ _ _ _ (by decide) (@slx _ _ _ _ _ _ _ sI (@slx _ _ _ _ _ _ _ sI sl0 rfl) rfl))) sl0 rfl) rfl)) sl0 rfl) rfl) rfl) rfl) rfl)))
    (@ssc _ _ _ _ _ _ _ _ (@zA _ _ _ _ _ _ _ 5 _ _ _ _ S.nd (@sLx _ _ _ _ _ _ _ (by decide) (@slx _ _ _ _ _ _ _ (@sTx _ _ _ _ _ _ _ (by decide) (@slx _ _ _ _ _ _ _ sS (@slx _ _ _ _ _ _ _ (aq (sV 1) (@sTx _ _ _ _ _ _ _ (by decide) (@slx _ _ _ _ _ _ _ sI sl0 rfl))) (@slx _ _ _ _ _ _ _ sS sl0 rfl) rfl) rfl)) sl0 rfl)) rfl rfl rfl rfl rfl rfl)
    (@ssc _ _ _ _ _ _ _ _ (cf 5 (@sTx _ _ _ _ _ _ _ (by decide) (@slx _ _ _ _ _ _ _ sS (@slx _ _ _ _ _ _ _ (sV 1) (@slx _ _ _ _ _ _ _ (@sTx _ _ _ _ _ _ _ (by decide) (@slx _ _ _ _ _ _ _ sS (@slx _ _ _ _ _ _ _ (sV 3) sl0 rfl) rfl)) (@slx _ _ _ _ _ _ _ sS (@slx _ _ _ _ _ _ _ (aq (sV 1) (@sTx _ _ _ _ _ _ _ (by decide) (@slx _ _ _ _ _ _ _ sI sl0 rfl))) (@slx _ _ _ _ _ _ _ (@sLx _ _ _ _ _ _ _ (by decide) (@slx _ _ _ _ _ _ _ sS sl0 rfl)) (@slx _ _ _ _ _ _ _ (sV 4) sl0 rfl) rfl) rfl) rfl) rfl) rfl) rfl)))
    (ss1 (aD (@sTx _ _ _ _ _ _ _ (by decide) (@slx _ _ _ _ _ _ _ (sM 2) (@slx _ _ _ _ _ _ _ (sM 5) (@slx _ _ _ _ _ _ _ (@sTx _ _ _ _ _ _ _ (by decide) (@slx _ _ _ _ _ _ _ sS (@slx _ _ _ _ _ _ _ (sM 3) sl0 rfl) rfl)) sl0 rfl) rfl) rfl)))))))))))))
theorem IY:aj ["one","at","number","row","tree","inner_v","due"] ["one","at","number"] (defScope wB):=fsc
theorem Jk:DD "_law_times" wB ["one","at","number","row","tree","inner_v","due"] b6:=λ{_ _ _ _ _ _ _ _ _ _ _ s _ _} cs T G a=>
 have S:=IY
 (@ssc _ _ _ _ _ _ _ _ (@zA _ _ _ _ _ _ _ 3 _ _ _ _ S.nd (@sTx _ _ _ _ _ _ _ (by decide) (@slx _ _ _ _ _ _ _ sS (@slx _ _ _ _ _ _ _ (sV 0) sl0 rfl) rfl)) rfl rfl rfl rfl rfl rfl)
    (@ssc _ _ _ _ _ _ _ _ (@zA _ _ _ _ _ _ _ 4 _ _ _ _ S.nd (@sTx _ _ _ _ _ _ _ (by decide) (@slx _ _ _ _ _ _ _ sS (@slx _ _ _ _ _ _ _ sS (@slx _ _ _ _ _ _ _ (@sTx _ _ _ _ _ _ _ (by decide) (@slx _ _ _ _ _ _ _ sS (@slx _ _ _ _ _ _ _ (sV 2) sl0 rfl) rfl)) (@slx _ _ _ _ _ _ _ (@sTx _ _ _ _ _ _ _ (by decide) (@slx _ _ _ _ _ _ _ sS (@slx _ _ _ _ _ _ _ sS sl0 rfl) rfl)) sl0 rfl) rfl) rfl) rfl)) rfl rfl rfl rfl rfl rfl)
    (@ssc _ _ _ _ _ _ _ _ (@zA _ _ _ _ _ _ _ 4 _ _ _ _ S.nd (aq (sV 4) (@sTx _ _ _ _ _ _ _ (by decide) (@slx _ _ _ _ _ _ _ (@sTx _ _ _ _ _ _ _ (by decide) (@slx _ _ _ _ _ _ _ sS (@slx _ _ _ _ _ _ _ (@sTx _ _ _ _ _ _ _ (by decide) (@slx _ _ _ _ _ _ _ sS (@slx _ _ _ _ _ _ _ sS sl0 rfl) rfl)) (@slx _ _ _ _ _ _ _ (@sTx _ _ _ _ _ _ _ (by decide) (@slx _ _ _ _ _ _ _ sS (@slx _ _ _ _ _ _ _ (@sTx _ _ _ _ _ _ _ (by decide) (@slx _ _ _ _ _ _ _ sS (@slx _ _ _ _ _ _ _ sS sl0 rfl) rfl)) sl0 rfl) rfl)) sl0 rfl) rfl) rfl)) sl0 rfl))) rfl rfl rfl rfl rfl rfl)
    (@ssc _ _ _ _ _ _ _ _ (@zA _ _ _ _ _ _ _ 5 _ _ _ _ S.nd (@sLx _ _ _ _ _ _ _ (by decide) (@slx _ _ _ _ _ _ _ (@sTx _ _ _ _ _ _ _ (by decide) (@slx _ _ _ _ _ _ _ sS (@slx _ _ _ _ _ _ _ (aq (sV 1) (@sTx _ _ _ _ _ _ _ (by decide) (@slx _ _ _ _ _ _ _ sI (@slx _ _ _ _ _ _ _ sI sl0 rfl) rfl))) (@slx _ _ _ _ _ _ _ sS sl0 rfl) rfl) rfl)) (@slx _ _ _ _ _ _ _ (@sTx _ _ _ _ _ _ _ (by decide) (@slx _ _ _ _ _ _ _ sS (@slx _ _ _ _ _ _ _ (aq (sV 1) (@sTx _ _ _ _ _ _ _ (by decide) (@slx _ _ _ _ _ _ _ sI (@slx _ _ _ _ _ _ _ sI (@slx _ _ _ _ _ _ _ sI sl0 rfl) rfl) rfl))) (@slx _ _ _ _ _ _ _ sS sl0 rfl) rfl) rfl)) sl0 rfl) rfl)) rfl rfl rfl rfl rfl rfl)
    (@ssc _ _ _ _ _ _ _ _ (cf 5 (@sTx _ _ _ _ _ _ _ (by decide) (@slx _ _ _ _ _ _ _ sS (@slx _ _ _ _ _ _ _ (aq (sV 1) (@sTx _ _ _ _ _ _ _ (by decide) (@slx _ _ _ _ _ _ _ sI (@slx _ _ _ _ _ _ _ sI sl0 rfl) rfl))) (@slx _ _ _ _ _ _ _ sS (@slx _ _ _ _ _ _ _ (sV 3) (@slx _ _ _ _ _ _ _ (@sLx _ _ _ _ _ _ _ (by decide) (@slx _ _ _ _ _ _ _ (aq (sV 1) (@sTx _ _ _ _ _ _ _ (by decide) (@slx _ _ _ _ _ _ _ sI (@slx _ _ _ _ _ _ _ sI (@slx _ _ _ _ _ _ _ sI sl0 rfl) rfl) rfl))) sl0 rfl)) sl0 rfl) rfl) rfl) rfl) rfl)))
    (@ssc _ _ _ _ _ _ _ _ (cf 5 (@sTx _ _ _ _ _ _ _ (by decide) (@slx _ _ _ _ _ _ _ sS (@slx _ _ _ _ _ _ _ (aq (sV 1) (@sTx _ _ _ _ _ _ _ (by decide) (@slx _ _ _ _ _ _ _ sI sl0 rfl))) (@slx _ _ _ _ _ _ _ sS (@slx _ _ _ _ _ _ _ (sV 3) (@slx _ _ _ _ _ _ _ (@sLx _ _ _ _ _ _ _ (by decide) (@slx _ _ _ _ _ _ _ (aq (sV 1) (@sTx _ _ _ _ _ _ _ (by decide) (@slx _ _ _ _ _ _ _ sI (@slx _ _ _ _ _ _ _ sI sl0 rfl) rfl))) (@slx _ _ _ _ _ _ _ (aq (sV 1) (@sTx _ _ _ _ _ _ _ (by decide) (@slx _ _ _ _ _ _ _ sI (@slx _ _ _ _ _ _ _ sI sl0 rfl) rfl))) sl0 rfl) rfl)) sl0 rfl) rfl) rfl) rfl) rfl)))
    (@ssc _ _ _ _ _ _ _ _ (@zA _ _ _ _ _ _ _ 6 _ _ _ _ S.nd (@sLx _ _ _ _ _ _ _ (by decide) (@slx _ _ _ _ _ _ _ (@sTx _ _ _ _ _ _ _ (by decide) (@slx _ _ _ _ _ _ _ sS (@slx _ _ _ _ _ _ _ (aq (sV 1) (@sTx _ _ _ _ _ _ _ (by decide) (@slx _ _ _ _ _ _ _ sI sl0 rfl))) (@slx _ _ _ _ _ _ _ (@sTx _ _ _ _ _ _ _ (by decide) (@slx _ _ _ _ _ _ _ sS (@slx _ _ _ _ _ _ _ (sV 2) sl0 rfl) rfl)) (@slx _ _ _ _ _ _ _ (@sTx _ _ _ _ _ _ _ (by decide) (@slx _ _ _ _ _ _ _ sS sl0 rfl)) (@slx _ _ _ _ _ _ _ (@sLx _ _ _ _ _ _ _ (by decide) sl0) sl0 rfl) rfl) rfl) rfl) rfl)) sl0 rfl)) rfl rfl rfl rfl rfl rfl)
    (@ssc _ _ _ _ _ _ _ _ (cf 6 (@sTx _ _ _ _ _ _ _ (by decide) (@slx _ _ _ _ _ _ _ sS (@slx _ _ _ _ _ _ _ (aq (sV 1) (@sTx _ _ _ _ _ _ _ (by decide) (@slx _ _ _ _ _ _ _ sI sl0 rfl))) (@slx _ _ _ _ _ _ _ sS sl0 rfl) rfl) rfl)))
    (@ssc _ _ _ _ _ _ _ _ (cf 6 (@sTx _ _ _ _ _ _ _ (by decide) (@slx _ _ _ _ _ _ _ sS (@slx _ _ _ _ _ _ _ (sV 1) (@slx _ _ _ _ _ _ _ (sV 3) (@slx _ _ _ _ _ _ _ sS (@slx _ _ _ _ _ _ _ (aq (sV 1) (@sTx _ _ _ _ _ _ _ (by decide) (@slx _ _ _ _ _ _ _ sI sl0 rfl))) (@slx _ _ _ _ _ _ _ (aq (sV 1) (@sTx _ _ _ _ _ _ _ (by decide) (@slx _ _ _ _ _ _ _ sI sl0 rfl))) (@slx _ _ _ _ _ _ _ (@sLx _ _ _ _ _ _ _ (by decide) (@slx _ _ _ _ _ _ _ sS sl0 rfl)) (@slx _ _ _ _ _ _ _ (sV 5) sl0 rfl) rfl) rfl) rfl) rfl) rfl) rfl) rfl)))
    (ss1 (aD (@sTx _ _ _ _ _ _ _ (by decide) (@slx _ _ _ _ _ _ _ (sM 4) (@slx _ _ _ _ _ _ _ (sM 6) (@slx _ _ _ _ _ _ _ (sM 3) sl0 rfl) rfl) rfl)))))))))))))
theorem FO:aj ["one","at","tree","due"] ["one","at"] (defScope vt):=fsc
theorem JS:DD "_law_like" vt ["one","at","tree","due"] cG:=λ{_ _ _ _ _ _ _ _ _ _ _ s _ _} cs T G a=>
 have S:=FO
 (@ssc _ _ _ _ _ _ _ _ (@zA _ _ _ _ _ _ _ 2 _ _ _ _ S.nd (@sTx _ _ _ _ _ _ _ (by decide) (@slx _ _ _ _ _ _ _ sS (@slx _ _ _ _ _ _ _ (@sTx _ _ _ _ _ _ _ (by decide) (@slx _ _ _ _ _ _ _ sS (@slx _ _ _ _ _ _ _ sS sl0 rfl) rfl)) (@slx _ _ _ _ _ _ _ (@sTx _ _ _ _ _ _ _ (by decide) (@slx _ _ _ _ _ _ _ sS (@slx _ _ _ _ _ _ _ sS sl0 rfl) rfl)) (@slx _ _ _ _ _ _ _ (@sTx _ _ _ _ _ _ _ (by decide) (@slx _ _ _ _ _ _ _ sS (@slx _ _ _ _ _ _ _ sS sl0 rfl) rfl)) sl0 rfl) rfl) rfl) rfl)) rfl rfl rfl rfl rfl rfl)
    (@ssc _ _ _ _ _ _ _ _ (@zA _ _ _ _ _ _ _ 3 _ _ _ _ S.nd (@sLx _ _ _ _ _ _ _ (by decide) (@slx _ _ _ _ _ _ _ (@sTx _ _ _ _ _ _ _ (by decide) (@slx _ _ _ _ _ _ _ sS (@slx _ _ _ _ _ _ _ (aq (sV 1) (@sTx _ _ _ _ _ _ _ (by decide) (@slx _ _ _ _ _ _ _ sI sl0 rfl))) (@slx _ _ _ _ _ _ _ sS sl0 rfl) rfl) rfl)) sl0 rfl)) rfl rfl rfl rfl rfl rfl)
    (@ssc _ _ _ _ _ _ _ _ (cf 3 (@sTx _ _ _ _ _ _ _ (by decide) (@slx _ _ _ _ _ _ _ sS (@slx _ _ _ _ _ _ _ (sV 1) (@slx _ _ _ _ _ _ _ (sV 0) (@slx _ _ _ _ _ _ _ (aq (sV 1) (@sTx _ _ _ _ _ _ _ (by decide) (@slx _ _ _ _ _ _ _ sI sl0 rfl))) (@slx _ _ _ _ _ _ _ (@sLx _ _ _ _ _ _ _ (by decide) (@slx _ _ _ _ _ _ _ sS sl0 rfl)) (@slx _ _ _ _ _ _ _ (@sLx _ _ _ _ _ _ _ (by decide) (@slx _ _ _ _ _ _ _ (@sTx _ _ _ _ _ _ _ (by decide) (@slx _ _ _ _ _ _ _ sS (@slx _ _ _ _ _ _ _ (aq (sV 1) (@sTx _ _ _ _ _ _ _ (by decide) (@slx _ _ _ _ _ _ _ sI sl0 rfl))) (@slx _ _ _ _ _ _ _ sS sl0 rfl) rfl) rfl)) sl0 rfl)) (@slx _ _ _ _ _ _ _ (@sLx _ _ _ _ _ _ _ (by decide) (@slx _ _ _ _ _ _ _ sS sl0 rfl)) (@slx _ _ _ _ _ _ _ (@sLx _ _ _ _ _ _ _ (by decide) (@slx _ _ _ _ _ _ _ (@sTx _ _ _ _ _ _ _ (by decide) (@slx _ _ _ _ _ _ _ sS (@slx _ _ _ _ _ _ _ (aq (sV 1) (@sTx _ _ _ _ _ _ _ (by decide) (@slx _ _ _ _ _ _ _ sI sl0 rfl))) (@slx _ _ _ _ _ _ _ sS sl0 rfl) rfl) rfl)) sl0 rfl)) sl0 rfl) rfl) rfl) rfl) rfl) rfl) rfl) rfl)))
    (ss1 (aD (@sTx _ _ _ _ _ _ _ (by decide) (@slx _ _ _ _ _ _ _ (sM 2) (@slx _ _ _ _ _ _ _ (sM 3) (@slx _ _ _ _ _ _ _ (sM 0) sl0 rfl) rfl) rfl)))))))
theorem FI:aj ["due","program","rows","some","longs","one"] ["due","program"] (defScope uv):=fsc
theorem KO:DD "_law_right" uv ["due","program","rows","some","longs","one"] bX:=λ{_ _ _ _ _ _ _ _ _ _ _ s _ _} cs T G a=>
 have S:=FI
 (@ssc _ _ _ _ _ _ _ _ (@zA _ _ _ _ _ _ _ 2 _ _ _ _ S.nd (ao cs.c476 a (@say _ _ _ _ _ _ _ (sV 1) sa0 rfl rfl)) rfl rfl rfl rfl rfl rfl)
    (@ssc _ _ _ _ _ _ _ _ (zIf (oZ (tB (ao cs.c24 a (@say _ _ _ _ _ _ _ (sV 0) (@say _ _ _ _ _ _ _ (sV 2) sa0 rfl rfl) rfl rfl)))) (ss1 (aD sO)) ss0)
    (Jx 2 3 4 5 S.nd cs.c486 a (pv 2)
    (jb (pre:=["one"]) (ys:=[]) (cl:=[]) (is:=[]) S.nd rfl (by first|exact Lh rfl|exact Ld rfl) rfl rfl (eF (pv 3)) (λb s H c=>qH csc b s H c) (λ_ _ _ _=>bK gL rfl T.len Pb (aE (pv 0) a6)) (by with_unfolding_all rfl) csc .nil rfl .nil)
    (jL PassesOwn.never rfl (eF (pv 3)) (bN (i:=5) S.nd rfl (by first|exact Lh rfl|exact Ld rfl)) (dG (fK (gX N2 Pj Ph fV (pv 5) (aE kg a6)))))
    (om (gx (oj a.units) (eI (pre:=["one"]) (ys:=[]) (cl:=[]) (is:=[]) rfl (eF (pv 3)) (λb s H c=>qH csc b s H c) (λ_ _ _ _=>bK gL rfl T.len Pb (aE (pv 0) a6)) (by with_unfolding_all rfl) csc .nil rfl .nil) (eI (pre:=["long"]) (ys:=[]) (cl:=[]) (is:=[]) rfl (eF (pv 4)) (λb s H c=>qH csc b s H c) (λ_ _ _ _=>Cc (pv 0) kg) (by with_unfolding_all rfl) csc .nil rfl .nil) (dD _)) (dG (mM Bd)) gz)
    (ss1 (aD (ao cs.c24 a (@say _ _ _ _ _ _ _ (sM 0) (@say _ _ _ _ _ _ _ (ao cs.c476 a (@say _ _ _ _ _ _ _ (sM 1) sa0 rfl rfl)) sa0 rfl rfl) rfl rfl)))))))
theorem Ie:aj ["one","other","number","way","at"] ["one","other","number","way","at"] (defScope uu):=fsc
theorem Ke:DD "_law_told" uu ["one","other","number","way","at"] aZ:=λ{_ _ _ _ _ _ _ _ _ _ _ s _ _} cs T G a=>
 have S:=Ie
 (@ssc _ _ _ _ _ _ _ _ (zIf (cK a (sV 3) sI) (ss1 (aD (ao cs.c481 a (@say _ _ _ _ _ _ _ (sM 0) (@say _ _ _ _ _ _ _ (sM 4) sa0 rfl rfl) rfl rfl)))) ss0)
    (@ssc _ _ _ _ _ _ _ _ (zIf (cK a (sV 3) sI) (ss1 (aD (ao cs.c485 a (@say _ _ _ _ _ _ _ (sM 0) (@say _ _ _ _ _ _ _ (sM 4) sa0 rfl rfl) rfl rfl)))) ss0)
    (@ssc _ _ _ _ _ _ _ _ (zIf (cK a (sV 3) sI) (ss1 (aD (ao cs.c482 a (@say _ _ _ _ _ _ _ (sM 0) (@say _ _ _ _ _ _ _ (sM 4) sa0 rfl rfl) rfl rfl)))) ss0)
    (@ssc _ _ _ _ _ _ _ _ (zIf (cK a (sV 3) sI) (ss1 (aD (ao cs.c483 a (@say _ _ _ _ _ _ _ (sM 0) (@say _ _ _ _ _ _ _ (sM 4) sa0 rfl rfl) rfl rfl)))) ss0)
    (ss1 (aD (ao cs.c484 a (@say _ _ _ _ _ _ _ (sM 0) (@say _ _ _ _ _ _ _ (sM 4) (@say _ _ _ _ _ _ _ (sM 2) sa0 rfl rfl) rfl rfl) rfl rfl))))))))
theorem S0:aj ["script","tape","one","other","number","heads","way","tree","due","kind","pair","whole"] ["script"] (defScope s0):=fsc
theorem D0:DD "law" s0 ["script","tape","one","other","number","heads","way","tree","due","kind","pair","whole"] f_law:=λ{_ _ _ _ _ _ _ _ _ _ _ s _ _} cs T G a=>
 have S:=S0
 (@ssc _ _ _ _ _ _ _ _ (@zA _ _ _ _ _ _ _ 1 _ _ _ _ S.nd (@sLx _ _ _ _ _ _ _ (by decide) (@slx _ _ _ _ _ _ _ (tD (hm:=T.list) (ha:=(JG (sV 0) sI))) (@slx _ _ _ _ _ _ _ sI (@slx _ _ _ _ _ _ _ sI (@slx _ _ _ _ _ _ _ sI sl0 rfl) rfl) rfl) rfl)) rfl rfl rfl rfl rfl rfl)
    (@ssc _ _ _ _ _ _ _ _ (@zA _ _ _ _ _ _ _ 2 _ _ _ _ S.nd (ao cs.c429 a (sai 1 (@say _ _ _ _ _ _ _ (eJ sI (ao cs.c428 a (sai 1 (@say _ _ _ _ _ _ _ sI sa0 rfl rfl)))) sa0 rfl rfl))) rfl rfl rfl rfl rfl rfl)
    (@ssc _ _ _ _ _ _ _ _ (@zA _ _ _ _ _ _ _ 3 _ _ _ _ S.nd (ao cs.c429 a (sai 1 (@say _ _ _ _ _ _ _ (eJ sI (ao cs.c428 a (sai 1 (@say _ _ _ _ _ _ _ sI sa0 rfl rfl)))) sa0 rfl rfl))) rfl rfl rfl rfl rfl rfl)
    (@ssc _ _ _ _ _ _ _ _ (@zA _ _ _ _ _ _ _ 4 _ _ _ _ S.nd (ao cs.c428 a (sai 1 (@say _ _ _ _ _ _ _ (eJ (C5 sI sI) sI) sa0 rfl rfl))) rfl rfl rfl rfl rfl rfl)
    (@ssc _ _ _ _ _ _ _ _ (@zA _ _ _ _ _ _ _ 5 _ _ _ _ S.nd (@sTx _ _ _ _ _ _ _ (by decide) (@slx _ _ _ _ _ _ _ (@sTx _ _ _ _ _ _ _ (by decide) (@slx _ _ _ _ _ _ _ sS (@slx _ _ _ _ _ _ _ (@sTx _ _ _ _ _ _ _ (by decide) (@slx _ _ _ _ _ _ _ sS sl0 rfl)) sl0 rfl) rfl)) (@slx _ _ _ _ _ _ _ (@sTx _ _ _ _ _ _ _ (by decide) (@slx _ _ _ _ _ _ _ sS (@slx _ _ _ _ _ _ _ (sV 2) sl0 rfl) rfl)) (@slx _ _ _ _ _ _ _ (@sTx _ _ _ _ _ _ _ (by decide) (@slx _ _ _ _ _ _ _ sS (@slx _ _ _ _ _ _ _ (sV 2) sl0 rfl) rfl)) sl0 rfl) rfl) rfl)) rfl rfl rfl rfl rfl rfl)
    (@ssc _ _ _ _ _ _ _ _ (@zA _ _ _ _ _ _ _ 5 _ _ _ _ S.nd (aq (sV 5) (@sTx _ _ _ _ _ _ _ (by decide) (@slx _ _ _ _ _ _ _ (@sTx _ _ _ _ _ _ _ (by decide) (@slx _ _ _ _ _ _ _ sS (@slx _ _ _ _ _ _ _ (@sTx _ _ _ _ _ _ _ (by decide) (@slx _ _ _ _ _ _ _ sS (@slx _ _ _ _ _ _ _ (sV 2) sl0 rfl) rfl)) sl0 rfl) rfl)) (@slx _ _ _ _ _ _ _ (@sTx _ _ _ _ _ _ _ (by decide) (@slx _ _ _ _ _ _ _ sS (@slx _ _ _ _ _ _ _ (sV 3) sl0 rfl) rfl)) sl0 rfl) rfl))) rfl rfl rfl rfl rfl rfl)
    (@ssc _ _ _ _ _ _ _ _ (pQ 6 S.nd (ym (hm:=T.range) (ha:=sI)) (@ssc _ _ _ _ _ _ _ _ (mP 7 8 9 S.nd (ao cs.c488 a (@say _ _ _ _ _ _ _ (sV 2) (@say _ _ _ _ _ _ _ (sV 3) (@say _ _ _ _ _ _ _ (sV 4) (@say _ _ _ _ _ _ _ (sV 6) (@say _ _ _ _ _ _ _ (@sTx _ _ _ _ _ _ _ (by decide) sl0) sa0 rfl rfl) rfl rfl) rfl rfl) rfl rfl) rfl rfl)))
     (@ssc _ _ _ _ _ _ _ _ (zIf (oZ (tB (ao cs.c487 a (@say _ _ _ _ _ _ _ (sV 8) (@say _ _ _ _ _ _ _ (@sTx _ _ _ _ _ _ _ (by decide) (@slx _ _ _ _ _ _ _ (sV 5) (@slx _ _ _ _ _ _ _ (sV 7) sl0 rfl) rfl)) sa0 rfl rfl) rfl rfl)))) (ss1 (aD sO)) ss0)
     (@ssc _ _ _ _ _ _ _ _ (mP 7 8 9 S.nd (ao cs.c488 a (@say _ _ _ _ _ _ _ (sV 2) (@say _ _ _ _ _ _ _ (sV 3) (@say _ _ _ _ _ _ _ (sV 4) (@say _ _ _ _ _ _ _ (sV 6) (@say _ _ _ _ _ _ _ (@sTx _ _ _ _ _ _ _ (by decide) (@slx _ _ _ _ _ _ _ sI sl0 rfl)) sa0 rfl rfl) rfl rfl) rfl rfl) rfl rfl) rfl rfl)))
     (@ssc _ _ _ _ _ _ _ _ (@zA _ _ _ _ _ _ _ 10 _ _ _ _ S.nd (@sTx _ _ _ _ _ _ _ (by decide) (@slx _ _ _ _ _ _ _ sS (@slx _ _ _ _ _ _ _ (sV 3) (@slx _ _ _ _ _ _ _ (sV 9) sl0 rfl) rfl) rfl)) rfl rfl rfl rfl rfl rfl)
     (@ssc _ _ _ _ _ _ _ _ (@zA _ _ _ _ _ _ _ 8 _ _ _ _ S.nd (eJ (@sLx _ _ _ _ _ _ _ (by decide) (@slx _ _ _ _ _ _ _ (@sTx _ _ _ _ _ _ _ (by decide) (@slx _ _ _ _ _ _ _ sS (@slx _ _ _ _ _ _ _ (@sTx _ _ _ _ _ _ _ (by decide) (@slx _ _ _ _ _ _ _ sI sl0 rfl)) (@slx _ _ _ _ _ _ _ sS sl0 rfl) rfl) rfl)) sl0 rfl)) (sV 8)) rfl rfl rfl rfl rfl rfl)
     (@ssc _ _ _ _ _ _ _ _ (cf 8 (@sTx _ _ _ _ _ _ _ (by decide) (@slx _ _ _ _ _ _ _ sS (@slx _ _ _ _ _ _ _ (@sTx _ _ _ _ _ _ _ (by decide) sl0) (@slx _ _ _ _ _ _ _ sS (@slx _ _ _ _ _ _ _ (sV 10) (@slx _ _ _ _ _ _ _ (@sLx _ _ _ _ _ _ _ (by decide) (@slx _ _ _ _ _ _ _ (@sTx _ _ _ _ _ _ _ (by decide) (@slx _ _ _ _ _ _ _ sI sl0 rfl)) (@slx _ _ _ _ _ _ _ (@sTx _ _ _ _ _ _ _ (by decide) (@slx _ _ _ _ _ _ _ sI sl0 rfl)) sl0 rfl) rfl)) sl0 rfl) rfl) rfl) rfl) rfl)))
     (@ssc _ _ _ _ _ _ _ _ (zIf (oZ (tB (ao cs.c487 a (@say _ _ _ _ _ _ _ (sV 8) (@say _ _ _ _ _ _ _ (@sTx _ _ _ _ _ _ _ (by decide) (@slx _ _ _ _ _ _ _ (sV 5) (@slx _ _ _ _ _ _ _ (@sTx _ _ _ _ _ _ _ (by decide) (@slx _ _ _ _ _ _ _ sS (@slx _ _ _ _ _ _ _ (@sTx _ _ _ _ _ _ _ (by decide) (@slx _ _ _ _ _ _ _ sS (@slx _ _ _ _ _ _ _ sS sl0 rfl) rfl)) (@slx _ _ _ _ _ _ _ (sV 7) sl0 rfl) rfl) rfl)) sl0 rfl) rfl)) sa0 rfl rfl) rfl rfl)))) (ss1 (aD sO)) ss0)
     (@ssc _ _ _ _ _ _ _ _ (mP 7 8 9 S.nd (ao cs.c488 a (@say _ _ _ _ _ _ _ (sV 2) (@say _ _ _ _ _ _ _ (sV 3) (@say _ _ _ _ _ _ _ (sV 4) (@say _ _ _ _ _ _ _ (sV 6) (@say _ _ _ _ _ _ _ (@sTx _ _ _ _ _ _ _ (by decide) (@slx _ _ _ _ _ _ _ sI (@slx _ _ _ _ _ _ _ sI sl0 rfl) rfl)) sa0 rfl rfl) rfl rfl) rfl rfl) rfl rfl) rfl rfl)))
     (@ssc _ _ _ _ _ _ _ _ (@zA _ _ _ _ _ _ _ 10 _ _ _ _ S.nd (@sTx _ _ _ _ _ _ _ (by decide) (@slx _ _ _ _ _ _ _ sS (@slx _ _ _ _ _ _ _ (sV 3) (@slx _ _ _ _ _ _ _ (sV 9) sl0 rfl) rfl) rfl)) rfl rfl rfl rfl rfl rfl)
     (@ssc _ _ _ _ _ _ _ _ (@zA _ _ _ _ _ _ _ 8 _ _ _ _ S.nd (eJ (@sLx _ _ _ _ _ _ _ (by decide) (@slx _ _ _ _ _ _ _ (@sTx _ _ _ _ _ _ _ (by decide) (@slx _ _ _ _ _ _ _ sS (@slx _ _ _ _ _ _ _ (@sTx _ _ _ _ _ _ _ (by decide) (@slx _ _ _ _ _ _ _ sI (@slx _ _ _ _ _ _ _ sI sl0 rfl) rfl)) (@slx _ _ _ _ _ _ _ sS sl0 rfl) rfl) rfl)) sl0 rfl)) (sV 8)) rfl rfl rfl rfl rfl rfl)
     (@ssc _ _ _ _ _ _ _ _ (cf 8 (@sTx _ _ _ _ _ _ _ (by decide) (@slx _ _ _ _ _ _ _ sS (@slx _ _ _ _ _ _ _ (@sTx _ _ _ _ _ _ _ (by decide) (@slx _ _ _ _ _ _ _ sI sl0 rfl)) (@slx _ _ _ _ _ _ _ sS (@slx _ _ _ _ _ _ _ (sV 10) (@slx _ _ _ _ _ _ _ (@sLx _ _ _ _ _ _ _ (by decide) (@slx _ _ _ _ _ _ _ (@sTx _ _ _ _ _ _ _ (by decide) (@slx _ _ _ _ _ _ _ sI (@slx _ _ _ _ _ _ _ sI sl0 rfl) rfl)) (@slx _ _ _ _ _ _ _ (@sTx _ _ _ _ _ _ _ (by decide) (@slx _ _ _ _ _ _ _ sI (@slx _ _ _ _ _ _ _ sI sl0 rfl) rfl)) sl0 rfl) rfl)) sl0 rfl) rfl) rfl) rfl) rfl)))
     (@ssc _ _ _ _ _ _ _ _ (cf 8 (@sTx _ _ _ _ _ _ _ (by decide) (@slx _ _ _ _ _ _ _ sS (@slx _ _ _ _ _ _ _ (@sTx _ _ _ _ _ _ _ (by decide) sl0) (@slx _ _ _ _ _ _ _ sS (@slx _ _ _ _ _ _ _ (sV 9) (@slx _ _ _ _ _ _ _ (@sLx _ _ _ _ _ _ _ (by decide) (@slx _ _ _ _ _ _ _ (@sTx _ _ _ _ _ _ _ (by decide) (@slx _ _ _ _ _ _ _ sI sl0 rfl)) sl0 rfl)) sl0 rfl) rfl) rfl) rfl) rfl)))
     (@ssc _ _ _ _ _ _ _ _ (@zA _ _ _ _ _ _ _ 11 _ _ _ _ S.nd (@sTx _ _ _ _ _ _ _ (by decide) (@slx _ _ _ _ _ _ _ sS (@slx _ _ _ _ _ _ _ (@sTx _ _ _ _ _ _ _ (by decide) (@slx _ _ _ _ _ _ _ sS (@slx _ _ _ _ _ _ _ (@sTx _ _ _ _ _ _ _ (by decide) (@slx _ _ _ _ _ _ _ sS (@slx _ _ _ _ _ _ _ sS sl0 rfl) rfl)) (@slx _ _ _ _ _ _ _ (sV 7) sl0 rfl) rfl) rfl)) sl0 rfl) rfl)) rfl rfl rfl rfl rfl rfl)
     (ss1 (zIf (oZ (tB (ao cs.c487 a (@say _ _ _ _ _ _ _ (sV 8) (@say _ _ _ _ _ _ _ (@sTx _ _ _ _ _ _ _ (by decide) (@slx _ _ _ _ _ _ _ (sV 5) (@slx _ _ _ _ _ _ _ (sV 11) sl0 rfl) rfl)) sa0 rfl rfl) rfl rfl)))) (ss1 (aD sO)) ss0))))))))))))))))
    (ss1 (aD sO)))))))))
end A48

namespace A48
open PySem PySem.Spec PyProof.Rows L2 L3 MR
abbrev Cl (n:O):M.Call:=M.callL prog 486 1000001 n
abbrev sLs:Rf:=Ax
abbrev nLs:O:=486
section
variable {P:QZ}{w:K6}{K:K3}{mg:Str->B L}{base:Q5}{f:QS}{fd:LZ}
theorem scL:aj ["thing","found","one"] ["thing"] (defScope sLs):=fsc
theorem Hu {n:O}(F:L2.Fun K "_law_lists" "_law_lists" sLs f fd)(Gn:dJ P w K mg base CX0 n f fd ["thing"]<|qF K n)(bG:Binds K fd ["thing"] [])(T:Txt mg)(mF:mg "_law_lists"=Y (.ref f)):dJ P w K mg base CX0 (n+1) f fd ["thing"] (qF K<|n+1):=by
 refine F.ok scL (λvs H Q E h=>?_) λcdv A outer s H vs Q E hr h=>?_
 .obtain ⟨v,t,Z,G,rfl,_⟩:=h;rfl
 obtain⟨v,t,Z,G,rfl,r,ow,za,hd,y,hz,hn,q⟩:=h
 refine⟨_,bZ (kc (i:=1) scL.nd rfl (.inl rfl) (uU a6))
  (bZ (om (w6 (bK (lZ (c:="list") (by decide)) rfl T.isin OA (aE (pv 0) (aE (jh rfl T.list ND) a6))))
   (dG<|fK<|gX N2 Pj Ph fV (pv 1)<|aE (pv 0) a6) gz)
  (bZ (om (w6 (bK (pY (c1:="list") (c2:="tuple") (by decide) (by decide)) rfl T.isin OA (aE (pv 0) (aE (mE (aE (jh rfl T.list ND) (aE (jh rfl T.tup N1) a6))) a6))))
   (dG (jL PassesOwn.never rfl (Br (eF (pv 0)) (nC (pv 0))) (bN (i:=2) scL.nd rfl (Lh rfl))
    (dG<|kc (i:=1) scL.nd rfl (.inl rfl) (eM op_cat (pv 1)<|kN (E:=E0) Gn hr rfl mF F.kp bG .nil ua (aE (pv 2) a6))))) gz)
  (dG<|mM<|pv 1))),?_⟩
 have eH:∀{b:QS} {u:HO} {r:QS} {o:HO},H r=J->H b=Y u->upd H r o b=Y u:=λ{b u r o} hr e=>by rw[ag (λz=>by rw[z,hr] at e;cases e)];exact e
 refine⟨by decide,λr0 hr0=>?_⟩;have x0:ExH H (upd H r0 (.lst [])):=λb u e=>eH hr0 e;have fin:∀m o,upd H r0 (.lst []) m=J->M.nl t=M.nl t->Q (.ref r0) (upd (upd H r0 (.lst [])) m o):=λm o k _=>q _ r0 [] (ExH.upd x0 k) hr0 (by rw[ag (λz=>by rw[z,af] at k;cases k),af];rfl) ⟨LH _,N9,λb hb=>QW hb LY⟩;cases t with
 | lst D =>
  obtain⟨a,xs,rfl,hxl,⟨ga,ha⟩,p⟩:=r;have p:RepL K Z H .d D xs (λb=>G b/\b≠a):=p;have hl:xs.length=D.length:=p.length;obtain⟨hz1,hz2⟩:=LB.mp hz;have hz1:=QU hz1;have hd':M.dps D+1<n+1:=hd;have hd2':M.dps D+1<1000:=y;have hn':M.nls D+1<M.LIM:=hn;obtain⟨Gs,g1,g2,g3⟩:=RepL.parts p;have h0:=x0 a _ ha;refine⟨_,rfl,_,.lst [],rfl,⟨a,xs,rfl,SqL.of h0⟩,_,rfl,Fy ?_⟩;refine⟨_,rfl,.inl ⟨rfl,_,SqL.of af⟩,_,rfl,r0,[],_,rfl,rfl,af,iU<|by decide,?_⟩;rw[yc,LX];have x1:ExH H (upd H r0 (.lst [.ref a])):=λb u e=>eH hr0 e;refine⟨_,rfl,(by show 2<=sizeLine;decide),λm k=>?_⟩;have x2:ExH H (upd (upd H r0 (.lst [.ref a])) m (.tup [.ty "list",.ty "tuple"])):=ExH.upd x1 k;have h2:=x2 a _ ha;have hr2:upd (upd H r0 (.lst [.ref a])) m (.tup [.ty "list",.ty "tuple"]) r0=Y (.lst ([a].map V.ref)):=by rw[ag (λz=>by rw[z,af] at k;cases k),af];rfl
  refine⟨_,.lst [],m,rfl,.inl<|.inl af,⟨a,xs,rfl,SqL.of h2⟩,_,rfl,Fy ?_⟩;refine .inl ⟨_,rfl,a,rfl,⟨_,SqL.of h2⟩,?_⟩
  refine ll (K:=K) (a:=a) (xs:=xs) (λi σ N=>∃r as o,σ=[Y<|.ref a,Y<|.ref r,o]/\ExH H N/\H r=J/\N r=Y (.lst<|as.map V.ref)/\Ls H (λb=>b=a\/∃j,j<i/\Gs j b) (1+M.nls (D.take i)) as)
   ⟨r0,[a],_,rfl,x2,hr0,hr2,La 1,Mg.mpr ⟨LY,N9⟩,λb hb=>by rw[Lv.mp hb];exact⟨.inl rfl,xs,ha,by rw[hl];exact hz1⟩⟩ (λi σ N _ ⟨_,_,_,_,h3,_⟩=>SqL.of<|h3 a _ ha) ?_ ?_
  .rintro i x σ N hx ⟨r,as,o,rfl,ex,hr,h3,g⟩;have tn:=pw (K:=K) (G:=λb=>G b/\b≠a) (B:=λb=>b=a) (n:=n) (c:=1) (λb h=>ow b h.1) za (by lia) (by lia) hz2 (by lia) g1 g2 g3 (λj b h z=>(g2 j b z).2 h) hl hx ex hr h3 g;obtain⟨v',t',Z',G',e1,e2,e3,e4,e5,e6,e7,e8,e9⟩:=tn;refine⟨_,rfl,_,rfl,v',t',Z',G',e1,e2,e3,e4,e5,e6,e7,e8,λH4 a' as' k1 k2 k3 k4=>?_⟩;obtain⟨l,b,ys,zs,f1,f2,f3,f4,f5,f6⟩:=e9 H4 a' as' k1 k2 k3 k4;refine⟨l,b,ys,zs,f1,f2,f3,f4,f5,λp' hp'=>?_⟩;obtain⟨r',as2,z,y1,y2,y3,y4⟩:=f6 p' hp';cases z;exact⟨p',as2,_,rfl,y1,y2,y3,y4⟩
  rintro σ N ⟨r,as,o,rfl,ex,hr,h3,g⟩;refine⟨_,rfl,q N r as ex hr h3 ⟨?_,g.2.1,λb hb=>⟨(g.2.2 b hb).1.elim (λz=>by rw[z];exact ga) λ⟨j,_,z⟩=>(g2 j b z).1,(g.2.2 b hb).2⟩⟩⟩;have:=g.1;rw[hl,N5] at this;show as.length<=M.nls D+1;lia
 | tup D =>
  obtain⟨a,xs,rfl,hq,hxl,p⟩:=r;have p:RepL K Z H .d D xs G:=p;have hl:xs.length=D.length:=p.length;obtain⟨hz1,hz2⟩:=LB.mp hz;have hd':M.dps D+1<n+1:=hd;have hd2':M.dps D+1<1000:=y;have hn':M.nls D<M.LIM:=hn;obtain⟨Gs,g1,g2,g3⟩:=RepL.parts p;refine⟨_,rfl,_,.tup [],rfl,⟨a,xs,rfl,(x0.stay (Z:=Z)).sqt hq⟩,_,rfl,km ?_⟩;refine⟨_,rfl,(by show 2<=sizeLine;decide),λm k=>?_⟩;have x2:ExH H (upd (upd H r0 (.lst [])) m (.tup [.ty "list",.ty "tuple"])):=ExH.upd x0 k;have hr2:upd (upd H r0 (.lst [])) m (.tup [.ty "list",.ty "tuple"]) r0=Y (.lst (([]:U QS).map V.ref)):=by rw[ag (λz=>by rw[z,af] at k;cases k),af];rfl
  refine⟨_,.tup [],m,rfl,.inl<|.inl af,⟨a,xs,rfl,(x2.stay (Z:=Z)).sqt hq⟩,_,rfl,Fy ?_⟩;refine .inr ⟨_,rfl,a,rfl,⟨_,(x2.stay (Z:=Z)).sqt hq⟩,?_⟩
  refine yV (K:=K) (a:=a) (xs:=xs) (λi σ N=>∃r as o,σ=[Y<|.ref a,Y<|.ref r,o]/\ExH H N/\H r=J/\N r=Y (.lst<|as.map V.ref)/\Ls H (λb=>Q6\/∃j,j<i/\Gs j b) (0+M.nls (D.take i)) as)
   ⟨r0,[],_,rfl,x2,hr0,hr2,La 0,N9,λb hb=>QW hb LY⟩ (λi σ N _ ⟨_,_,_,_,h3,_⟩=>(h3.stay (Z:=Z)).sqt hq) ?_ ?_
  .rintro i x σ N hx ⟨r,as,o,rfl,ex,hr,h3,g⟩;have tn:=pw (K:=K) (G:=G) (B:=λ_=>Q6) (n:=n) (c:=0) ow za (by lia) (by lia) hz2 (by lia) g1 g2 g3 (λj b h z=>h) hl hx ex hr h3 g;obtain⟨v',t',Z',G',e1,e2,e3,e4,e5,e6,e7,e8,e9⟩:=tn;refine⟨_,rfl,_,rfl,v',t',Z',G',e1,e2,e3,e4,e5,e6,e7,e8,λH4 a' as' k1 k2 k3 k4=>?_⟩;obtain⟨l,b,ys,zs,f1,f2,f3,f4,f5,f6⟩:=e9 H4 a' as' k1 k2 k3 k4;refine⟨l,b,ys,zs,f1,f2,f3,f4,f5,λp' hp'=>?_⟩;obtain⟨r',as2,z,y1,y2,y3,y4⟩:=f6 p' hp';cases z;exact⟨p',as2,_,rfl,y1,y2,y3,y4⟩
  rintro σ N ⟨r,as,o,rfl,ex,hr,h3,g⟩;refine⟨_,rfl,q N r as ex hr h3 ⟨?_,g.2.1,λb hb=>⟨(g.2.2 b hb).1.elim (λz=>z.elim) λ⟨j,_,z⟩=>g2 j b z,(g.2.2 b hb).2⟩⟩⟩;have:=g.1;rw[hl,N5] at this;show as.length<=M.nls D;lia
 |non=>exact⟨_,rfl,_,.non,rfl,r,_,rfl,km ⟨_,rfl,(by show 2<=sizeLine;decide),λm k=>⟨_,.non,m,rfl,.inl<|.inl af,r,_,rfl,km ⟨_,rfl,fin m _ k rfl⟩⟩⟩⟩
 |bl b=>exact⟨_,rfl,_,.bl b,rfl,r,_,rfl,km ⟨_,rfl,(by show 2<=sizeLine;decide),λm k=>⟨_,.bl b,m,rfl,.inl<|.inl af,r,_,rfl,km ⟨_,rfl,fin m _ k rfl⟩⟩⟩⟩
 |int b=>exact⟨_,rfl,_,.int b,rfl,r,_,rfl,km ⟨_,rfl,(by show 2<=sizeLine;decide),λm k=>⟨_,.int b,m,rfl,.inl<|.inl af,r,_,rfl,km ⟨_,rfl,fin m _ k rfl⟩⟩⟩⟩
 |str b=>exact⟨_,rfl,_,.str b,rfl,r.1,_,rfl,km ⟨_,rfl,(by show 2<=sizeLine;decide),λm k=>⟨_,.str b,m,rfl,.inl<|.inl af,r.1,_,rfl,km ⟨_,rfl,fin m _ k rfl⟩⟩⟩⟩
 |dct _ _=>exact QW y<|by show¬1000<1000;lia
 |ins _ _ _=>exact QW y<|by show¬1000<1000;lia
 |obj _ _ _=>exact QW y<|by show¬1000<1000;lia
 |dtt _ _=>exact QW y<|by show¬1000<1000;lia
 |scr _=>exact QW y<|by show¬1000<1000;lia
 |gone=>exact QW y<|by show¬1000<1000;lia
theorem nG (F:L2.Fun K "_law_lists" "_law_lists" sLs f fd)(c:Binds K fd ["thing"] [])(T:Txt mg)(d:mg "_law_lists"=Y (.ref f)):∀n,dJ P w K mg base CX0 n f fd ["thing"]<|qF K n
|0=>⟨λe H Q E h=>by obtain⟨_,_,_,_,_,_,_,_,hd,_⟩:=h;exact QW hd<|Qe _,λA a s H b g e Q E _ _ _ _ h=>by obtain⟨_,_,_,_,_,_,_,_,hd,_⟩:=h;exact QW hd<|Qe _⟩
|n+1=>Hu F (nG F c T d n) c T d
end
theorem Bb:∀(n:O) (t:M.T) (r:M.W×U M.W),Cl n nLs [(.d,t)]=.ok r->M.dp t<n/\M.dp t<1000/\M.szS t=K1/\M.nl t<M.LIM
|0,_,_,e=>by cases e
|_+1,_,_,e=>yI e
section
variable {P:QZ}{w:K6}{K:K3}{mg:Str->B L}{base:Q5}
theorem all (d364:Df K mg "kind_text" uB ["kind"])(d365:Df K mg "read_kind" vZ ["text"])(d366:Df K mg "take_kind" vY ["words","at"])(d367:Df K mg "take_kind_within" v9 ["words","at","depth"])(d175:Df K mg "parts_start" u9 ["sign"])(d176:Df K mg "parts" uf ["tree"])(d233:Df K mg "binding" t8 ["tree"])(d234:Df K mg "free_names" sQ ["tree"])(d235:Df K mg "add_free" tY ["tree","bound","found"])(d368:Df K mg "kinds_of" vO ["program"])(d369:Df K mg "add_kinds" vb ["tree","place","names","told"])(d370:Df K mg "with_bound" xo ["tree","place","names","ins"])(d371:Df K mg "bound_kind" wy ["sign","ins"])(d372:Df K mg "own_kind" su ["tree","names","ins"])(d373:Df K mg "fitted" uW ["before","kinds"])(d374:Df K mg "kind_by" uL ["after","found"])(d475:Df K mg "brought_names" wK ["tree","number"])(d476:Df K mg "laid" uJ ["program"])(d477:Df K mg "rows_of" v8 ["tree","place","kinds"])(d478:Df K mg "part_rows" xf ["tree","number","place","kinds"])(d479:Df K mg "own_row" xC ["tree","place","kinds"])(d480:Df K mg "inner" vB ["tree","number","place","kinds"])(d428:Df K mg "_law_draw" sA ["tape","many"])(d429:Df K mg "_law_kind" wG ["tape","left"])(d24:Df K mg "_law_alike" s24 ["due","found"])(d481:Df K mg "_law_arms" ve ["one","at"])(d482:Df K mg "_law_let" uF ["one","at"])(d483:Df K mg "_law_each" uQ ["one","at"])(d484:Df K mg "_law_times" wB ["one","at","number"])(d485:Df K mg "_law_like" vt ["one","at"])(d486:Df K mg "_law_lists" Ax ["thing"])(d487:Df K mg "_law_right" uv ["due","program"])(d488:Df K mg "_law_told" uu ["one","other","number","way","at"])  (T:Txt mg)(G:Glb K w mg):∀n,Calls P w K mg base n<|Cl n
|0=>
 have l:ae P w K mg base 0 (Cl 0) "kind_text" 364 []:=d364.z;have o:ae P w K mg base 0 (Cl 0) "read_kind" 365 []:=d365.z;have p:ae P w K mg base 0 (Cl 0) "take_kind" 366 []:=d366.z;have r:ae P w K mg base 0 (Cl 0) "take_kind_within" 367 []:=d367.z;have e:ae P w K mg base 0 (Cl 0) "parts_start" 175 []:=d175.z;have g:ae P w K mg base 0 (Cl 0) "parts" 176 []:=d176.z;have i:ae P w K mg base 0 (Cl 0) "binding" 233 []:=d233.z;have j:ae P w K mg base 0 (Cl 0) "free_names" 234 []:=d234.z;have k:ae P w K mg base 0 (Cl 0) "add_free" 235 [2]:=d235.z;have t:ae P w K mg base 0 (Cl 0) "kinds_of" 368 []:=d368.z;have u:ae P w K mg base 0 (Cl 0) "add_kinds" 369 [3]:=d369.z;have v:ae P w K mg base 0 (Cl 0) "with_bound" 370 [3]:=d370.z;have x:ae P w K mg base 0 (Cl 0) "bound_kind" 371 [1]:=d371.z;have y:ae P w K mg base 0 (Cl 0) "own_kind" 372 []:=d372.z;have D:ae P w K mg base 0 (Cl 0) "fitted" 373 []:=d373.z;have M:ae P w K mg base 0 (Cl 0) "kind_by" 374 []:=d374.z;have Z:ae P w K mg base 0 (Cl 0) "brought_names" 475 []:=d475.z;have c476:ae P w K mg base 0 (Cl 0) "laid" 476 []:=d476.z;have c477:ae P w K mg base 0 (Cl 0) "rows_of" 477 []:=d477.z;have c478:ae P w K mg base 0 (Cl 0) "part_rows" 478 []:=d478.z;have c479:ae P w K mg base 0 (Cl 0) "own_row" 479 []:=d479.z;have c480:ae P w K mg base 0 (Cl 0) "inner" 480 []:=d480.z;have N:ae P w K mg base 0 (Cl 0) "_law_draw" 428 [0]:=d428.z;have Q:ae P w K mg base 0 (Cl 0) "_law_kind" 429 [0]:=d429.z;have c24:ae P w K mg base 0 (Cl 0) "_law_alike" 24 []:=d24.z;have c481:ae P w K mg base 0 (Cl 0) "_law_arms" 481 []:=d481.z;have c482:ae P w K mg base 0 (Cl 0) "_law_let" 482 []:=d482.z;have c483:ae P w K mg base 0 (Cl 0) "_law_each" 483 []:=d483.z;have c484:ae P w K mg base 0 (Cl 0) "_law_times" 484 []:=d484.z;have c485:ae P w K mg base 0 (Cl 0) "_law_like" 485 []:=d485.z;have c486:yM P w K mg base 0 (Cl 0) "_law_lists" 486:=let ⟨_,_,F,b,m⟩:=d486.ex;⟨_,_,_,_,(nG F b T m 0),Bb 0,m,F.kp,b⟩;have c487:ae P w K mg base 0 (Cl 0) "_law_right" 487 []:=d487.z;have c488:ae P w K mg base 0 (Cl 0) "_law_told" 488 []:=d488.z
 ⟨l,o,p,r,e,g,i,j,k,t,u,v,x,y,D,M,Z,c476,c477,c478,c479,c480,N,Q,c24,c481,c482,c483,c484,c485,c486,c487,c488⟩
|n+1=>
 have c:=all d364 d365 d366 d367 d175 d176 d233 d234 d235 d368 d369 d370 d371 d372 d373 d374 d475 d476 d477 d478 d479 d480 d428 d429 d24 d481 d482 d483 d484 d485 d486 d487 d488  T G n;have l:ae P w K mg base (n+1) (Cl (n+1)) "kind_text" 364 []:=d364.s aX Ge (C:=Cl n) (by intro f d A a s H E h;exact@KI P w K mg base n (Cl n) f d A a s H E c T G h);have o:ae P w K mg base (n+1) (Cl (n+1)) "read_kind" 365 []:=d365.s b5 FU (C:=Cl n) (by intro f d A a s H E h;exact@J6 P w K mg base n (Cl n) f d A a s H E c T G h);have p:ae P w K mg base (n+1) (Cl (n+1)) "take_kind" 366 []:=d366.s b0 Jh (C:=Cl n) (by intro f d A a s H E h;exact@Kx P w K mg base n (Cl n) f d A a s H E c T G h);have r:ae P w K mg base (n+1) (Cl (n+1)) "take_kind_within" 367 []:=d367.s ay GF (C:=Cl n) (by intro f d A a s H E h;exact@Jq P w K mg base n (Cl n) f d A a s H E c T G h);have e:ae P w K mg base (n+1) (Cl (n+1)) "parts_start" 175 []:=d175.s a4 Iq (C:=Cl n) (by intro f d A a s H E h;exact@JX P w K mg base n (Cl n) f d A a s H E c T G h);have g:ae P w K mg base (n+1) (Cl (n+1)) "parts" 176 []:=d176.s eD Gr (C:=Cl n) (by intro f d A a s H E h;exact@Kk P w K mg base n (Cl n) f d A a s H E c T G h);have i:ae P w K mg base (n+1) (Cl (n+1)) "binding" 233 []:=d233.s dg HK (C:=Cl n) (by intro f d A a s H E h;exact@Kt P w K mg base n (Cl n) f d A a s H E c T G h);have j:ae P w K mg base (n+1) (Cl (n+1)) "free_names" 234 []:=d234.s dw FL (C:=Cl n) (by intro f d A a s H E h;exact@KL P w K mg base n (Cl n) f d A a s H E c T G h);have k:ae P w K mg base (n+1) (Cl (n+1)) "add_free" 235 [2]:=d235.s eR Jf (C:=Cl n) (by intro f d A a s H E h;exact@Kz P w K mg base n (Cl n) f d A a s H E c T G h);have t:ae P w K mg base (n+1) (Cl (n+1)) "kinds_of" 368 []:=d368.s f_kinds_of Gv (C:=Cl n) (by intro f d A a s H E h;exact@Kc P w K mg base n (Cl n) f d A a s H E c T G h);have u:ae P w K mg base (n+1) (Cl (n+1)) "add_kinds" 369 [3]:=d369.s f_add_kinds Hf (C:=Cl n) (by intro f d A a s H E h;exact@KD P w K mg base n (Cl n) f d A a s H E c T G h);have v:ae P w K mg base (n+1) (Cl (n+1)) "with_bound" 370 [3]:=d370.s bL HL (C:=Cl n) (by intro f d A a s H E h;exact@KU P w K mg base n (Cl n) f d A a s H E c T G h);have x:ae P w K mg base (n+1) (Cl (n+1)) "bound_kind" 371 [1]:=d371.s aY IQ (C:=Cl n) (by intro f d A a s H E h;exact@JJ P w K mg base n (Cl n) f d A a s H E c T G h);have y:ae P w K mg base (n+1) (Cl (n+1)) "own_kind" 372 []:=d372.s aV GS (C:=Cl n) (by intro f d A a s H E h;exact@JT P w K mg base n (Cl n) f d A a s H E c T G h);have D:ae P w K mg base (n+1) (Cl (n+1)) "fitted" 373 []:=d373.s dY Gy (C:=Cl n) (by intro f d A a s H E h;exact@Kr P w K mg base n (Cl n) f d A a s H E c T G h);have M:ae P w K mg base (n+1) (Cl (n+1)) "kind_by" 374 []:=d374.s dn HN (C:=Cl n) (by intro f d A a s H E h;exact@Ka P w K mg base n (Cl n) f d A a s H E c T G h);have Z:ae P w K mg base (n+1) (Cl (n+1)) "brought_names" 475 []:=d475.s b9 Ii (C:=Cl n) (by intro f d A a s H E h;exact@KC P w K mg base n (Cl n) f d A a s H E c T G h);have c476:ae P w K mg base (n+1) (Cl (n+1)) "laid" 476 []:=d476.s gK F9 (C:=Cl n) (by intro f d A a s H E h;exact@Jn P w K mg base n (Cl n) f d A a s H E c T G h);have c477:ae P w K mg base (n+1) (Cl (n+1)) "rows_of" 477 []:=d477.s aS GP (C:=Cl n) (by intro f d A a s H E h;exact@Km P w K mg base n (Cl n) f d A a s H E c T G h);have c478:ae P w K mg base (n+1) (Cl (n+1)) "part_rows" 478 []:=d478.s bY Gi (C:=Cl n) (by intro f d A a s H E h;exact@JV P w K mg base n (Cl n) f d A a s H E c T G h);have c479:ae P w K mg base (n+1) (Cl (n+1)) "own_row" 479 []:=d479.s bu Jb (C:=Cl n) (by intro f d A a s H E h;exact@KN P w K mg base n (Cl n) f d A a s H E c T G h);have c480:ae P w K mg base (n+1) (Cl (n+1)) "inner" 480 []:=d480.s fE Iu (C:=Cl n) (by intro f d A a s H E h;exact@JY P w K mg base n (Cl n) f d A a s H E c T G h);have N:ae P w K mg base (n+1) (Cl (n+1)) "_law_draw" 428 [0]:=d428.s bh Gj (C:=Cl n) (by intro f d A a s H E h;exact@JN P w K mg base n (Cl n) f d A a s H E c T G h);have Q:ae P w K mg base (n+1) (Cl (n+1)) "_law_kind" 429 [0]:=d429.s cB GH (C:=Cl n) (by intro f d A a s H E h;exact@Js P w K mg base n (Cl n) f d A a s H E c T G h);have c24:ae P w K mg base (n+1) (Cl (n+1)) "_law_alike" 24 []:=d24.s aC S24 (C:=Cl n) (by intro f d A a s H E h;exact@D24 P w K mg base n (Cl n) f d A a s H E c T G h);have c481:ae P w K mg base (n+1) (Cl (n+1)) "_law_arms" 481 []:=d481.s cI Iz (C:=Cl n) (by intro f d A a s H E h;exact@Kn P w K mg base n (Cl n) f d A a s H E c T G h);have c482:ae P w K mg base (n+1) (Cl (n+1)) "_law_let" 482 []:=d482.s da IG (C:=Cl n) (by intro f d A a s H E h;exact@KR P w K mg base n (Cl n) f d A a s H E c T G h);have c483:ae P w K mg base (n+1) (Cl (n+1)) "_law_each" 483 []:=d483.s cJ HI (C:=Cl n) (by intro f d A a s H E h;exact@J2 P w K mg base n (Cl n) f d A a s H E c T G h);have c484:ae P w K mg base (n+1) (Cl (n+1)) "_law_times" 484 []:=d484.s b6 IY (C:=Cl n) (by intro f d A a s H E h;exact@Jk P w K mg base n (Cl n) f d A a s H E c T G h);have c485:ae P w K mg base (n+1) (Cl (n+1)) "_law_like" 485 []:=d485.s cG FO (C:=Cl n) (by intro f d A a s H E h;exact@JS P w K mg base n (Cl n) f d A a s H E c T G h);have c486:yM P w K mg base (n+1) (Cl (n+1)) "_law_lists" 486:=let ⟨_,_,F,b,m⟩:=d486.ex;⟨_,_,_,_,(nG F b T m<|n+1),Bb<|n+1,m,F.kp,b⟩;have c487:ae P w K mg base (n+1) (Cl (n+1)) "_law_right" 487 []:=d487.s bX FI (C:=Cl n) (by intro f d A a s H E h;exact@KO P w K mg base n (Cl n) f d A a s H E c T G h);have c488:ae P w K mg base (n+1) (Cl (n+1)) "_law_told" 488 []:=d488.s aZ Ie (C:=Cl n)<|by intro f d A a s H E h;exact@Ke P w K mg base n (Cl n) f d A a s H E c T G h
 ⟨l,o,p,r,e,g,i,j,k,t,u,v,x,y,D,M,Z,c476,c477,c478,c479,c480,N,Q,c24,c481,c482,c483,c484,c485,c486,c487,c488⟩
end
theorem pure_law:∀a:U I,a.length<=63->∃m bs,Cl 40 0 [(.d,.scr a)]=.ok ((m,.bl K1),bs):=λa _=>P48.pure_law a
theorem all_mk {l:Pd}{w:K6}{K:K3}{h:Q5}{c:Str->B L}{fa:QS}(X:K.In h)(G:h.Ns Ll c)(hfa:c "law"=Y (.ref fa))(r364:Raw K "kind_text" uB .none)(r365:Raw K "read_kind" vZ .none)(r366:Raw K "take_kind" vY .none)(r367:Raw K "take_kind_within" v9 .none)(r175:Raw K "parts_start" u9 .none)(r176:Raw K "parts" uf .none)(r233:Raw K "binding" t8 .none)(r234:Raw K "free_names" sQ .none)(r235:Raw K "add_free" tY .none)(r368:Raw K "kinds_of" vO .none)(r369:Raw K "add_kinds" vb .none)(r370:Raw K "with_bound" xo .none)(r371:Raw K "bound_kind" wy .none)(r372:Raw K "own_kind" su .none)(r373:Raw K "fitted" uW .none)(r374:Raw K "kind_by" uL .none)(r475:Raw K "brought_names" wK .none)(r476:Raw K "laid" uJ .none)(r477:Raw K "rows_of" v8 .none)(r478:Raw K "part_rows" xf .none)(r479:Raw K "own_row" xC .none)(r480:Raw K "inner" vB .none)(r428:Raw K "_law_draw" sA .none)(r429:Raw K "_law_kind" wG .none)(r24:Raw K "_law_alike" s24 .none)(r481:Raw K "_law_arms" ve .none)(r482:Raw K "_law_let" uF .none)(r483:Raw K "_law_each" uQ .none)(r484:Raw K "_law_times" wB .none)(r485:Raw K "_law_like" vt .none)(r486:Raw K "_law_lists" Ax .none)(r487:Raw K "_law_right" uv .none)(r488:Raw K "_law_told" uu .none)(r0:Raw K "law" s0 .none)(g0:∃t,NX K Ll "DEEPEST"=Y (Y<|.int 5 t))(b:∃T,TabRaw K w "AHEAD_laid" T/\CstL K dX T)(a:∃T,TabRaw K w "AHEAD_trees" T/\T.map LO=keys_AHEAD_trees)(g:∃T,TabRaw K w "BINDING" T/\CstL K tab_BINDING T)(d:∃T,TabRaw K w "LEAVES" T/\T.map LO=keys_LEAVES/\CstL K tab_LEAVES T)(j:∃T,TabRaw K w "RULES" T/\CstL K tab_RULES T)(e:∃T,TabRaw K w "WITHIN" T/\T.map LO=keys_WITHIN/\CstL K tab_WITHIN T)(tx:CV K ["isinstance","int","tuple","list","bool","sum","len","all","zip","range","enumerate","any","max","min","sorted","str","repr","abs","dict","set","reversed"]):
  ∃fd:LZ,(∀(s:K2) (v:L),MX s fd ⟨[v],[]⟩ [("script",v)])/\∀u:Q5,K.In u->u.Ns Ll c->dJ l.prog w K c u CX0 40 fa fd ["script"] (spS K (Cl 40) 0 []):=by
 have N:Df K c "kind_text" uB ["kind"]:=aM X G r364 λ_ _ _ _ _ _=>u1 λ_=>rfl;have P:Df K c "read_kind" vZ ["text"]:=aM X G r365 λ_ _ _ _ _ _=>u1 λ_=>rfl;have Q:Df K c "take_kind" vY ["words","at"]:=aM X G r366 λ_ _ _ _ _ _=>u2 λ_ _=>rfl;have Z:Df K c "take_kind_within" v9 ["words","at","depth"]:=aM X G r367 λ_ _ _ _ _ _=>u3 λ_ _ _=>rfl;have y:Df K c "parts_start" u9 ["sign"]:=aM X G r175 λ_ _ _ _ _ _=>u1 λ_=>rfl;have A:Df K c "parts" uf ["tree"]:=aM X G r176 λ_ _ _ _ _ _=>u1 λ_=>rfl;have D:Df K c "binding" t8 ["tree"]:=aM X G r233 λ_ _ _ _ _ _=>u1 λ_=>rfl;have H:Df K c "free_names" sQ ["tree"]:=aM X G r234 λ_ _ _ _ _ _=>u1 λ_=>rfl;have M:Df K c "add_free" tY ["tree","bound","found"]:=aM X G r235 λ_ _ _ _ _ _=>u3 λ_ _ _=>rfl;have d368:Df K c "kinds_of" vO ["program"]:=aM X G r368 λ_ _ _ _ _ _=>u1 λ_=>rfl;have d369:Df K c "add_kinds" vb ["tree","place","names","told"]:=aM X G r369 λ_ _ _ _ _ _=>u4 λ_ _ _ _=>rfl;have d370:Df K c "with_bound" xo ["tree","place","names","ins"]:=aM X G r370 λ_ _ _ _ _ _=>u4 λ_ _ _ _=>rfl;have d371:Df K c "bound_kind" wy ["sign","ins"]:=aM X G r371 λ_ _ _ _ _ _=>u2 λ_ _=>rfl;have d372:Df K c "own_kind" su ["tree","names","ins"]:=aM X G r372 λ_ _ _ _ _ _=>u3 λ_ _ _=>rfl;have d373:Df K c "fitted" uW ["before","kinds"]:=aM X G r373 λ_ _ _ _ _ _=>u2 λ_ _=>rfl;have d374:Df K c "kind_by" uL ["after","found"]:=aM X G r374 λ_ _ _ _ _ _=>u2 λ_ _=>rfl;have d475:Df K c "brought_names" wK ["tree","number"]:=aM X G r475 λ_ _ _ _ _ _=>u2 λ_ _=>rfl;have d476:Df K c "laid" uJ ["program"]:=aM X G r476 λ_ _ _ _ _ _=>u1 λ_=>rfl;have d477:Df K c "rows_of" v8 ["tree","place","kinds"]:=aM X G r477 λ_ _ _ _ _ _=>u3 λ_ _ _=>rfl;have d478:Df K c "part_rows" xf ["tree","number","place","kinds"]:=aM X G r478 λ_ _ _ _ _ _=>u4 λ_ _ _ _=>rfl;have d479:Df K c "own_row" xC ["tree","place","kinds"]:=aM X G r479 λ_ _ _ _ _ _=>u3 λ_ _ _=>rfl;have d480:Df K c "inner" vB ["tree","number","place","kinds"]:=aM X G r480 λ_ _ _ _ _ _=>u4 λ_ _ _ _=>rfl;have d428:Df K c "_law_draw" sA ["tape","many"]:=aM X G r428 λ_ _ _ _ _ _=>u2 λ_ _=>rfl;have d429:Df K c "_law_kind" wG ["tape","left"]:=aM X G r429 λ_ _ _ _ _ _=>u2 λ_ _=>rfl;have d24:Df K c "_law_alike" s24 ["due","found"]:=aM X G r24 λ_ _ _ _ _ _=>u2 λ_ _=>rfl;have d481:Df K c "_law_arms" ve ["one","at"]:=aM X G r481 λ_ _ _ _ _ _=>u2 λ_ _=>rfl;have d482:Df K c "_law_let" uF ["one","at"]:=aM X G r482 λ_ _ _ _ _ _=>u2 λ_ _=>rfl;have d483:Df K c "_law_each" uQ ["one","at"]:=aM X G r483 λ_ _ _ _ _ _=>u2 λ_ _=>rfl;have d484:Df K c "_law_times" wB ["one","at","number"]:=aM X G r484 λ_ _ _ _ _ _=>u3 λ_ _ _=>rfl;have d485:Df K c "_law_like" vt ["one","at"]:=aM X G r485 λ_ _ _ _ _ _=>u2 λ_ _=>rfl;have d486:Df K c "_law_lists" Ax ["thing"]:=aM X G r486 λ_ _ _ _ _ _=>u1 λ_=>rfl;have d487:Df K c "_law_right" uv ["due","program"]:=aM X G r487 λ_ _ _ _ _ _=>u2 λ_ _=>rfl;have d488:Df K c "_law_told" uu ["one","other","number","way","at"]:=aM X G r488 λ_ _ _ _ _ _=>u5 λ_ _ _ _ _=>rfl;have T:=D4 X G tx;obtain⟨_,b,k⟩:=b;obtain⟨_,a,i⟩:=a;obtain⟨_,g,m⟩:=g;obtain⟨_,d,p,n⟩:=d;obtain⟨_,j,x⟩:=j;obtain⟨_,e,r,o⟩:=e;have Gm:Glb K w c:=⟨(let ⟨t,z⟩:=g0;⟨t,Ox X G z⟩),(fq X G b k),(kE X G a i),(fq X G g m),(kE X G d p),(fq X G d n),(fq X G j x),(kE X G e r),(fq X G e o)⟩;exact yt X G hfa r0 (λ_ _ _ _ _ _ _ _=>.of_eq rfl) λf fd F u=>Fun.okM F S0 rfl (by decide) (by decide) (by decide) (λ_ _ _ _ _ _ h=>D0 (all N P Q Z y A D H M d368 d369 d370 d371 d372 d373 d374 d475 d476 d477 d478 d479 d480 d428 d429 d24 d481 d482 d483 d484 d485 d486 d487 d488  T Gm 39) T Gm h) λ_=>rfl
end A48

set_option maxHeartbeats 0
namespace H48
open PySem PySem.W TP
noncomputable abbrev pr:QZ:=PySem.Challenge.pw_broadrow_k48_rows_of_lets_and_of_what_ho
def tn (i:O):Rf:=pr.main.body.getD i<|.Pass p0
def rc:U Rc:=[.m,
.x "BroadError" 206 (.ref 24) (λP=>[tu [.type "ValueError"],⟨.type "builtin_function_or_method",J,.fields #[.builtin "type.__prepare__",.type "type"],#[]⟩,di [en P "__module__" 196<|.str "broadrow.errors" 187,en P "__qualname__" 198<|.str "BroadError" 197,en P "__firstlineno__" 200<|.int (2) 199,en P "__static_attributes__" 201<|.ref 22] 4,tu [],fe [],cdo "BroadError" "BroadError" 191 194 2 0 0 18 K0 .none .none .none,⟨.type "frame",J,.plain,#[Y<|.ref 20,Y<|.ref 3,Y<|.ref 17,J,Y<|.str "broadrow.errors" 187,J,Y<|.ref 0]⟩,tu [],di [en P "__module__" 196<|.str "broadrow.errors" 187,en P "__firstlineno__" 200<|.int (2) 199,en P "__static_attributes__" 201<|.ref 22,en P "__weakref__" 203<|.ref 25,en P "__doc__" 204 .none] 3,⟨.type "type",J,.cls {name:="BroadError",bases:=[.type "ValueError"],mro:=[.ref 24,.type "ValueError",.type "Exception",.type "BaseException",.type "object"],ns:=23,qualname:="BroadError",subclasses:=[.ref 44,.ref 63]},#[Y<|.ref 15,J,Y<|.str "BroadError" 189,Y<|.str "BroadError" 197,Y<|.builtin "ValueError.__new__",Y<|.bool K1]⟩,⟨.type "getset_descriptor",J,.fields #[.str "__weakref__" 202,.ref 24,.builtin "ExceptionGroup.__weakref__",.none],#[]⟩,⟨.type "super",J,.fields #[.ref 24,.ref 24,.ref 24],#[]⟩,⟨.type "builtin_function_or_method",J,.fields #[.builtin "object.__init_subclass__",.ref 24],#[]⟩]) [iv 2,iv 0,.ref 20] 28 207,
.x "NoText" 231 (.ref 44) (λP=>[tu [.ref 24],⟨.type "builtin_function_or_method",J,.fields #[.builtin "type.__prepare__",.type "type"],#[]⟩,di [en P "__module__" 214<|.str "broadrow.errors" 187,en P "__qualname__" 216<|.str "NoText" 215,en P "__firstlineno__" 218<|.int (4) 217,en P "__init__" 226<|.ref 41,en P "__static_attributes__" 228<|.ref 42] 5,tu [],fe [iv 6,iv 4,.ref 40],cdo "NoText" "NoText" 209 212 4 0 0 31 K0 .none .none .none,⟨.type "frame",J,.plain,#[Y<|.ref 33,Y<|.ref 3,Y<|.ref 30,J,Y<|.str "broadrow.errors" 187,J,Y<|.ref 0]⟩,tu [],fe [],tu [.str "self" 222,.str "at" 223],tu [],ofn .none (cb (tn 2) 0) "NoText.__init__" 0 .none .none .none,cdo "__init__" "NoText.__init__" 219 224 6 2 3 35 K1 (.ref 37) (.ref 38)<|.ref 39,ofn (.type "function") (cb (tn 2) 0) "NoText.__init__" 3 .none (.str "broadrow.errors" 187)<|.ref 40,tu [.str "at" 227],di [en P "__module__" 214<|.str "broadrow.errors" 187,en P "__firstlineno__" 218<|.int (4) 217,en P "__init__" 226<|.ref 41,en P "__static_attributes__" 228<|.ref 42,en P "__doc__" 229 .none] 2,⟨.type "type",J,.cls {name:="NoText",bases:=[.ref 24],mro:=[.ref 44,.ref 24,.type "ValueError",.type "Exception",.type "BaseException",.type "object"],ns:=43,qualname:="NoText"},#[Y<|.ref 28,J,Y<|.str "NoText" 207,Y<|.str "NoText" 215,Y<|.builtin "ValueError.__new__",Y<|.bool K1]⟩,⟨.type "super",J,.fields #[.ref 44,.ref 44,.ref 44],#[]⟩,⟨.type "builtin_function_or_method",J,.fields #[.builtin "object.__init_subclass__",.ref 44],#[]⟩]) [iv 4,iv 0,.ref 33] 47 232,
.x "NoKind" 256 (.ref 63) (λP=>[tu [.ref 24],⟨.type "builtin_function_or_method",J,.fields #[.builtin "type.__prepare__",.type "type"],#[]⟩,di [en P "__module__" 239<|.str "broadrow.errors" 187,en P "__qualname__" 241<|.str "NoKind" 240,en P "__firstlineno__" 243<|.int (9) 242,en P "__init__" 251<|.ref 60,en P "__static_attributes__" 253<|.ref 61] 5,tu [],fe [iv 11,iv 4,.ref 59],cdo "NoKind" "NoKind" 234 237 9 0 0 50 K0 .none .none .none,⟨.type "frame",J,.plain,#[Y<|.ref 52,Y<|.ref 3,Y<|.ref 49,J,Y<|.str "broadrow.errors" 187,J,Y<|.ref 0]⟩,tu [],fe [],tu [.str "self" 247,.str "place" 248],tu [],ofn .none (cb (tn 3) 0) "NoKind.__init__" 0 .none .none .none,cdo "__init__" "NoKind.__init__" 244 249 11 2 3 54 K1 (.ref 56) (.ref 57)<|.ref 58,ofn (.type "function") (cb (tn 3) 0) "NoKind.__init__" 3 .none (.str "broadrow.errors" 187)<|.ref 59,tu [.str "place" 252],di [en P "__module__" 239<|.str "broadrow.errors" 187,en P "__firstlineno__" 243<|.int (9) 242,en P "__init__" 251<|.ref 60,en P "__static_attributes__" 253<|.ref 61,en P "__doc__" 254 .none] 2,⟨.type "type",J,.cls {name:="NoKind",bases:=[.ref 24],mro:=[.ref 63,.ref 24,.type "ValueError",.type "Exception",.type "BaseException",.type "object"],ns:=62,qualname:="NoKind"},#[Y<|.ref 47,J,Y<|.str "NoKind" 232,Y<|.str "NoKind" 240,Y<|.builtin "ValueError.__new__",Y<|.bool K1]⟩,⟨.type "super",J,.fields #[.ref 63,.ref 63,.ref 63],#[]⟩,⟨.type "builtin_function_or_method",J,.fields #[.builtin "object.__init_subclass__",.ref 63],#[]⟩]) [iv 9,iv 0,.ref 52] 66 257,
.m,
.c,
.x "WITHIN" 273 (.ref 66) (λP=>[di [en P "num" 261<|.int (0) 262,en P "truth" 263<|.int (0) 264,en P "pair" 265<|.int (2) 266,en P "row" 267<|.int (1) 268] 4]) [] 67 274,
.d,
.d,
.d,
.d,
.m,
.x "AHEAD_trees" 331 (.ref 93) (λP=>[di [en P "num" 313<|.str "number" 314,en P "name" 315<|.str "name" 316,en P "none" 317<|.str "kind" 318,en P "let" 319<|.str "name" 320,en P "each" 321<|.str "name" 322,en P "times" 323<|.str "name" 324] 6]) [] 94 332,
.x "BINDING" 341 (.ref 94) (λP=>[di [en P "let" 332<|.int (1) 333,en P "each" 334<|.int (1) 335,en P "times" 336<|.int (2) 337] 3]) [] 95 342,
.d,
.d,
.d,
.d,
.d,
.m,
.x "LEAVES" 394 (.ref 130) (λP=>[di [en P "num" 385<|.ref 131,en P "yes" 387<|.ref 132,en P "no" 389<|.ref 133] 3,tu [.str "num" 386],tu [.str "truth" 388],tu [.str "truth" 390]]) [] 134 395,
.x "RULES" 505 (.ref 134) (λP=>[di [en P "not" 395<|.ref 136,en P "first" 399<|.ref 138,en P "second" 403<|.ref 140,en P "one" 407<|.ref 142,en P "upto" 411<|.ref 144,en P "long" 415<|.ref 146,en P "sum" 419<|.ref 148,en P "sums" 423<|.ref 150,en P "most" 427<|.ref 152,en P "flat" 431<|.ref 154,en P "add" 435<|.ref 156,en P "sub" 439<|.ref 158,en P "mul" 443<|.ref 160,en P "div" 447<|.ref 162,en P "rest" 451<|.ref 164,en P "less" 455<|.ref 166,en P "same" 459<|.ref 169,en P "both" 465<|.ref 172,en P "pair" 468<|.ref 174,en P "pick" 471<|.ref 176,en P "join" 474<|.ref 178,en P "keep" 477<|.ref 180,en P "cut" 480<|.ref 182,en P "let" 483<|.ref 184,en P "if" 486<|.ref 186,en P "each" 489<|.ref 188,en P "times" 492<|.ref 190] 27,tu [.str "truth" 396,.str "truth" 397],tu [.ref 135],tu [.str "pair K L" 400,.str "K" 401],tu [.ref 137],tu [.str "pair K L" 404,.str "L" 405],tu [.ref 139],tu [.str "K" 408,.str "row K" 409],tu [.ref 141],tu [.str "num" 412,.str "row num" 413],tu [.ref 143],tu [.str "row K" 416,.str "num" 417],tu [.ref 145],tu [.str "row num" 420,.str "num" 421],tu [.ref 147],tu [.str "row num" 424,.str "row num" 425],tu [.ref 149],tu [.str "row num" 428,.str "num" 429],tu [.ref 151],tu [.str "row row K" 432,.str "row K" 433],tu [.ref 153],tu [.str "num num" 436,.str "num" 437],tu [.ref 155],tu [.str "num num" 440,.str "num" 441],tu [.ref 157],tu [.str "num num" 444,.str "num" 445],tu [.ref 159],tu [.str "num num" 448,.str "num" 449],tu [.ref 161],tu [.str "num num" 452,.str "num" 453],tu [.ref 163],tu [.str "num num" 456,.str "truth" 457],tu [.ref 165],tu [.str "num num" 460,.str "truth" 461],tu [.str "truth truth" 462,.str "truth" 463],tu [.ref 167,.ref 168],di [en P "both" 465<|.ref 172,en P "pair" 468<|.ref 174,en P "pick" 471<|.ref 176,en P "join" 474<|.ref 178,en P "keep" 477<|.ref 180,en P "cut" 480<|.ref 182,en P "let" 483<|.ref 184,en P "if" 486<|.ref 186,en P "each" 489<|.ref 188,en P "times" 492<|.ref 190] 10,tu [.str "truth truth" 466,.str "truth" 467],tu [.ref 171],tu [.str "K L" 469,.str "pair K L" 470],tu [.ref 173],tu [.str "row K num" 472,.str "K" 473],tu [.ref 175],tu [.str "row K row K" 475,.str "row K" 476],tu [.ref 177],tu [.str "row K row truth" 478,.str "row K" 479],tu [.ref 179],tu [.str "row K row num" 481,.str "row row K" 482],tu [.ref 181],tu [.str "K L" 484,.str "L" 485],tu [.ref 183],tu [.str "truth K K" 487,.str "K" 488],tu [.ref 185],tu [.str "row K L" 490,.str "row L" 491],tu [.ref 187],tu [.str "num K K" 493,.str "K" 494],tu [.ref 189]]) [] 191 506,
.d,
.d,
.d,
.d,
.d,
.d,
.d,
.m,
.d,
.m,
.x "AHEAD_laid" 601 (.ref 243) (λP=>[di [en P "if" 592<|.int (1) 593,en P "each" 594<|.int (1) 595,en P "times" 596<|.int (2) 597] 3]) [] 244 602,
.d,
.d,
.d,
.d,
.d,
.m,
.d,
.d,
.d,
.d,
.d,
.d,
.d,
.d,
.d,
.d,
.d,
.d]
theorem c0 (w:K6):Cut pr rc 0 15 187 p0 1 10 15 189 ⟨1,0,1,8⟩ w:=λo=>by kernel_rfl
theorem c1 (w:K6):Cut pr rc 1 15 189 ⟨1,0,1,8⟩ 3 677 66 257 ⟨9,0,13,26⟩ w:=λo=>by kernel_rfl
theorem c4 (w:K6):Cut pr rc 4 66 257 ⟨9,0,13,26⟩ 2 19 66 261 ⟨15,0,15,7⟩ w:=λo=>by kernel_rfl
theorem c6 (w:K6):Cut pr rc 6 66 261 ⟨15,0,15,7⟩ 1 71 67 274 ⟨16,0,16,6⟩ w:=RZ (P:=Cut pr rc 6 66 261 ⟨15,0,15,7⟩ 1 71 67 274 ⟨16,0,16,6⟩) "special-get-raises" (λw o=>by kernel_rfl) (λw o=>by kernel_rfl) w
theorem c7 (w:K6):Cut pr rc 7 67 274 ⟨16,0,16,6⟩ 5 133 93 313 ⟨40,0,40,8⟩ w:=λo=>by kernel_rfl
theorem c12 (w:K6):Cut pr rc 12 93 313 ⟨40,0,40,8⟩ 1 101 94 332 ⟨41,0,41,11⟩ w:=RZ (P:=Cut pr rc 12 93 313 ⟨40,0,40,8⟩ 1 101 94 332 ⟨41,0,41,11⟩) "special-get-raises" (λw o=>by kernel_rfl) (λw o=>by kernel_rfl) w
theorem c13 (w:K6):Cut pr rc 13 94 332 ⟨41,0,41,11⟩ 1 56 95 342 ⟨42,0,42,7⟩ w:=RZ (P:=Cut pr rc 13 94 332 ⟨41,0,41,11⟩ 1 56 95 342 ⟨42,0,42,7⟩) "special-get-raises" (λw o=>by kernel_rfl) (λw o=>by kernel_rfl) w
theorem c14 (w:K6):Cut pr rc 14 95 342 ⟨42,0,42,7⟩ 6 161 130 385 ⟨59,0,59,8⟩ w:=λo=>by kernel_rfl
theorem c20 (w:K6):Cut pr rc 20 130 385 ⟨59,0,59,8⟩ 1 62 134 395 ⟨60,0,60,6⟩ w:=RZ (P:=Cut pr rc 20 130 385 ⟨59,0,59,8⟩ 1 62 134 395 ⟨60,0,60,6⟩) "special-get-raises" (λw o=>by kernel_rfl) (λw o=>by kernel_rfl) w
theorem c21 (w:K6):Cut pr rc 21 134 395 ⟨60,0,60,6⟩ 1 622 191 506 ⟨61,0,61,5⟩ w:=RZ (P:=Cut pr rc 21 134 395 ⟨60,0,60,6⟩ 1 622 191 506 ⟨61,0,61,5⟩) "special-get-raises" (λw o=>by kernel_rfl) (λw o=>by kernel_rfl) w
theorem c22 (w:K6):Cut pr rc 22 191 506 ⟨61,0,61,5⟩ 10 273 243 592 ⟨130,0,130,8⟩ w:=λo=>by kernel_rfl
theorem c32 (w:K6):Cut pr rc 32 243 592 ⟨130,0,130,8⟩ 1 56 244 602 ⟨131,0,131,10⟩ w:=RZ (P:=Cut pr rc 32 243 592 ⟨130,0,130,8⟩ 1 56 244 602 ⟨131,0,131,10⟩) "special-get-raises" (λw o=>by kernel_rfl) (λw o=>by kernel_rfl) w
theorem c33 (w:K6):Cut pr rc 33 244 602 ⟨131,0,131,10⟩ 18 554 357 780 ⟨275,0,300,15⟩ w:=λo=>by kernel_rfl
theorem ch:Ch pr rc 51 357 780 0 15 187 p0 (10+(677+(19+(71+(133+(101+(56+(161+(62+(622+(273+(56+(554+(2)))))))))))))):=bo c0<|bo c1<|bo c4<|bo c6<|bo c7<|bo c12<|bo c13<|bo c14<|bo c20<|bo c21<|bo c22<|bo c32<|bo c33<|Fq<|by kernel_rfl
def q:QZ:=view pr [50]
noncomputable def lo:U Str:=(["BroadError","NoText","NoKind","DEEPEST","WITHIN","kind_text","read_kind","take_kind","take_kind_within","AHEAD_trees","BINDING","parts_start","parts","binding","free_names","add_free","LEAVES","RULES","kinds_of","add_kinds","with_bound","bound_kind","own_kind","fitted","kind_by","brought_names","AHEAD_laid","laid","rows_of","part_rows","own_row","inner","_law_draw","_law_kind","_law_alike","_law_arms","_law_let","_law_each","_law_times","_law_like","_law_lists","_law_right","_law_told"]:U Q4).map Str.ofString
noncomputable def as:U QS:=[3,24,44,63,66,70,71,77,78,84,85,91,92,93,94,100,101,107,108,114,115,121,122,128,129,130,131,132,133,134,135,136,137,138,139,140,141,142,143,144,145,146,147,148,149,150,151,152,153,154,155,156,157,158,159,160,161,162,163,164,165,166,167,168,169,171,172,173,174,175,176,177,178,179,180,181,182,183,184,185,186,187,188,189,190,196,197,203,204,210,211,217,218,224,225,231,232,236,237,241,242,243,249,250,256,257,263,264,268,269,275,276,282,283,289,290,294,295,301,302,308,309,315,316,322,323,329,330,336,337,341,342,348,349,355,356]
def K:LC->Frag:=kK pr rc 51 as
def hk:Hook:=hkk pr rc 51 357
abbrev Xt (s:K2):QT:=xlAt q [] s&&recOk (RowW.records<|OpenRow.toRowW<|OpenLaw.row PySem.Challenge.rw_broadrow_k48_rows_of_lets_and_of_what_ho) s
theorem kin (w:K6)(h:Q5)(a:hk.says w h):(K w.params).In h:=J1 (by kernel_rfl) (by kernel_rfl) a
theorem lk (w:K6):(λo=>((staticsOk (Oe pr.main.body) (Mc w.params) (hp pr rc 51 357 w.params)&&namesBound pr (hp pr rc 51 357 w.params)&&gensDone ⟨hp pr rc 51 357 w.params,#[],{},780,o⟩&&laidKept (Mc w.params) (hp pr rc 51 357 w.params)),openSeen q lo (Oe pr.main.body) Xt K1 ⟨hp pr rc 51 357 w.params,#[],{},780,o⟩,Hook.obs hk ⟨hp pr rc 51 357 w.params,#[],{},780,o⟩))=λ_=>(K1,openGood q lo,Hook.val hk w):=by kernel_rfl
theorem e1:opening pr=plainProg pr.main.scope.names:=by kernel_rfl
theorem e2:NS pr=pr.main.body:=by kernel_rfl
theorem e3 (s:K2):fenceModules? pr s=Y s:=by kernel_rfl
theorem pre (w:K6)(o:RP):topGo MZ pr w 11 an 12 ⟨Mc w.params,Oj [],boot_drawn,boot_toks,o⟩ (topStub pr)=Y ((sT pr rc w.params 0 15 187 o).abs,⟨denote MZ<|cE pr,cE pr,p0,B0⟩):=by kernel_rfl
theorem blk (w:K6)(o:RP):segRun MZ pr w 11 an 1 1 (sT pr rc w.params 0 15 187 o).abs (blockOf (NS pr) (ev pr) (cE pr) p0 B0)=Y (.next,(sT pr rc w.params 0 15 187 o).abs,cE pr,p0):=by kernel_rfl
theorem left:LeftO pr q lo Xt (Hook.obs hk) (Hook.val hk) 5690:=zd e1 (by kernel_rfl) e3 e2 zC pre blk ch (by kernel_rfl) lk
end H48

set_option maxHeartbeats 4000000
open PySem PySem.W PyProof.Rows
set_option maxRecDepth 100000 in
set_option maxHeartbeats 0 in
theorem PySem.Challenge.cw_broadrow_k48_rows_of_lets_and_of_what_ho_holds : PySem.Challenge.rw_broadrow_k48_rows_of_lets_and_of_what_ho.Holds := by
 w_on; refine holds_law (by kernel_rfl) fun said=>?_
 refine holds_open (q:=H48.q) (loose:=H48.lo) (Xt:=H48.Xt) (XP:=XL H48.q []) (Yf:=Hook.obs H48.hk) (Ya:=Hook.val H48.hk) (YP:=Hook.says H48.hk) (N:=5690) (d:=TP.drec (H48.tn 50)) (kwd:=[]) H48.left (Hook.of H48.hk) (Hook.keeps H48.hk) (fun s e=>xl_of s (LB.mp e).1) XL.keeps (by kernel_rfl) (by kernel_rfl) (by kernel_rfl) (fun s e=>recFacts_of (LB.mp e).2) (by rfl) (by first | assumption | decide +kernel) (by decide +kernel) ⟨rfl,rfl,rfl,rfl,rfl,by decide +kernel⟩ ?hw ?hc
 case hw=>w_witness2
 refine MR.walkX (sx:="script") (l:=PySem.Challenge.rw_broadrow_k48_rows_of_lets_and_of_what_ho) (k:=40) (C:=A48.Cl 40) (ix:=0) (K:=H48.K) A48.pure_law rfl (by kernel_rfl) ⟨rfl,by decide,by decide,rfl⟩ H48.kin ?F
 case F =>
  intro w mg fa h KX G hmg
  refine' A48.all_mk KX G hmg ?zr364 ?zr365 ?zr366 ?zr367 ?zr175 ?zr176 ?zr233 ?zr234 ?zr235 ?zr368 ?zr369 ?zr370 ?zr371 ?zr372 ?zr373 ?zr374 ?zr475 ?zr476 ?zr477 ?zr478 ?zr479 ?zr480 ?zr428 ?zr429 ?zr24 ?zr481 ?zr482 ?zr483 ?zr484 ?zr485 ?zr486 ?zr487 ?zr488 ?zr0 ?zg0 ?zq_AHEAD_laid ?zq_AHEAD_trees ?zq_BINDING ?zq_LEAVES ?zq_RULES ?zq_WITHIN ?ztx
  case zg0=>exact ⟨TP.tkO (nsIn (H48.K w.params) mainGlobals "DEEPEST"),by kernel_rfl⟩
  case zq_AHEAD_laid=>exact ⟨_,TP.tab_mk (by kernel_rfl) (by kernel_rfl) (by kernel_rfl) (by kernel_rfl),TP.cst_of (n:=9) (by kernel_rfl)⟩
  case zq_AHEAD_trees=>exact ⟨_,TP.tab_mk (by kernel_rfl) (by kernel_rfl) (by kernel_rfl) (by kernel_rfl),by kernel_rfl⟩
  case zq_BINDING=>exact ⟨_,TP.tab_mk (by kernel_rfl) (by kernel_rfl) (by kernel_rfl) (by kernel_rfl),TP.cst_of (n:=9) (by kernel_rfl)⟩
  case zq_LEAVES=>exact ⟨_,TP.tab_mk (by kernel_rfl) (by kernel_rfl) (by kernel_rfl) (by kernel_rfl),by kernel_rfl,TP.cst_of (n:=9) (by kernel_rfl)⟩
  case zq_RULES=>exact ⟨_,TP.tab_mk (by kernel_rfl) (by kernel_rfl) (by kernel_rfl) (by kernel_rfl),TP.cst_of (n:=9) (by kernel_rfl)⟩
  case zq_WITHIN=>exact ⟨_,TP.tab_mk (by kernel_rfl) (by kernel_rfl) (by kernel_rfl) (by kernel_rfl),by kernel_rfl,TP.cst_of (n:=9) (by kernel_rfl)⟩
  case ztx=>refine' ⟨?_,?_,?_,?_,?_,?_,?_,?_,?_,?_,?_,?_,?_,?_,?_,?_,?_,?_,?_,?_,?_,trivial⟩<;>kernel_rfl
  all_goals exact TP.raw_mk (by kernel_rfl) (by kernel_rfl) (by kernel_rfl) (by kernel_rfl)
