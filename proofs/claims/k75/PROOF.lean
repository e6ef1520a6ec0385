import PyProof.Rows.All
import Wide.All
import OpenK.AllK
import Wide.FinOn
import Lean
import PyProof.EqAt
import PyProof.EqKinds
import PyProof.TupleCall
import PyProof.ExcInit
import PyProof.ExcClass3
import PyProof.ExcBaseAll.ValueError
import PyProof.StationsW
import PyProof.FString
import PyProof.Rows.FStr
import PyProof.NsDelKeeps
import PyProof.RulesAs
import PyProof.ExcArgs
import PySem.Str
import PySem.Builtin.Str.Common
import PyProof.ReprReads
import PyProof.Rows.Range3
import PyProof.P3Eq
import PyProof.Rows.RegSetRoads
import PyProof.CollectWalk
import PySem.Challenge.RW_broadrow_k75_timetables_looked_at
noncomputable section
open _root_ renaming List → U, Nat → Y, Option → j
open Option renaming some → O, none → J
open PySem renaming Value → B
open _root_ renaming decide_eq_true → QE, if_pos → QG, if_neg → QH, Bool → QJ, absurd → QL, decide_eq_true_eq → QM, decide_eq_false → QP, of_decide_eq_true → QR, Array → QT, congrArg → QW, False → QX, String → QZ, decide_false → Q1, or_false → Q3, beq_self_eq_true → Q4, Inhabited → Q6, DecidableEq → Q7, bne_self_eq_false → Q8, True → Ra, if_true → RD
open PySem renaming Addr → QF, wpAny → QK, Program → QN, Expr → QQ, Heap → QS, eval → QY, Stmt → Q0, Scope → Q2, scanBound → Q9, wpAny_pyNext_list_item → Rb, wpAny_pyNext_list_end → Rg, wants → Rh, DictEntry → Ri, valueAt → Rj, swapsWithSole → Rl, swappedStores → Rn, comprehension → Rp, Result → Rq, wpAny_call → Rr, call_meets → Rt, setsByText → Ru, GenState → Rv, cLine → Rw, seqIndex_neg → Rx, OsState → Ry, setNext → RA, atKey → RC, ElemsOf → RF, isTrue → RH, pyIter → RI, bindL → RJ, bindC → RK
open PyProof.Rows renaming IntsAre → Q5, subscriptTail_builtinR → Rf, subscriptTail → Ro, IsTup → RG
open PySem.W renaming kas_sort → RB
open Option renaming some → JW, none → JX
open Bool renaming false → JY, true → JZ
open PySem renaming wpAny_bind → J1, Shared → J0, wpAny_pure → J7, starEach → J5, model → J4, World → J8, mainGlobals → KC, wpAny_mono → KG, Around → Kq, foldedSetIterable → K7, rawInt → Kr, wpAny_holding → K2, backTo → Kw, wpAny_newObj_type → Ly, wpAny_call_entry → L4, codeAny → KZ, binaryOp → K6, closureFor → Lk, SetTable → K5, compareOp → Lh, swapsWith → Lg, wpAny_callSpecial?_slot → MT, FuncData → Lb, sizeLine_eq → LA, wpAny_Call_Name_kw → MB, Params → K0, wpAny_passesOwn → Mg, Builtin → K9, wpAny_setState_of → MA, sysModules → Lz, bootBuiltins → L6, wpAny_askSetting → Mz, letOwnedTupleGo → My, codeAny_builtin → Mx, wpAny_pyIter_list → MX, wpAny_truthy_bool → MW, builtinLookup_eq_fast → Nq, wpAny_setField → Mw, pickOrder → LM, sliceBounds → Mf, wpAny_of_eq → Me, wpAny_ite_false → MU, assign → Ln, wpAny_typeOf → Mv, treeTable → L5, assignEach → Mh, getItem → LC, fits_of_scanBound → Nu, behindInMarks → MZ, plainId_quiet → MY, textFrom → L7, wpAny_isInstance → Nt, wpAny_execs_nil → Nr, IsPart → LB, wpAny_specialOf → Nl, wpAny_rule → Mu, int_text_length_le10 → NY, importedModules → Nk, typeLookup_type → Nj, wpAny_setEntries_of → NX, holding → L1, BindsTo → L0, Keyword → LZ, callerA → LY, isSubtype_type → Ni, pyNext → LL, wpAny_standAt → Nh, attributeBase → Ng, wpAny_newList → Nf, typeLookup → MS, hashInt → Mc, relabel → Mb, wpAny_eqBool_int → NW, codeAny_mono → Nc, tupleKind → MQ, PassesOwn → MP, wpAny_updateSeq → NV, wpAny_ite_split → NU, subscripted → Nb, keywordEach → Np
open PySem.W renaming boot_heap → Lf, behindTheImports → MV
open PyProof.Rows renaming seqObj → K8, envOfC → Ll, AllBare → LN, listUpdate_at → Nd, seqEpoch_at → Nm
open List renaming getD_eq_getElem?_getD → Kf, length_map → J6, mem_cons_of_mem → Ke, mem_cons_self → Ka, getElem?_eq_getElem → Kj, replicate → Kb, length_append → Kk, size_toArray → Ko, length_cons → Ki, mem_cons → Kg, mem_singleton → KA, range → Kc, getElem?_map → Kz, mem_append_right → KJ, length_singleton → KN, mem_map → Kl, map_cons → Ku, all_eq_true → KI, getElem?_eq_some_iff → Le, length_replicate → K4, getElem?_cons_succ → Ld, length_range → KY, length_set → KO, drop_succ_cons → K3, mem_append → KP, append_nil → KR, drop_zero → KQ, nodup_cons → K1, getElem?_eq_none → Lu, mem_range → KW, getElem?_append_right → L9, length_take → Lc, pairwise_cons → Ls, mem_map_of_mem → Lx, map_map → KU, getElem_mem → Lj, append_assoc → Lr, length_drop → Lq, getElem?_append_left → Mr, mem_append_left → LV, mem_of_getElem? → LX, filterMap_cons → LW, nil_append → Lv, getElem?_replicate → Mt, not_mem_nil → LH, replicate_succ → L8, take_of_length_le → MI, map_congr_left → Mm, getLast?_eq_some_getLast → NL, getElem?_cons_zero → M6, length_reverse → MG, map_append → Mk, take_succ_cons → Na, find?_cons → MM, pairwise_map → M8, length_eraseIdx_of_lt → OT, getElem?_set_ne → NP, mem_iff_getElem → NN, drop_eq_getElem_cons → OR, getElem_of_mem → NM, pairwise_singleton → OP, length_eq_zero_iff → ON, getElem?_set_self → OZ, pairwise_lt_range → OY, length → Mq, reverse_cons → NT, flatten_cons → NS, idxOf_append → NR, map_nil → MD, take_append_drop → Ov, drop_length → NC, countP_cons → NB, take_append_of_le_length → Qd, mem_of_mem_take → Ot, mem_of_mem_drop → Oq, any_cons → M1, mem_filter → NA, of_mem_zip → Nz, foldl_cons → Ny, getElem?_range → Oo, length_pos_iff → Om, idxOf_lt_length_of_mem → Qc, count_cons → Nx, map_replicate → Ol, set_cons_zero → Oh, set_cons_succ → Og, pairwise_iff_getElem → Qo, take_zero → NH, getLastD_eq_getLast? → Qn, ext_getElem? → OE, getElem?_set → Oz, sum_cons → NG, lookup_cons → Ow, length_nil → OK, pairwise_append → Pw, count_nil → N3, mem_filterMap → Pq, take_nil → N2, all_cons → N1, any_eq_false → Pk, count_append → Pe, nodup_append → P1, getLast?_map → P0, map_set → N7, take_length → PU, any_eq_true → PR, ext_getElem → PN, nodup_range → PM, getLast_mem → PK, map → M0, map_const' → PB, foldl → Of, drop_nil → Pd, all_map → O5
open PySem.W renaming Frag → J2, kia_one → Li, fnOf → LQ, kitOne → Mp, findIn → ML, keepIn → MK, codeIn → Nw, methodObj → OI, hasDictIn → OH, kitx_list → OG, cellsFrom_some → Qg, instObj → OM, OpenLaw → OL, lookIn → N6, kitx_tuple → Pp, specialIn → Pj, kitx_dict → Ph, nsIn → Oa, plainGet → PY, takesIn → PH, mroIn → P7, WalkO → P6, subIn → P4, mg_of → Pc
open Nat renaming le_refl → J9, ne_of_lt → Km, lt_of_lt_of_le → KL, le_trans → Ky, zero_le → Kx, lt_succ_of_lt → LK, lt_irrefl → Lp, le_succ → La, ne_of_gt → LF, zero_add → LD, not_lt_zero → Ml, lt_of_le_of_lt → M9, lt_succ_self → M7, le_of_lt → Mo, add_comm → Mn, lt_of_succ_lt_succ → OW, succ_le_succ → Ox, le_of_ble_eq_true → Qr, mul_le_mul_left → Pr, eq_zero_or_pos → Pm, lt_or_ge → N9, min_le_right → PX, le_of_not_lt → PV, min_eq_right → PJ, min_eq_left → Pz, mul_comm → O9, le_of_eq → O8, lt_trans → O7, sub_self → O3, succ_pos → O2
open Bool renaming false_ne_true → Kv, and_eq_true → Kt, true_and → LS, false_and → M3, and_eq_true_iff → Ou, false_eq_true → Oi, not_true → NF, and_true → ND, eq_iff_iff → OJ, true_or → Oc, or_true → N8, or_eq_true → PF, not_false → P9, and_false → P8, false_or → P5
open Array renaming length_toList → KD, getElem?_eq_getElem → MJ, getElem?_toList → M5, toArray_toList → NO, getElem?_eq_none → OX, perm_iff_toList_perm → Qb, all_eq_true' → Oj, toList_push → OD, getD → M4, toList_extract → Px, size_append → Pf, mk → Nv, toList → Pa
open Option.some renaming inj → KH, injEq → OF
open PyProof.Rows renaming slot_tuple_getitem → MN, boot_list → Ma, callWith_type1 → MO, boot_tuple → NQ, boot_bool → OV, callWith_builtin1 → Qe, boot_str → Qs, boot_int → Qq, boot_isinstance → QC, boot_reversed → QB, boot_sorted → QD, boot_range → QA, eq_dataH → Qz, ne_dataH → Qy, boot_set → Qx
open Or renaming inr → Kh, inl → Ks
open Int renaming toNat_natCast → LJ, eq_ofNat_of_zero_le → Ms, toNat_of_nonneg → MF, reduceBEq → LR, reduceLT → LP, fmod_eq_emod_of_nonneg → OU, emod_lt_of_pos → Pl, emod_nonneg → PD
open Option renaming isSome → Lo, toList_none → ME, isSome_iff_exists → Qm, getD_none → Oy, map_eq_some_iff → Qt, toList_some → Po, bind_some → PQ
open PySem renaming intKind → LG, mem_of_lookup → MH, reprText → NJ, layNew → NK, entryFor_alias → Pu, relayAll → N5, NameKind → N4, boot_len → Qa, call → Oe, Within → Pb, PyData → O6, Fin → N0
open Nat.succ renaming inj → Lw
open Ne renaming symm → KS
open False renaming elim → LI
open PySem.F renaming plain_extend_loop → OS, plainAttrs_list → OQ, args_tuple_add_2 → Ql, slot_list_append → Qk, type_list_append → Qj, entry_tuple_add → Qi, plain_list_iadd → Qh, slot_tuple_add → Qf
open PyProof.Rows.F renaming entry_set_update_loop → Qu
open True renaming intro → LU
open Prod renaming snd → LO, fst → NZ
open List.Perm renaming refl → NI, nodup_iff → Pt
open String renaming length_toList → Py
open And renaming left → MC
open Sum renaming inl → Mj, inr → Mi
open List.Pairwise renaming nil → Pg, filter → Qw, imp → Qv
open List.Sublist renaming refl → PZ
open Classical renaming em → O4
open Sum.inl renaming inj → O1
open Prod.mk renaming inj → O0
set_option compiler.extract_closed false
set_option bootstrap.genMatcherCode false
set_option genSizeOf false
set_option genInjectivity false
set_option Elab.async false
set_option linter.all false
set_option maxRecDepth 100000
namespace L2
open PySem PySem.Spec PyProof.Rows
abbrev Key:=Sum Int Str
noncomputable def jc:Key->B->QJ
|.inl k,v=>Value.isInt k v
|.inr x,v=>Value.isStrOf x v
def Ip (w:J8):Key->Int
|.inl k=>Mc k
|.inr x=>hashStr w x
theorem aP:∀{k:Key} {v:B},jc k v=JZ->(∃i t,k=Mj i/\v=Value.int i t)\/(∃x t,k=Mi x/\v=Value.str x t)
|.inl i,v,h=>by obtain⟨t,e⟩:=Value.isInt_shape (k:=i) (v:=v) h;exact .inl ⟨i,t,rfl,e⟩
|.inr x,v,h=>by obtain⟨t,e⟩:=Value.isStrOf_shape (x:=x) (v:=v) h;exact .inr ⟨x,t,rfl,e⟩
theorem pZ (i:Int)(t:Tok):jc (.inl i) (.int i t)=true:=by simp[jc,Value.isInt]
theorem qg (x:Str)(t:Tok):jc (.inr x) (.str x t)=true:=by simp[jc,Value.isStrOf]
theorem BI (a b:Int):decide ((Mj a:Key)=Mj b)=(a==b):=by
 by_cases e:a=b
 .subst e;simp
 .have h:¬ (Mj a:Key)=Mj b:=fun q=>e<|O1 q;rw[QP h];exact(beq_eq_false_iff_ne.mpr e).symm
theorem D6 (a b:Str):decide ((Mi a:Key)=Mi b)=decide (a=b):=by
 by_cases e:a=b
 .subst e;simp
 .have h:¬ (Mi a:Key)=Mi b:=fun q=>e<|Sum.inr.inj q;rw[QP h,QP e]
theorem Dc (a:Int)(b:Str):decide ((Mj a:Key)=Mi b)=false:=QP λq=>nomatch q
theorem DM (a:Str)(b:Int):decide ((Mi a:Key)=Mj b)=false:=QP λq=>nomatch q
def aZ (prog:QN)(w:J8):PySem.KeyKind prog w Key where
 is:=jc
 hash:=Ip w
 inj:=λv a b g f=>by
  rcases aP g with⟨i,t,rfl,rfl⟩|⟨x,t,rfl,rfl⟩
  .rcases aP f with ⟨c,u,rfl,e⟩ | ⟨y,u,rfl,e⟩
   .injection e with e1 _;rw[e1]
   .exact nomatch e
  .rcases aP f with ⟨c,u,rfl,e⟩ | ⟨y,u,rfl,e⟩
   .exact nomatch e
   .injection e with e1 _;rw[e1]
 byValue:=λk v h=>by rcases aP h with⟨i,t,rfl,rfl⟩|⟨x,t,rfl,rfl⟩<;>rfl
 pyHash:=λd h=>by
  rcases aP d with⟨i,t,rfl,rfl⟩|⟨x,t,rfl,rfl⟩
  .exact wpAny_pyHash_int h
  .exact wpAny_pyHash_str h
 eqBool:=λl d h=>by
  rcases aP l with⟨i,t,rfl,rfl⟩|⟨x,t,rfl,rfl⟩
  .rcases aP d with ⟨c,u,rfl,rfl⟩ | ⟨y,u,rfl,rfl⟩
   .rw[BI] at h;exact NW h
   .rw[Dc] at h;exact SeqAt.EqAt.int_str i t y u _ _ _ _ h
  .rcases aP d with ⟨c,u,rfl,rfl⟩ | ⟨y,u,rfl,rfl⟩
   .rw[DM] at h;exact SeqAt.EqAt.str_int x t c u _ _ _ _ h
   .rw[D6] at h;exact wpAny_eqBool_str h
 «strs»:=λk x t v h=>by
  rcases aP h with⟨i,u,rfl,e⟩|⟨y,u,rfl,e⟩
  .exact nomatch e
  .injection e with e1 _
   subst e1;cases v<;>rfl
theorem lb (prog:QN)(w:J8)(i:Int)(t:Tok):(aZ prog w).is (.inl i) (.int i t)=true:=pZ i t
theorem kM (prog:QN)(w:J8)(x:Str)(t:Tok):(aZ prog w).is (.inr x) (.str x t)=true:=qg x t
set_option genInjectivity true
inductive V where
 |non|bl (b:QJ)|int (i:Int)|str (x:Str)|byt (b:QT UInt8)|flt (b:UInt64)|ref (a:QF)|ty (n:QZ)
 deriving Q7
set_option genInjectivity false
def RelV:V->B->Prop
|.non,u=>u=Value.none
|.bl b,u=>u=Value.bool b
|.int i,u=>∃t,u=Value.int i t
|.str x,u=>∃t,u=Value.str x t
|.byt b,u=>∃t,u=Value.bytes b t
|.flt b,u=>∃t,u=Value.float b t
|.ref a,u=>u=Value.ref a
|.ty n,u=>u=Value.type n
abbrev Vals:U V->U B->Prop:=Paired RelV
theorem Vals.length {b:U V}{a:U B}(r:Vals b a):b.length=a.length:=Paired.length r
theorem Vals.get:∀{b:U V} {a:U B} {i:Y} {x:V},Vals b a->b[i]?=O x->∃u,a[i]?=O u/\RelV x u
|_,_,_,_,.nil,e=>by simp at e
|_,_,0,_,.cons r _,e=>by simp at e;subst e;exact⟨_,rfl,r⟩
|_,_,i+1,x,.cons _ t,e=>by obtain⟨u,c,d⟩:=Vals.get (i:=i) (x:=x) t (by simpa using e);exact⟨u,by simpa using c,d⟩
theorem Vals.set {x:V}{u:B}(r:RelV x u):∀{b:U V} {a:U B} (i:Y),Vals b a->Vals (b.set i x) (a.set i u)
|_,_,_,.nil=>.nil
|_,_,0,.cons _ t=>.cons r t
|_,_,i+1,.cons q t=>.cons q<|Vals.set r i t
theorem Vals.append:∀{c d:U V} {a b:U B},Vals c a->Vals d b->Vals (c++d) (a++b)
|_,_,_,_,.nil,s=>s
|_,_,_,_,.cons r t,s=>.cons r<|Vals.append t s
theorem Vals.take:∀{b:U V} {a:U B} (n:Y),Vals b a->Vals (b.take n) (a.take n)
|_,_,0,_=>.nil
|_,_,_+1,.nil=>.nil
|_,_,n+1,.cons r t=>.cons r<|Vals.take n t
theorem Vals.drop:∀{b:U V} {a:U B} (n:Y),Vals b a->Vals (b.drop n) (a.drop n)
|_,_,0,r=>r
|_,_,_+1,.nil=>.nil
|_,_,n+1,.cons _ t=>Vals.drop n t
def RelO:j V->j B->Prop
|some v,O u=>RelV v u
|none,J=>Ra
|_,_=>QX
def KV {a:Type}:U (a×V)->U (a×B)->Prop:=Paired λ(p:a×V) (q:a×B)=>p.1=q.1/\RelV p.2 q.2
def kV:Key->V
|.inl i=>.int i
|.inr x=>.str x
inductive HO where
 |lst (xs:U V)
 |tup (xs:U V)
 |dK (kvs:U (Key×V))|dT (kvs:U (U Key×V))
 |set (S:Int->QJ) (n:Y)
 |ins (C dx:QF) (fs:U (Str×V))
 |own (x:QF)
 |xd (fs:U (Str×V))
 |met (f x:QF)
 |rng (lo hi:Int)
 |frz (o:Obj) (u:HO)
 |tbl (ps:QT B)
 |ext (φ:QS->Prop)
abbrev Hp:=QF->j HO
noncomputable def upd (H:Hp)(a:QF)(o:HO):Hp:=λb=>if b=a then O o else H b
theorem au {H:Hp}{a:QF}{o:HO}:upd H a o a=O o:=by unfold upd;rw[QG rfl]
theorem ae {H:Hp}{a b:QF}{o:HO}(h:b≠a):upd H a o b=H b:=by unfold upd;rw[QH h]
theorem HA {H:Hp}{a b:QF}{o u:HO}(h:H a=O o)(c:H b=O u)(d:o≠u):a≠b:=by intro e;subst e;rw[h] at c;exact d<|KH c
theorem aM {H:Hp}{a b:QF}{o:HO}(h:H a=O o)(c:H b=J):a≠b:=by intro e;subst e;rw[h] at c;cases c
section
variable (P:QN)(w:J8)
def ObjOk (H:Hp)(h:QS)(a:QF):HO->Prop
|.lst d=>d.length<=sizeLine/\∃(b:U B) (n:Y),Vals d b/\h.get? a=O {cls:=.type "list",data:=.seq b.toArray n}
|.tup d=>d.length<=sizeLine/\∃b:U B,Vals d b/\RG h a b.toArray
|.dK c=>c.length<=sizeLine/\(a==Lz)=JY/\∃r,KV c r/\h.DictOf (aZ P w) a r
| .dT c=>c.length<=sizeLine/\(a==Lz)=JY/\∃ d:U (U Key×QF×B),
  Paired (λ(p:U Key×V) (q:U Key×QF×B)=>p.1=q.1/\H q.2.1=O (.tup<|p.1.map kV)/\RelV p.2 q.2.2) c d /\
  ∃o k ep,h.get? a=O o/\o.ExactDict/\o.data=.dict k ep/\k.toList=d.map (entryOfKey<|MQ<|aZ P w)/\(d.map (·.1)).Nodup
|.set S n=>h.SetOf (intKind P w) a S n
| .ins C g fs=>H g=O (.own a)/\fs.length<=1000/\g≠a/\h.get? a=O (OM C g) /\
  ∃e,h.Ns1 g e/\(∀f,RelO (fs.lookup f)<|e f)/\Pb e (fs.map (·.1))
|.own _=>∃o,h.get? a=O o
|.xd fs=>∃e,h.Ns1 a e/\∀f,RelO (fs.lookup f)<|e f
|.rng lo s=>∃t u v,h.get? a=O {cls:=.type "range",data:=.fields #[.int lo t,.int s u,.int 1 v]}
|.frz o u=>h.get? a=O o/\ObjOk H h a u
|.tbl y=>h.get? a=O {cls:=.none,data:=.fields y}
|.met f x=>h.get? a=O (OI (.ref f)<|.ref x)
|.ext i=>i h/\(∃o,h.get? a=O o)/\∀l m:QS,i l->(∀o,l.get? a=O o->m.get? a=O o)->i m
def HOk (H:Hp)(h:QS):Prop:=∀a o,H a=O o->ObjOk P w H h a o
end
section
variable {P:QN}{w:J8}{H H':Hp}{h h':QS}{a:QF}{o:HO}
theorem ObjOk.lt (x:ObjOk P w H h a o):a<h.objs.size:=by
 cases o with
 |lst c=>obtain⟨_,_,_,_,e⟩:=x;exact Heap.lt_size e
 |tup c=>obtain⟨_,_,_,p⟩:=x;exact p.lt
 |dK b=>obtain⟨_,_,_,_,o,_,_,e,_⟩:=x;exact Heap.lt_size e
 |dT b=>obtain⟨_,_,_,_,o,_,_,e,_⟩:=x;exact Heap.lt_size e
 |set S n=>obtain⟨o,_,_,_,e,_⟩:=x;exact Heap.lt_size e
 |ins C d fs=>obtain⟨_,_,_,e,_⟩:=x;exact Heap.lt_size e
 |own y=>obtain⟨_,e⟩:=x;exact Heap.lt_size e
 |xd fs=>obtain⟨_,⟨_,_,_,e,_⟩,_⟩:=x;exact Heap.lt_size e
 |rng lo g=>obtain⟨_,_,_,e⟩:=x;exact Heap.lt_size e
 |frz i u=>obtain⟨e,_⟩:=x;exact Heap.lt_size e
 |tbl k=>exact Heap.lt_size<|show h.get? a=O _ from x
 |met f y=>exact Heap.lt_size<|show h.get? a=O _ from x
 |ext l=>obtain⟨_,⟨_,e⟩,_⟩:=x;exact Heap.lt_size e
theorem Paired.mapP {e g:Type}{F G:e->g->Prop}:∀{c:U e} {d:U g},Paired F c d->(∀a b,F a b->G a b)->Paired G c d
|_,_,.nil,_=>.nil
|_,_,.cons r t,f=>.cons (f _ _ r)<|Paired.mapP t f
theorem ObjOk.stay (x:ObjOk P w H h a o)(k:∀b u,(b=a\/H b=O (.own a))->h.get? b=O u->h'.get? b=O u)
  (ho:∀b,H b=O (.own a)->H' b=O (.own a)) (I:∀b m,H b=O (.tup m)->H' b=O (.tup m)):ObjOk P w H' h' a o:=by
 induction o with
 |lst m=>obtain⟨z,l,n,r,e⟩:=x;exact⟨z,l,n,r,k _ _ (.inl rfl) e⟩
 |tup m=>obtain⟨z,l,r,g,e,c⟩:=x;exact⟨z,l,r,g,k _ _ (.inl rfl) e,c⟩
 |dK s=>obtain⟨z,y,N,r,g,i,ep,e,c⟩:=x;exact⟨z,y,N,r,g,i,ep,k _ _ (.inl rfl) e,c⟩
 |dT s=>obtain⟨z,y,m,r,g,i,ep,e,c⟩:=x;exact⟨z,y,m,Paired.mapP r λp q z=>⟨z.1,I _ _ z.2.1,z.2.2⟩,g,i,ep,k _ _ (.inl rfl) e,c⟩
 |set S n=>obtain⟨g,i,ep,t,e,c⟩:=x;exact⟨g,i,ep,t,k _ _ (.inl rfl) e,c⟩
 |ins C Q fs=>obtain⟨d,z,M,e,A,⟨D,i,ep,e2,c⟩,r⟩:=x;exact⟨ho _ d,z,M,k _ _ (.inl rfl) e,A,⟨D,i,ep,k _ _ (.inr d) e2,c⟩,r⟩
 |own y=>obtain⟨g,e⟩:=x;exact⟨g,k _ _ (.inl rfl) e⟩
 |xd fs=>obtain⟨A,⟨D,i,ep,e,c⟩,r⟩:=x;exact⟨A,⟨D,i,ep,k _ _ (.inl rfl) e,c⟩,r⟩
 |rng lo Z=>obtain⟨t,u,v,e⟩:=x;exact⟨t,u,v,k _ _ (.inl rfl) e⟩
 |frz g u L=>obtain⟨e,q⟩:=x;exact⟨k _ _ (.inl rfl) e,L q⟩
 |tbl F=>have e:h.get? a=O {cls:=.none,data:=.fields F}:=x;show h'.get? a=O {cls:=.none,data:=.fields F};exact k a _ (.inl rfl) e
 |met f y=>have e:h.get? a=O (OI (.ref f) (.ref y)):=x;show h'.get? a=O (OI (.ref f)<|.ref y);exact k a _ (.inl rfl) e
 |ext φ=>obtain⟨p,⟨o,e⟩,G⟩:=x;exact⟨G _ _ p λo q=>k _ _ (.inl rfl) q,⟨o,k _ _ (.inl rfl) e⟩,G⟩
theorem HOk.lt (x:HOk P w H h)(e:H a=O o):a<h.objs.size:=(x a o e).lt
theorem HOk.fresh (x:HOk P w H h)(e:h.objs.size<=a):H a=none:=by
 cases q:H a with
 |none=>rfl
 |some u=>exact QL (KL (x.lt q) e)<|Lp _
theorem HOk.kept (x:HOk P w H h)(k:∀b u,h.get? b=O u->h'.get? b=O u):HOk P w H h':=λa o e=>
 (x a o e).stay (λb u _ q=>k b u q) (λ_ q=>q) λ_ _ q=>q
theorem HOk.laid (x:HOk P w H h)(k:∀b u,h.get? b=O u->h'.get? b=O u)(hp:h.objs.size<=a)(d:ObjOk P w (upd H a o) h' a o):HOk P w (upd H a o) h':=λb u e=>by
 have g:=x.fresh hp;by_cases f:b=a
 .subst f;rw[au] at e;cases e;exact d
 .rw [ae f] at e;exact(x b u e).stay (λc v _ q=>k c v q) (λc q=>by rw[ae<|aM q g];exact q) λc i q=>by rw[ae<|aM q g];exact q
end
def Rd (H:Hp)(a:QF)(u:HO):Prop:=H a=O u\/∃o,H a=O (.frz o u)
theorem Rd.ok {P:QN}{w:J8}{H:Hp}{h:QS}{a:QF}{u:HO}(r:Rd H a u)(x:HOk P w H h):ObjOk P w H h a u:=by
 rcases r with r|⟨o,r⟩
 .exact x a u r
 .obtain ⟨_,q⟩:=x a _ r;exact q
def Mut:j HO->Prop
|some (.lst _)=>Ra
|some (.dK _)=>Ra
|some (.dT _)=>Ra
|some (.set _ _)=>Ra
|some (.ins _ _ _)=>Ra
|some (.ext _)=>Ra
|_=>QX
section
variable {P:QN}{w:J8}{H:Hp}{h h':QS}{x e:QF}{o':HO}
theorem HOk.write (ok:HOk P w H h)(l:Mut<|H x)(p:e=x\/H e=O (.own x))(k:∀b u,b≠e->h.get? b=O u->h'.get? b=O u)(n:∃u,h'.get? e=O u)
  (o:ObjOk P w (upd H x o') h' x o'):HOk P w (upd H x o') h':=λb u q=>by
 have d:∀c y,H c=O (.own y)->c≠x:=λc y r z=>by subst z;rw[r] at l;exact l
 have f:∀c m,H c=O (.tup m)->c≠x:=λc m r z=>by subst z;rw[r] at l;exact l
 by_cases g:b=x
 .subst g;rw[au] at q;cases q;exact o
 .rw [ae g] at q;by_cases a:b=e
  .have s:H b=O (.own x):=by
    rcases p with z|z
    .exact QL (a.trans z) g
    .rw[a];exact z
   rw[q] at s;cases s;obtain⟨v,t⟩:=n;exact⟨v,by rw[a];exact t⟩
  .refine (ok b u q).stay (fun c v i r=>k c v ?_ r) (fun c r=>by rw [ae (d c b r)]; exact r) fun c m r=>by rw [ae (f c m r)]; exact r
   rcases i with rfl|i
   .exact a
   .rintro rfl;rcases p with z|z
    .exact d c b i z
    .rw[i] at z;cases z;exact g rfl
end
structure Un (fs ex:U QF)(H H':Hp)(h h':QS):Prop where
 keep:∀b o,h.get? b=O o->H b=J->b ∉ fs->b ∉ ex->h'.get? b=O o
 slot:∀b o,h.get? b=O o->H b=J->b∈fs->b ∉ ex->∃sl,h'.get? b=O {o with slots:=sl}
 free:∀b o,h.get? b=O o->H b=J->b ∉ ex->H' b=J
 there:∀b o,h.get? b=O o->b ∉ ex->∃o',h'.get? b=O o'
 tups:∀b xs,H b=O (.tup xs)->H' b=O (.tup xs)
 frzs:∀b o u,H b=O (.frz o u)->H' b=O (.frz o u)
 tbls:∀b ps,H b=O (.tbl ps)->∃more,H' b=O (.tbl (ps++more))
section
variable {fs fs' ex ex':U QF}{H H1 H2:Hp}{h h1 h2 h':QS}{a x e:QF}{o:HO}
theorem Un.any (u:Un fs ex H H1 h h1){b:QF}{c:Obj}(q:h.get? b=O c)(n:H b=J)(hx:b ∉ ex):∃f,h1.get? b=O {c with slots:=f}:=by
 by_cases d:b∈fs
 .exact u.slot b c q n d hx
 .exact⟨c.slots,u.keep b c q n d hx⟩
theorem Un.kept (k:∀b u,h.get? b=O u->h'.get? b=O u):Un fs ex H H h h':=
 ⟨λb c q _ _ _=>k b c q,λb c q _ _ _=>⟨c.slots,k b c q⟩,λ_ _ _ n _=>n,λb c q _=>⟨c,k b c q⟩,λ_ _ q=>q,λ_ _ _ q=>q,λ_ d q=>⟨#[],by rw[q];simp⟩⟩
theorem Un.refl:Un fs ex H H h h:=Un.kept λ_ _ q=>q
theorem Un.laid (k:∀b u,h.get? b=O u->h'.get? b=O u)(hp:h.objs.size<=a)(c:H a=J):Un fs ex H (upd H a o) h h' where
 keep:=λb u q _ _ _=>k b u q
 slot:=λb u q _ _ _=>⟨u.slots,k b u q⟩
 free:=λb u q n _=>by rw[ae<|Km<|KL (Heap.lt_size q) hp];exact n
 there:=λb u q _=>⟨u,k b u q⟩
 tups:=λb d q=>by rw[ae<|aM q c];exact q
 frzs:=λb u d q=>by rw[ae<|aM q c];exact q
 tbls:=λb f q=>⟨#[],by rw[ae<|aM q c,q];simp⟩
theorem Un.write (d:Mut<|H x)(l:e=x\/H e=O (.own x))(k:∀b u,b≠e->h.get? b=O u->h'.get? b=O u)(f:∃u,h'.get? e=O u):Un fs ex H (upd H x o) h h':=by
 have hx:∀b,H b=J->b≠x:=λb n z=>by subst z;rw[n] at d;exact d
 have i:∀b,H b=J->b≠e:=λb n z=>by
  subst z;rcases l with r|r
  .exact hx b n r
  .rw[n] at r;cases r
 have g:∀b u,H b=O u->¬Mut (O u)->b≠x:=λb u q m z=>by subst z;rw[q] at d;exact m d
 refine⟨λb u q n _ _=>k b u (i b n) q,λb u q n _ _=>⟨u.slots,k b u (i b n) q⟩,λb u q n _=>by rw[ae<|hx b n];exact n,λb u q _=>?_,
  λb p q=>by rw[ae<|g b _ q λz=>z];exact q,λb u p q=>by rw[ae<|g b _ q λz=>z];exact q,λb s q=>⟨#[],by rw[ae<|g b _ q λz=>z,q];simp⟩⟩
 by_cases c:b=e
 .subst c;exact f
 .exact⟨u,k b u c q⟩
end
noncomputable def trk (h:QS)(H:Hp):U QF:=(Kc h.objs.size).filter λa=>(H a).isSome
def kd (h:QS)(H:Hp):QS:=PySem.W.hideAll h<|trk h H
theorem qH (h:QS)(H:Hp):(kd h H).objs.size=h.objs.size:=PySem.W.hideAll_size _ _
theorem sR {h:QS}{H:Hp}{b:QF}{o:Obj}(e:h.get? b=O o)(n:H b=J):(kd h H).get? b=O o:=
 PySem.W.hideAll_get _ e λa=>by have q:(H b).isSome=true:=(NA.mp a).2;rw[n] at q;simp at q
theorem yH {h:QS}{H:Hp}{b:QF}{o:Obj}(e:(kd h H).get? b=O o):h.get? b=O o/\H b=none:=by
 have a:h.get? b=O o:=PySem.W.of_hideAll (trk h H) e;refine⟨a,?_⟩;cases q:H b with
 |none=>rfl
 |some x=>have c:b∈trk h H:=NA.mpr ⟨KW.mpr<|Heap.lt_size a,by simp[q]⟩;have z:(kd h H).get? b=none:=PySem.W.hideAll_none (trk h H) c;rw[z] at e;cases e
noncomputable def xO (g h:QS)(L:QF):U (QF×Obj):=(Kc h.objs.size).filterMap λa=>if a=L\/(g.get? a).isSome=JZ then J else(h.get? a).map λo=>(a,o)
def rest (g h:QS)(L d:QF):U (QF×Obj):=(xO g h L).filter λp=>decide (p.1≠d)
structure Mod (K:J2)(mg:Str->j B)(base:QS):Prop where
 kin:K.In base
 glob:base.Ns KC mg
 blt:∃mb,base.Ns builtinsNs mb/\∀x:Str,x≠"__name__"->mb x=L6 x
 nolimit:base.NoLimit
structure Cx where
 prog:QN
 w:J8
 K:J2
 mg:Str->j B
 base:QS
 A:Kq
 N:U Str
 s₀:J0
 H₀:Hp
 env:Env
 outer:U Env
 stack:U Env
 ex:U QF
 fn:Str->QJ
 calm:QJ
 pn:U (QF×Obj)
 xe:B->J0->Prop
noncomputable def frs (l:U Env):U QF:=l.filterMap (·.frame)
abbrev Cx.fs (X:Cx):U QF:=frs X.outer
def Vis (a:Q2)(x:Str):Prop:=a.names.lookup x=O .local\/a.names.lookup x=O .cell\/a.names.lookup x=O .free
def Loc (a:Q2)(x:Str):Prop:=a.names.lookup x=O .local\/a.names.lookup x=O .cell
def IM (a:Env)(h:QS)(m:Str->j B)(x:Str)(u:B):Prop:=
 (a.kindOf x=O .local/\m x=O u)\/((a.kindOf x=O .cell\/a.kindOf x=O .free)/\∃c,a.cells.lookup x=O c/\h.IsCell c (O u))
structure Cx.Ok (X:Cx):Prop where
 mod:Mod X.K X.mg X.base
 kind:X.env.scope.kind=.function
 glob:X.env.globals=KC
 blt:X.env.builtins=builtinsNs
 above:X.s₀.heap.objs.size<=X.env.locals
 inj:∀x y c,X.env.cells.lookup x=O c->X.env.cells.lookup y=O c->x=y
 has:∀x,(X.env.kindOf x=O .cell\/X.env.kindOf x=O .free)->∃c,X.env.cells.lookup x=O c
 cab:∀x c,X.fn x=JZ->X.env.cells.lookup x=O c->X.s₀.heap.objs.size<=c
 hd:X.calm=JZ->X.A.handled=J
 frames:X.A.frames=O X.stack
 stk:X.stack=X.outer\/(X.stack=X.env::X.outer/\X.env.frame=O X.env.locals)
 exf:∀b∈X.ex,b≠X.env.locals/\∀x c,X.env.cells.lookup x=O c->c≠b
 bs:∀b o,X.base.get? b=O o->X.s₀.heap.get? b=O o/\X.H₀ b=J
 bsz:X.base.objs.size<=X.s₀.heap.objs.size
 noex:∀b o,X.base.get? b=O o->b ∉ X.ex
 exfs:∀b∈X.ex,b ∉ X.fs
 funs:X.s₀.heap.FunFrames X.base X.outer
 frf:∀b∈X.fs,X.H₀ b=J
structure Inv (X:Cx)(pins:U (QF×Obj))(σ:U (j V))(H:Hp)(s:J0):Prop where
 ok:X.Ok
 os:s.os=X.s₀.os
 bare:LN s.gens
 base:Un X.fs X.ex X.H₀ H X.s₀.heap s.heap
 loc:∃m,s.heap.Ns X.env.locals m/\∀(i:Y) (x:Str) (v:V),X.N[i]?=O x->σ[i]?=O (O v)->Vis X.env.scope x->∃u,RelV v u/\IM X.env s.heap m x u
 cell:∀x c,X.env.cells.lookup x=O c->∃v,s.heap.IsCell c v
 free:H X.env.locals=J
 freeC:∀x c,X.env.cells.lookup x=O c->H c=J
 pin:∀p∈X.pn++pins,s.heap.get? p.1=O p.2/\H p.1=J/\p.1≠X.env.locals/\p.1 ∉ X.fs/\∀v,p.2.data≠.cell v
 hok:HOk X.prog X.w H s.heap
 len:σ.length=X.N.length
section
variable {X:Cx}{pins:U (QF×Obj)}{σ:U (j V)}{H H':Hp}{s:J0}{h':QS}
theorem Cx.Ok.nofr (ok:X.Ok){b:QF}{o:Obj}(e:X.base.get? b=O o):b ∉ X.fs:=λa=>by have:=(ok.funs.mem a).1;rw[e] at this;cases this
theorem Inv.bs (I:Inv X pins σ H s):∀b o,X.base.get? b=O o->s.heap.get? b=O o/\H b=none:=λb o e=>
 ⟨I.base.keep b o (I.ok.bs b o e).1 (I.ok.bs b o e).2 (I.ok.nofr e)<|I.ok.noex b o e,I.base.free b o (I.ok.bs b o e).1 (I.ok.bs b o e).2<|I.ok.noex b o e⟩
theorem Inv.bk (I:Inv X pins σ H s):∀b o,X.base.get? b=O o->s.heap.get? b=O o:=λb o e=>(I.bs b o e).1
theorem Inv.mod (I:Inv X pins σ H s):Mod X.K X.mg X.base:=I.ok.mod
theorem Inv.kIn (I:Inv X pins σ H s):X.K.In s.heap:=I.ok.mod.kin.keeps I.bk
theorem Inv.fr (I:Inv X pins σ H s):∃m,Fr X.base X.env.locals s.heap m:=
 let ⟨m,a,_⟩:=I.loc
 ⟨m,a,I.bk,Ky I.ok.bsz I.ok.above⟩
theorem Inv.lt (I:Inv X pins σ H s):X.env.locals<s.heap.objs.size:=let ⟨_,a,_⟩:=I.loc;a.lt
theorem Inv.sz (I:Inv X pins σ H s):X.s₀.heap.objs.size<=s.heap.objs.size:=Ky I.ok.above<|Mo I.lt
theorem Inv.nofs (I:Inv X pins σ H s){a:QF}(h:s.heap.objs.size<=a):a ∉ X.fs:=λb=>by obtain⟨_,o,ho,_⟩:=I.ok.funs.mem b;exact QL (KL (Heap.lt_size ho)<|Ky I.sz h)<|Lp _
theorem Inv.cne (I:Inv X pins σ H s):∀x c,X.env.cells.lookup x=O c->c≠X.env.locals:=λx c e z=>by obtain⟨v,o,ho,d⟩:=I.cell x c e;obtain⟨m,⟨g,f,ep,b,a,_⟩,_⟩:=I.loc;rw[z,b] at ho;cases ho;rw[a] at d;cases d
theorem Inv.funs (I:Inv X pins σ H s):s.heap.FunFrames X.base X.outer:=by
 have all:∀(l:U Env),(∀b∈frs l,b∈X.fs)->X.s₀.heap.FunFrames X.base l->s.heap.FunFrames X.base l:=by
  intro l;induction l with
  |nil=>intro _ _;trivial
  |cons g r n=>intro f i;obtain⟨hk,⟨L,o,d,k,ho,h⟩,m⟩:=i;have a:L∈X.fs:=f L (by unfold frs;rw[LW,d];exact Ka);obtain⟨p,e⟩:=I.base.slot L o ho (I.ok.frf L a) a λz=>I.ok.exfs L z a;exact⟨hk,⟨L,_,d,k,e,h⟩,n (λb c=>f b<|by unfold frs;rw[LW,d];exact Ke _ c) m⟩
 exact all X.outer (λ_ c=>c) I.ok.funs
theorem Inv.stack (I:Inv X pins σ H s):s.heap.FunFrames X.base X.stack:=by
 rcases I.ok.stk with e|⟨e,hf⟩
 .rw[e];exact I.funs
 .rw [e];obtain⟨m,a,_⟩:=I.loc;refine .cons (by rw[I.ok.kind];decide) hf a ?_ I.funs;exact Heap.get?_none_of_le<|Ky I.ok.bsz I.ok.above
theorem Inv.stkSub (I:Inv X pins σ H s):∀b∈frs X.stack,b∈X.env.locals::X.fs:=λb a=>by
 rcases I.ok.stk with e|⟨e,hf⟩
 .rw[e] at a;exact Ke _ a
 .rw [e] at a;unfold frs at a;rw[LW,hf] at a;exact a
theorem Inv.stkFree (I:Inv X pins σ H s):∀b∈frs X.stack,H b=none:=λb a=>by
 rcases Kg.mp (I.stkSub b a) with e|a
 .rw[e];exact I.free
 .obtain ⟨_,o,ho,_⟩:=I.ok.funs.mem a;exact I.base.free b o ho (I.ok.frf b a) λz=>I.ok.exfs b z a
theorem Inv.step {g':QT Rv}{t':Y}{d':Drawn}{ch:U QF}(I:Inv X pins σ H s)
  (g:∀b∈ch,(b∈X.ex\/X.s₀.heap.objs.size<=b)/\b≠X.env.locals/\(∀x c,X.env.cells.lookup x=O c->c≠b)/\∀p∈X.pn++pins,p.1≠b)
  (keep:∀b o,b≠X.env.locals->b ∉ X.fs->b ∉ ch->s.heap.get? b=O o->H b=J->h'.get? b=O o)
  (y:∀b o,b≠X.env.locals->b∈X.fs->b ∉ ch->s.heap.get? b=O o->H b=J->∃sl,h'.get? b=O {o with slots:=sl}) (a:∀b o,b ∉ ch->s.heap.get? b=O o->H b=J->H' b=J)
  (F:∀b o,b ∉ ch->s.heap.get? b=O o->∃N,h'.get? b=O N)
  (Q:∀b A,H b=O (.tup A)->H' b=O (.tup A)) (G:∀b o u,H b=O (.frz o u)->H' b=O (.frz o u)) (P:∀b Z,H b=O (.tbl Z)->∃L,H' b=O (.tbl<|Z++L))
  (ns:∀m,s.heap.Ns X.env.locals m->h'.Ns X.env.locals m) (hok:HOk X.prog X.w H' h') (hg:LN g'):
  Inv X pins σ H' {s with heap:=h',gens:=g',drawn:=d',toks:=t'}:=by
 have M:∀b o,X.s₀.heap.get? b=O o->b≠X.env.locals:=λb o e=>Km<|KL (Heap.lt_size e) I.ok.above
 have t:∀b o,X.s₀.heap.get? b=O o->b ∉ X.ex->b ∉ ch:=λb o e hx D=>by
  rcases(g b D).1 with z|z
  .exact hx z
  .exact QL (KL (Heap.lt_size e) z) (Lp _)
 have f:∀x c,X.env.cells.lookup x=O c->∀v,s.heap.IsCell c v->h'.IsCell c v:=λx c e v ⟨o,ho,hd⟩=>by
  have h:c ∉ ch:=λz=>(g c z).2.2.1 x c e rfl;by_cases hc:c∈X.fs
  .obtain ⟨sl,q⟩:=y c o (I.cne x c e) hc h ho<|I.freeC x c e;exact⟨_,q,hd⟩
  .exact⟨o,keep c o (I.cne x c e) hc h ho<|I.freeC x c e,hd⟩
 refine⟨I.ok,I.os,hg,⟨λb o e n D hx=>?_,λb o e n D hx=>?_,λb o e n hx=>?_,λb o e hx=>?_,λb A e=>Q b A<|I.base.tups b A e,λb o A e=>G b o A<|I.base.frzs b o A e,λb Z e=>?_⟩,?_,λx c e=>?_,?_,λx c e=>?_,λp hp=>?_,hok,I.len⟩
 .exact keep b o (M b o e) D (t b o e hx) (I.base.keep b o e n D hx) (I.base.free b o e n hx)
 .obtain ⟨sl,e1⟩:=I.base.slot b o e n D hx;obtain⟨sl',e2⟩:=y b _ (M b o e) D (t b o e hx) e1<|I.base.free b o e n hx;exact⟨sl',e2⟩
 .obtain ⟨N,e1⟩:=I.base.there b o e hx;exact a b N (t b o e hx) e1<|I.base.free b o e n hx
 .obtain ⟨N,e1⟩:=I.base.there b o e hx;exact F b N (t b o e hx) e1
 .obtain ⟨m1,e1⟩:=I.base.tbls b Z e;obtain⟨m2,e2⟩:=P b _ e1;exact⟨m1++m2,by rw[e2,Array.append_assoc]⟩
 .obtain ⟨m,hn,hl⟩:=I.loc;refine⟨m,ns m hn,λi x v e1 e2 e3=>?_⟩;obtain⟨u,r,l⟩:=hl i x v e1 e2 e3;refine⟨u,r,?_⟩;rcases l with l|⟨k,c,e,z⟩
  .exact .inl l
  .exact .inr ⟨k,c,e,f x c e _ z⟩
 .obtain ⟨v,z⟩:=I.cell x c e;exact⟨v,f x c e v z⟩
 .obtain ⟨m,⟨o,_,_,ho,_⟩,_⟩:=I.loc;exact a _ o (λz=>(g _ z).2.1 rfl) ho I.free
 .obtain ⟨v,o,ho,hd⟩:=I.cell x c e;exact a c o (λz=>(g c z).2.2.1 x c e rfl) ho<|I.freeC x c e
 .obtain ⟨e,n,ne,nf,d⟩:=I.pin p hp;have h:p.1 ∉ ch:=λz=>(g p.1 z).2.2.2 p hp rfl;exact⟨keep p.1 p.2 ne nf h e n,a p.1 p.2 h e n,ne,nf,d⟩
theorem Inv.un {t':Y}(I:Inv X pins σ H s)(u:Un X.fs [] H H' s.heap h')(g:HOk X.prog X.w H' h'):Inv X pins σ H' {s with heap:=h',toks:=t'}:=by
 obtain⟨m,⟨o,l,ep,ho,r⟩,_⟩:=id I.loc;obtain⟨v,h⟩:=u.any ho I.free<|by simp
 exact I.step (g':=s.gens) (d':=s.drawn) (ch:=[]) (λ_ z=>nomatch z) (λb o _ f _ e n=>u.keep b o e n f<|by simp) (λb o _ f _ e n=>u.slot b o e n f<|by simp) (λb o _ e n=>u.free b o e n<|by simp) (λb o _ e=>u.there b o e<|by simp) u.tups u.frzs u.tbls (λp i=>by
  obtain⟨t,d,c,a,k⟩:=i;rw[ho] at a;cases a;exact⟨_,d,c,h,k⟩) g I.bare
theorem Inv.call {g':QT Rv}{t':Y}{d':Drawn}{ch:U QF}(I:Inv X pins σ H s)(u:Un (frs X.stack) ch H H' s.heap h')(k:HOk X.prog X.w H' h')(t:LN g')
  (d:∀b∈ch,(b∈X.ex\/X.s₀.heap.objs.size<=b)/\b≠X.env.locals/\(∀x c,X.env.cells.lookup x=O c->c≠b)/\∀p∈X.pn++pins,p.1≠b):
  Inv X pins σ H' {s with heap:=h',gens:=g',drawn:=d',toks:=t'}:=by
 obtain⟨m,⟨o,A,ep,ho,r⟩,_⟩:=id I.loc;obtain⟨G,i⟩:=u.any ho I.free λz=>(d _ z).2.1 rfl
 exact I.step (ch:=ch) d (λb o i l a e n=>u.keep b o e n (λz=>(Kg.mp<|I.stkSub b z).elim i l) a) (λb o _ _ a e n=>u.any e n a) (λb o a e n=>u.free b o e n a) (λb o a e=>u.there b o e a) u.tups u.frzs u.tbls (λD v=>by
  obtain⟨F,h,g,f,y⟩:=v;rw[ho] at f;cases f;exact⟨_,h,g,i,y⟩) k t
theorem Inv.turned {t':Y}{it:QF}(I:Inv X pins σ H s)(k:∀b o,b≠it->s.heap.get? b=O o->h'.get? b=O o)(y:H it=J)(f:it≠X.env.locals)
  (h:it∈X.ex\/X.s₀.heap.objs.size<=it) (i:∀x c,X.env.cells.lookup x=O c->c≠it) (l:∀p∈X.pn++pins,p.1≠it):Inv X pins σ H {s with heap:=h',toks:=t'}:=by
 have d:∀b u,H b=O u->b≠it:=λb u e z=>by rw[z,y] at e;cases e
 refine I.step (g':=s.gens) (d':=s.drawn) (ch:=[it]) (λb t=>?_) (λb o _ _ a e _=>k b o (λz=>a<|by simp[z]) e) (λb o _ _ a e _=>⟨o.slots,k b o (λz=>a<|by simp[z]) e⟩) (λ_ _ _ _ n=>n)
  (λb o a e=>⟨o,k b o (λz=>a<|by simp[z]) e⟩) (λ_ _ e=>e) (λ_ _ _ e=>e) (λb A e=>⟨#[],by rw[e];simp⟩) (λm w=>?_) (λb u e=>?_) I.bare
 .have e:b=it:=by simpa using t
  subst e;exact⟨h,f,i,l⟩
 .obtain ⟨o,g,ep,ho,r⟩:=w;exact⟨o,g,ep,k _ o (KS f) ho,r⟩
 .refine (I.hok b u e).stay (fun c v a q=>k c v ?_ q) (fun _ q=>q) fun _ _ q=>q;rcases a with z|z
  .rw[z];exact d b u e
  .exact d c _ z
theorem Inv.tok (I:Inv X pins σ H s)(t:Y):Inv X pins σ H {s with toks:=t}:=I.un (h':=s.heap) (t':=t) Un.refl I.hok
theorem Inv.kept {t':Y}(I:Inv X pins σ H s)(k:∀b u,s.heap.get? b=O u->h'.get? b=O u):Inv X pins σ H {s with heap:=h',toks:=t'}:=I.un (Un.kept k)<|I.hok.kept k
theorem Inv.laid {a:QF}{o:HO}{t':Y}(I:Inv X pins σ H s)(k:∀b u,s.heap.get? b=O u->h'.get? b=O u)(hp:s.heap.objs.size<=a)(c:ObjOk X.prog X.w (upd H a o) h' a o):
  Inv X pins σ (upd H a o) {s with heap:=h',toks:=t'}:=I.un (Un.laid k hp<|I.hok.fresh hp)<|I.hok.laid k hp c
theorem Inv.write {x e:QF}{o:HO}{g:Y}(I:Inv X pins σ H s)(f:Mut<|H x)(d:e=x\/H e=O (.own x))(k:∀b u,b≠e->s.heap.get? b=O u->h'.get? b=O u)(a:∃u,h'.get? e=O u)
  (c:ObjOk X.prog X.w (upd H x o) h' x o):Inv X pins σ (upd H x o) {s with heap:=h',toks:=g}:=I.un (Un.write f d k a)<|I.hok.write f d k a c
theorem Inv.weak {a:U<|j V}(I:Inv X pins σ H s)(c:a.length=σ.length)(w:∀(i:Y) v,a[i]?=O (O v)->σ[i]?=O (O v)):Inv X pins a H s:=
 ⟨I.ok,I.os,I.bare,I.base,let ⟨m,d,b⟩:=I.loc;⟨m,d,λi x v e1 e2 e3=>b i x v e1 (w i v e2) e3⟩,I.cell,I.free,I.freeC,I.pin,I.hok,c.trans I.len⟩
theorem Inv.pins_of {a:U<|QF×Obj}(I:Inv X pins σ H s)(h:∀p∈a,s.heap.get? p.1=O p.2/\H p.1=J/\p.1≠X.env.locals/\p.1 ∉ X.fs/\∀v,p.2.data≠.cell v):Inv X a σ H s:=
 ⟨I.ok,I.os,I.bare,I.base,I.loc,I.cell,I.free,I.freeC,λp hp=>(KP.mp hp).elim (λz=>I.pin p<|LV _ z)<|h p,I.hok,I.len⟩
theorem lW {N:U Str}(d:N.Nodup){i c:Y}{x:Str}(a:N[i]?=O x)(b:N[c]?=O x):i=c:=by obtain⟨e,e1⟩:=Le.mp a;obtain⟨f,e2⟩:=Le.mp b;exact(List.getElem_inj d).mp<|e1.trans e2.symm
theorem iR {M:Model}{A:Kq}{E:B->J0->Prop}{i:Y}{x:Str}{v:V}{u:B}{Q:Unit->J0->Prop}(I:Inv X pins σ H s)(hN:X.N.Nodup)(hi:X.N[i]?=O x)(hx:Loc X.env.scope x)(r:RelV v u)
  (h:∀s',Inv X pins (σ.set i<|O v) H s'->(∃a,Heap.SameBut a s.heap s'.heap/\(a=X.env.locals\/X.env.cells.lookup x=O a))->Q () s') (hf:X.fn x=JZ\/X.env.scope.names.lookup x=O .local:=by first|exact .inl rfl|exact .inr rfl|assumption):QK M A (storeName X.env x u) Q E s:=by
 obtain⟨m,hn,hl⟩:=id I.loc;have hcls:(X.env.scope.kind==.class || (X.env.scope.kind==.module&&X.env.locals != X.env.globals))=false:=by rw[I.ok.kind];rfl
 have F:i < σ.length:=by rw[I.len];exact(Le.mp hi).1
 have cne:=I.cne
 have l:∀{a:QF} {h':QS},(∃o,s.heap.get? a=O o/\H a=J)->Heap.SameBut a s.heap h'->HOk X.prog X.w H h':=λ{a h'} ha g b ob e=>by
  obtain⟨_,_,D⟩:=ha;refine(I.hok b ob e).stay (λc w' t q=>(g.2 c ?_).trans q) (λ_ q=>q) λ_ _ q=>q;rintro rfl;rcases t with rfl|t
  .rw[D] at e;cases e
  .rw[D] at t;cases t
 rcases hx with hk|hk
 .refine wpAny_storeName_local hk hn (fun h' hn' g=>?_) hcls;obtain⟨oL,_,_,hoL,_⟩:=id hn;refine h _ ⟨I.ok,I.os,I.bare,⟨λb o e n G hx=>?_,λb o e n G hx=>?_,I.base.free,λb o e hx=>?_,I.base.tups,I.base.frzs,I.base.tbls⟩,⟨_,hn',λf y v' e1 e2 e3=>?_⟩,λy c e=>?_,I.free,I.freeC,λp hp=>?_,l ⟨oL,hoL,I.free⟩ g,by simpa using I.len⟩ ⟨_,g,.inl rfl⟩
  .exact(g.2 b<|Km<|KL (Heap.lt_size e) I.ok.above).trans<|I.base.keep b o e n G hx
  .obtain ⟨sl,e1⟩:=I.base.slot b o e n G hx;exact⟨sl,(g.2 b<|Km<|KL (Heap.lt_size e) I.ok.above).trans e1⟩
  .obtain ⟨o',e1⟩:=I.base.there b o e hx;exact⟨o',(g.2 b<|Km<|KL (Heap.lt_size e) I.ok.above).trans e1⟩
  .by_cases P:f=i
   .subst P;rw[hi] at e1;cases e1;rw[OZ F] at e2;cases e2;exact⟨u,r,.inl ⟨hk,by simp⟩⟩
   .rw [NP (KS P)] at e2;obtain⟨u',r',q⟩:=hl f y v' e1 e2 e3;refine⟨u',r',?_⟩;rcases q with⟨k,e⟩|⟨k,c,e,z⟩
    .refine .inl ⟨k,?_⟩;have:y≠x:=λe=>P<|lW hN e1<|e ▸ hi;simp[this,e]
    .exact .inr ⟨k,c,e,z.sameBut g<|cne y c e⟩
  .obtain ⟨w',z⟩:=I.cell y c e;exact⟨w',z.sameBut g<|cne y c e⟩
  .obtain ⟨e,n,ne,nf,d⟩:=I.pin p hp;exact⟨(g.2 p.1 ne).trans e,n,ne,nf,d⟩
 .have L:X.fn x=true:=by
   rcases hf with z|z
   .exact z
   .rw[z] at hk;cases hk
  obtain⟨c,t⟩:=I.ok.has x<|.inl hk;obtain⟨w',z⟩:=I.cell x c t;refine wpAny_storeName_cell I.ok.kind hk t z λh' Z g=>?_;obtain⟨oc,hoc,hocd⟩:=id z;refine h {s with heap:=h'} ⟨I.ok,I.os,I.bare,⟨λb o e n G hx=>?_,λb o e n G hx=>?_,I.base.free,λb o e hx=>?_,I.base.tups,I.base.frzs,I.base.tbls⟩,⟨m,hn.sameBut g<|KS<|cne x c t,λf y v' e1 e2 e3=>?_⟩,λy c' e=>?_,I.free,I.freeC,λp hp=>?_,l ⟨oc,hoc,I.freeC x c t⟩ g,by simpa using I.len⟩ ⟨c,g,.inr t⟩
  .exact(g.2 b<|Km<|KL (Heap.lt_size e)<|I.ok.cab x c L t).trans<|I.base.keep b o e n G hx
  .obtain ⟨sl,e1⟩:=I.base.slot b o e n G hx;exact⟨sl,(g.2 b<|Km<|KL (Heap.lt_size e)<|I.ok.cab x c L t).trans e1⟩
  .obtain ⟨o',e1⟩:=I.base.there b o e hx;exact⟨o',(g.2 b<|Km<|KL (Heap.lt_size e)<|I.ok.cab x c L t).trans e1⟩
  .by_cases P:f=i
   .subst P;rw[hi] at e1;cases e1;rw[OZ F] at e2;cases e2;exact⟨u,r,.inr ⟨.inl hk,c,t,Z⟩⟩
   .rw [NP (KS P)] at e2;obtain⟨u',r',q⟩:=hl f y v' e1 e2 e3;refine⟨u',r',?_⟩;rcases q with q|⟨k,c',e,z'⟩
    .exact .inl q
    .refine .inr ⟨k,c',e,z'.sameBut g ?_⟩;rintro rfl;exact P<|lW hN e1<|I.ok.inj _ _ _ e t ▸ hi
  .by_cases hcc:c'=c
   .subst hcc;exact⟨_,Z⟩
   .obtain ⟨w2,z2⟩:=I.cell y c' e;exact⟨w2,z2.sameBut g hcc⟩
  .obtain ⟨e,n,ne,nf,d⟩:=I.pin p hp;refine⟨(g.2 p.1 ?_).trans e,n,ne,nf,d⟩;intro q;rw[q,hoc] at e;have q':oc=p.2:=KH e;exact d w'<|by rw[<- q'];exact hocd
theorem lu {M:Model}{A:Kq}{E:B->J0->Prop}{i:Y}{x:Str}{v:V}{u:B}{Q:Unit->J0->Prop}(I:Inv X pins σ H s)(c:X.N.Nodup)(e:X.N[i]?=O x)(hx:Loc X.env.scope x)(r:RelV v u)
  (h:∀a,Inv X pins (σ.set i<|O v) H a->Q () a) (d:X.fn x=JZ\/X.env.scope.names.lookup x=O .local:=by first|exact .inl rfl|exact .inr rfl|assumption):QK M A (storeName X.env x u) Q E s:=
 iR I c e hx r (λa b _=>h a b) d
theorem Inv.call' {s':J0}{ch:U QF}(I:Inv X pins σ H s)(ho:s'.os=s.os)(u:Un (frs X.stack) ch H H' s.heap s'.heap)(d:HOk X.prog X.w H' s'.heap)(f:LN s'.gens)
  (a:∀b∈ch,(b∈X.ex\/X.s₀.heap.objs.size<=b)/\b≠X.env.locals/\(∀x c,X.env.cells.lookup x=O c->c≠b)/\∀p∈X.pn++pins,p.1≠b):Inv X pins σ H' s':=by
 obtain⟨h',g',d',t',g⟩:=s';have e:g=s.os:=ho;subst e;exact I.call (g':=g') (t':=t') (d':=d') u d f a
end
abbrev XK:=B->j QF->Hp->Prop
abbrev St:=U<|j V
abbrev VK:=V->Hp->Prop
abbrev TE:=St->Hp->VK->Prop
abbrev TT:=St->Hp->(QJ->Hp->Prop)->Prop
abbrev TA:=St->Hp->(U V->Hp->Prop)->Prop
structure bK where
 nx:St->Hp->Prop
 rt:VK
 bk:St->Hp->Prop:=λ_ _=>QX
 ct:St->Hp->Prop:=λ_ _=>QX
abbrev TS:=bK->St->Hp->Prop
def EP (X:Cx)(a:U<|QF×Obj)(d:St)(Q:VK)(u:B)(c:J0):Prop:=∃v b,Inv X a d b c/\RelV v u/\Q v b
def TP (X:Cx)(a:U<|QF×Obj)(e:St)(Q:QJ->Hp->Prop)(b:QJ)(d:J0):Prop:=∃c,Inv X a e c d/\Q b c
def AP (X:Cx)(a:U<|QF×Obj)(f:St)(Q:U V->Hp->Prop)(e:U B)(d:J0):Prop:=∃c b,Inv X a f b d/\Vals c e/\Q c b
def SP (X:Cx)(b:U<|QF×Obj)(D:bK)(f:Flow)(d:J0):Prop:=
 match f with
 |.next=>∃a c,Inv X b a c d/\D.nx a c
 |.brk=>∃a c,Inv X b a c d/\D.bk a c
 |.cont=>∃a c,Inv X b a c d/\D.ct a c
 |.ret u=>∃v a c,Inv X b a c d/\RelV v u/\D.rt v c
def PE (X:Cx)(e:QQ)(t:TE):Prop:=
 ∀(a:U<|QF×Obj) (s:J0) (b:St) (H:Hp) (Q:VK),Inv X a b H s->t b H Q->QK (J4 X.prog X.w) X.A (QY e X.env) (EP X a b Q) X.xe s
def PT (X:Cx)(e:QQ)(t:TT):Prop:=
 ∀(a:U<|QF×Obj) (s:J0) (b:St) (H:Hp) (Q:QJ->Hp->Prop),Inv X a b H s->t b H Q->QK (J4 X.prog X.w) X.A (RH e X.env<|QY e X.env) (TP X a b Q) X.xe s
def PW (X:Cx)(e:QQ)(t:TT):Prop:=
 ∀(b:Sem B) (a:U<|QF×Obj) (s:J0) (c:St) (H:Hp) (Q:QJ->Hp->Prop),Inv X a c H s->t c H Q->QK (J4 X.prog X.w) X.A (RH e X.env b) (TP X a c Q) X.xe s
theorem PW.pt {X:Cx}{e:QQ}{t:TT}(h:PW X e t):PT X e t:=h _
def PA (X:Cx)(c:U QQ)(t:TA):Prop:=
 ∀(pos:Pos) (a:U<|QF×Obj) (s:J0) (b:St) (H:Hp) (Q:U V->Hp->Prop),Inv X a b H s->t b H Q->QK (J4 X.prog X.w) X.A (spliced<|Kw pos<|J5 c X.env) (AP X a b Q) X.xe s
def PS (X:Cx)(c:Q0)(t:TS):Prop:=
 ∀(a:U<|QF×Obj) (s:J0) (b:St) (H:Hp) (D:bK),Inv X a b H s->t D b H->QK (J4 X.prog X.w) X.A (exec c X.env) (SP X a D) X.xe s
def PSs (X:Cx)(c:U Q0)(t:TS):Prop:=
 ∀(a:U<|QF×Obj) (s:J0) (b:St) (H:Hp) (D:bK),Inv X a b H s->t D b H->QK (J4 X.prog X.w) X.A (execs c X.env) (SP X a D) X.xe s
theorem thn {c:Type}{t:Sem c}{Q b:c->J0->Prop}{M:Model}{A:Kq}{E:B->J0->Prop}{s:J0}(h:QK M A t Q E s)(d:∀a s,Q a s->b a s):QK M A t b E s:=KG h d λ_ _ x=>x
section
variable {X:Cx}
def ku (i:Y):TE:=λa H Q=>∃v,a[i]?=O (O v)/\Q v H
def tC (v:V):TE:=λ_ H Q=>Q v H
theorem bN {i:Y}{x:Str}{pos:Pos}(k:X.N[i]?=O x)(t:Vis X.env.scope x)(f:(x==("__debug__":Str))=false:=by decide)(d:(x==("__classdict__":Str))=false:=by decide):PE X (.Name x pos) (ku i):=by
 intro b s w H Q I h;obtain⟨v,e,h⟩:=h;obtain⟨m,p,n⟩:=I.loc;obtain⟨u,r,l⟩:=n i x v k e t;have fin:EP X b w Q u s:=⟨v,H,I,r,h⟩;rcases l with⟨hk,o⟩|⟨hk,c,g,a⟩
 .exact wpAny_Name (wpAny_loadName_local I.ok.kind hk p o fin) f
 .rcases hk with hk | hk
  .exact wpAny_Name (wpAny_loadName_cell I.ok.kind hk g a fin) f
  .exact wpAny_Name (wpAny_loadName_free I.ok.kind hk g a fin d) f
theorem De {i j pos}:PE X (.Constant (.int i) j pos) (tC<|.int i):=λ_ _ _ H _ I h=>wpAny_Constant_int ⟨.int i,H,I.tok _,⟨_,rfl⟩,h⟩
theorem EV {b j pos}:PE X (.Constant (.bool b) j pos) (tC<|.bl b):=λ_ _ _ H _ I h=>Constant_bool ⟨.bl b,H,I,rfl,h⟩
theorem DO {j pos}:PE X (.Constant .none j pos) (tC .non):=λ_ _ _ H _ I h=>Constant_none ⟨.non,H,I,rfl,h⟩
theorem C4 {x j pos}:PE X (.Constant (.str x) j pos) (tC<|.str x):=λ_ _ _ H _ I h=>Calls.Constant_str ⟨.str x,H,I.tok _,⟨_,rfl⟩,h⟩
def Gl (X:Cx)(x:Str):Prop:=X.env.kindOf x=O .globalImplicit
theorem yK {E:B->J0->Prop}{a:U<|QF×Obj}{s:J0}{e:St}{H:Hp}{x:Str}{u:B}{pos:Pos}{Q:B->J0->Prop}(I:Inv X a e H s)(c:Gl X x)(d:X.mg x=O u)(h:Q u s)
  (b:(x==("__debug__":Str))=false:=by decide):QK (J4 X.prog X.w) X.A (QY (.Name x pos) X.env) Q E s:=
 Calls.Name_function_global I.ok.kind c (Calls.loadGlobal_global (by rw[I.ok.glob];exact I.mod.glob.keeps I.bk) d h) b
theorem cU {E:B->J0->Prop}{a:U<|QF×Obj}{s:J0}{k:St}{H:Hp}{x:Str}{u:B}{pos:Pos}{Q:B->J0->Prop}(I:Inv X a k H s)(e:Gl X x)(f:X.mg x=J)(i:L6 x=O u)(h:Q u s)
  (g:x≠"__name__":=by decide) (d:(x==("__debug__":Str))=false:=by decide):QK (J4 X.prog X.w) X.A (QY (.Name x pos) X.env) Q E s:=by
 obtain⟨l,b,c⟩:=I.mod.blt;exact Calls.Name_function_global I.ok.kind e (Calls.loadGlobal_builtin (by rw[I.ok.glob];exact I.mod.glob.keeps I.bk) f (by rw[I.ok.blt];exact b.keeps I.bk) ((c x g).trans i) h) d
theorem Av {x:Str}{v:V}{u:B}{pos:Pos}(b:Gl X x)(c:X.mg x=J)(e:L6 x=O u)(r:RelV v u)(d:x≠"__name__":=by decide)(a:(x==("__debug__":Str))=false:=by decide):PE X (.Name x pos) (tC v):=
 λ_ _ _ H _ I h=>cU I b c e ⟨v,H,I,r,h⟩ d a
variable {a b:QQ}{ta tb:TE}{pos:Pos}
def PC (X:Cx)(op:CmpOp)(a b:QQ)(t:TE):Prop:=
 ∀(c:U<|QF×Obj) (s:J0) (f:St) (H:Hp) (Q:VK),Inv X c f H s->t f H Q ->
  QK (J4 X.prog X.w) X.A (QY a X.env) (λv d=>QK (J4 X.prog X.w) X.A (QY b X.env) (λu e=>QK (J4 X.prog X.w) X.A (Lh op v u) (EP X c f Q) X.xe e) X.xe d) X.xe s
noncomputable def tB (t:TE):TT:=λe H Q=>t e H λx d=>∃c,x=.bl c/\Q c d
variable {tA tB':TT}{rest:U QQ}
noncomputable def HE (t u:TT):TT:=λe H Q=>t e H λc d=>if c=JZ then u e d Q else Q JY d
noncomputable def tOr (t u:TT):TT:=λe H Q=>t e H λc d=>if c=JZ then Q JZ d else u e d Q
def FK (t:TT):TT:=λe H Q=>t e H λc d=>Q (!c) d
theorem zK (f:PT X a tA):PW X (.BoolOp .And [a] pos) tA:=by
 intro k d s g H Q I h;refine isTrue_and<|thn (f d s g H Q I h) λc i e=>?_;cases c with
 |true=>exact isTrue_and_nil e
 |false=>exact e
theorem C5 (f:PT X a tA):PW X (.BoolOp .Or [a] pos) tA:=by
 intro k d s g H Q I h;refine isTrue_or<|thn (f d s g H Q I h) λc i e=>?_;cases c with
 |false=>exact isTrue_or_nil e
 |true=>exact e
theorem DT (i:PT X a tA)(k:PW X (.BoolOp .And (b::rest) pos) tB'):PW X (.BoolOp .And (a::b::rest) pos) (HE tA tB'):=by
 intro m d s g H Q I h;refine isTrue_and<|thn (i d s g H _ I h) λc l ⟨e,I1,f⟩=>?_;cases c with
 |true=>exact k m d l g e Q I1 f
 |false=>exact⟨e,I1,f⟩
theorem GR (i:PT X a tA)(k:PW X (.BoolOp .Or (b::rest) pos) tB'):PW X (.BoolOp .Or (a::b::rest) pos) (tOr tA tB'):=by
 intro m d s g H Q I h;refine isTrue_or<|thn (i d s g H _ I h) λc l ⟨e,I1,f⟩=>?_;cases c with
 |true=>exact⟨e,I1,f⟩
 |false=>exact k m d l g e Q I1 f
theorem BH (f:PT X a tA):PT X (.UnaryOp .Not a pos) (FK tA):=by intro d s g H Q I h;exact isTrue_not<|f d s g H (λc e=>Q (!c) e) I h
theorem Ea {op}{t:TE}(h:PE X a t):PE X (.BoolOp op [a] pos) t:=λc s e H Q I d=>BoolOp_one<|h c s e H Q I d
noncomputable def tIf (t:TT)(ta tb:TE):TE:=λd H Q=>t d H λc e=>if c=JZ then ta d e Q else tb d e Q
theorem rM {c:QQ}(n:PT X c tA)(l:PE X a ta)(m:PE X b tb):PE X (.IfExp c a b pos) (tIf tA ta tb):=by
 intro e s f H Q I h;refine wpAny_IfExp<|thn (n e s f H _ I h) λd k ⟨g,I1,i⟩=>?_;cases d with
 |true=>exact l e k f g Q I1 i
 |false=>exact m e k f g Q I1 i
end
def SqL (K:J2)(H:Hp)(a:QF)(c:U V):Prop:=
 Rd H a (.lst c) \/
  ∃(o:Obj) (b:QT B) (n:Y),K.lookup a=O o/\o.cls=.type "list"/\o.dict=J/\o.data=.seq b n/\b.size<=sizeLine/\Vals c b.toList
def SqT (K:J2)(H:Hp)(a:QF)(c:U V):Prop:=
 Rd H a (.tup c) \/
  ∃(o:Obj) (b:QT B) (n:Y),K.lookup a=O o/\o.cls=.type "tuple"/\o.data=.seq b n/\b.size<=sizeLine/\Vals c b.toList
def JH:B->j V
|.none=>O .non
|.bool b=>O<|.bl b
|.int i _=>O<|.int i
|.str x _=>O<|.str x
|.bytes b _=>O<|.byt b
|.float b _=>O<|.flt b
|.ref a=>O<|.ref a
|.type n=>O<|.ty n
|_=>J
theorem RelV.abs {x:V}{u:B}(r:RelV x u):JH u=O x:=by
 cases x with
 |non=>cases r;rfl
 |bl _=>cases r;rfl
 |int _=>obtain⟨t,rfl⟩:=r;rfl
 |str _=>obtain⟨t,rfl⟩:=r;rfl
 |byt _=>obtain⟨t,rfl⟩:=r;rfl
 |flt _=>obtain⟨t,rfl⟩:=r;rfl
 |ref _=>cases r;rfl
 |ty _=>cases r;rfl
theorem RelV.inj {x y:V}{u:B}(r:RelV x u)(q:RelV y u):x=y:=KH<|r.abs.symm.trans q.abs
theorem Vals.inj:∀{b c:U V} {a:U B},Vals b a->Vals c a->b=c
|_,_,_,.nil,.nil=>rfl
|_,_,_,.cons r t,.cons d e=>by rw[r.inj d,Vals.inj t e]
section
variable {X:Cx}{pins:U (QF×Obj)}{σ:St}{H:Hp}{s:J0}{a:QF}{xs ys:U V}
theorem SqL.of {K:J2}(h:H a=O (.lst xs)):SqL K H a xs:=.inl<|.inl h
theorem SqT.of {K:J2}(h:H a=O (.tup xs)):SqT K H a xs:=.inl<|.inl h
theorem Inv.list (I:Inv X pins σ H s)(h:SqL X.K H a xs):∃b:U B,Vals xs b/\PlainL s.heap a b.toArray/\xs.length<=sizeLine:=by
 rcases h with h|⟨o,b,n,hk,hc,hd,hs,hz,r⟩
 .obtain ⟨z,b,n,r,e⟩:=h.ok I.hok;exact⟨b,r,⟨_,n,e,rfl,rfl,rfl⟩,z⟩
 .refine ⟨b.toList,r,⟨o,n,I.kIn a o hk,hc,hd,by simpa using hs⟩,?_⟩;have e:=r.length;simp only[KD] at e;lia
theorem Inv.tuple (I:Inv X pins σ H s)(h:SqT X.K H a xs):∃b:U B,Vals xs b/\RG s.heap a b.toArray/\xs.length<=sizeLine:=by
 rcases h with h|⟨o,b,n,hk,hc,hs,hz,r⟩
 .obtain ⟨z,b,r,p⟩:=h.ok I.hok;exact⟨b,r,p,z⟩
 .refine ⟨b.toList,r,⟨o,I.kIn a o hk,hc,n,by simpa using hs⟩,?_⟩;have e:=r.length;simp only[KD] at e;lia
theorem Inv.list_inj (I:Inv X pins σ H s)(h:SqL X.K H a xs)(k:SqL X.K H a ys):xs=ys:=by
 obtain⟨c,r,⟨o,n,e,_,_,d⟩,_⟩:=I.list h;obtain⟨b,l,⟨p,m,g,_,_,f⟩,_⟩:=I.list k;rw[e] at g;cases g;rw[d] at f;injection f with i _
 have:c=b:=by simpa using QW Pa i
 subst this;exact r.inj l
theorem Inv.tuple_inj (I:Inv X pins σ H s)(h:SqT X.K H a xs)(k:SqT X.K H a ys):xs=ys:=by
 obtain⟨c,r,⟨o,e,_,n,d⟩,_⟩:=I.tuple h;obtain⟨b,l,⟨p,g,_,m,f⟩,_⟩:=I.tuple k;rw[e] at g;cases g;rw[d] at f;injection f with i _
 have:c=b:=by simpa using QW Pa i
 subst this;exact r.inj l
end
abbrev Cx.wish (X:Cx)(E:B->J0->Prop):Cx:={X with xe:=E}
abbrev Cx.nox (X:Cx):Cx:=X.wish λ_ _=>QX
theorem Cx.Ok.wish {X:Cx}(ok:X.Ok)(E:B->J0->Prop):(X.wish E).Ok:=
 ⟨ok.mod,ok.kind,ok.glob,ok.blt,ok.above,ok.inj,ok.has,ok.cab,ok.hd,ok.frames,ok.stk,ok.exf,ok.bs,ok.bsz,ok.noex,ok.exfs,ok.funs,ok.frf⟩
theorem Cx.Ok.unwish {X:Cx}{E:B->J0->Prop}(ok:(X.wish E).Ok):X.Ok:=
 ⟨ok.mod,ok.kind,ok.glob,ok.blt,ok.above,ok.inj,ok.has,ok.cab,ok.hd,ok.frames,ok.stk,ok.exf,ok.bs,ok.bsz,ok.noex,ok.exfs,ok.funs,ok.frf⟩
section
variable {X:Cx}{pins:U (QF×Obj)}{σ:St}{H:Hp}{s:J0}{E:B->J0->Prop}
theorem Inv.wish (I:Inv X pins σ H s)(E:B->J0->Prop):Inv (X.wish E) pins σ H s:=⟨I.ok.wish E,I.os,I.bare,I.base,I.loc,I.cell,I.free,I.freeC,I.pin,I.hok,I.len⟩
theorem Inv.unwish (I:Inv (X.wish E) pins σ H s):Inv X pins σ H s:=⟨I.ok.unwish,I.os,I.bare,I.base,I.loc,I.cell,I.free,I.freeC,I.pin,I.hok,I.len⟩
theorem SP.unwish {D:bK}{f:Flow}{c:J0}(h:SP (X.wish E) pins D f c):SP X pins D f c:=by
 cases f with
 |next=>obtain⟨a,b,I,q⟩:=h;exact⟨a,b,I.unwish,q⟩
 |brk=>obtain⟨a,b,I,q⟩:=h;exact⟨a,b,I.unwish,q⟩
 |cont=>obtain⟨a,b,I,q⟩:=h;exact⟨a,b,I.unwish,q⟩
 |ret u=>obtain⟨v,a,b,I,r,q⟩:=h;exact⟨v,a,b,I.unwish,r,q⟩
theorem PSs.nox {a:U Q0}{t:TS}(h:PSs X.nox a t):PSs X a t:=λpins s σ H D I b=>
 KG (h pins s σ H D (I.wish _) b) (λ_ _ q=>q.unwish) λ_ _ z=>LI z
end
section
variable {X:Cx}{st:Q0}{rest:U Q0}{t u:TS}{e:QQ}{te:TE}{pos:Pos}
def AI:TS:=λD a H=>D.nx a H
def F3 (t u:TS):TS:=λD a H=>t {D with nx:=u D} a H
theorem ye:PSs X [] AI:=λ_ _ a H _ I h=>Nr ⟨a,H,I,h⟩
theorem tZ (g:PS X st t)(i:PSs X rest u):PSs X (st::rest) (F3 t u):=by
 intro a s l H D I h;refine wpAny_execs_cons<|thn (g a s l H {D with nx:=u D} I h) λf k q=>?_;cases f with
 |next=>obtain⟨b,c,d,q⟩:=q;exact i a k b c D d q
 |ret v=>exact q
 |brk=>exact q
 |cont=>exact q
theorem zk (b:PS X st t):PSs X [st] t:=by
 intro a s c H D I h;refine wpAny_execs_cons<|thn (b a s c H D I h) λf d q=>?_;cases f with
 |next=>exact Nr q
 |ret v=>exact q
 |brk=>exact q
 |cont=>exact q
theorem Inv.quiet {a:U<|QF×Obj}{b:St}{H:Hp}{s:J0}(I:Inv X a b H s):interactive X.env=false:=by simp[interactive,I.ok.kind]
def HG (te:TE):TS:=λD a H=>te a H λ_ b=>D.nx a b
theorem pD (d:PE X e te)(f:Lg e J pos.line X.env=pure false:=by rfl):PS X (.Expr e pos) (HG te):=by intro a s b H D I h;exact wpAny_Expr_any (thn (d a s b H _ I h) λv k ⟨x,c,I1,i,g⟩=>⟨b,c,I1,g⟩) I.quiet f
def GN (te:TE):TS:=λD a H=>te a H D.rt
theorem Eb (d:PE X e te):PS X (.Return (O e) pos) (GN te):=by intro a s b H D I h;exact wpAny_Return_some<|thn (d a s b H _ I h) λv i ⟨x,c,I1,g,f⟩=>⟨x,b,c,I1,g,f⟩
noncomputable def Hu (c:TT)(t u:TS):TS:=λD a H=>c a H λb d=>if b=JZ then t D a d else u D a d
theorem Hg {c:QQ}{a b:U Q0}{m:TT}(p:PT X c m)(n:PSs X a t)(o:PSs X b u):PS X (.If c a b pos) (Hu m t u):=by
 intro f s g H D I h;refine wpAny_If<|thn (p f s g H _ I h) λd l ⟨i,I1,k⟩=>?_;cases d with
 |true=>exact n f l g i D I1 k
 |false=>exact o f l g i D I1 k
end
abbrev TG:=V->St->Hp->(St->Hp->Prop)->Prop
abbrev TGs:=U V->St->Hp->(St->Hp->Prop)->Prop
def PG (X:Cx)(a:QQ)(t:TG):Prop:=
 ∀(b:U<|QF×Obj) (s:J0) (e:St) (H:Hp) (v:V) (u:B) (Q:St->Hp->Prop),Inv X b e H s->RelV v u->t v e H Q ->
  QK (J4 X.prog X.w) X.A (Ln a X.env u) (λ_ f=>∃c d,Inv X b c d f/\Q c d) X.xe s
def PGs (X:Cx)(h:U QQ)(t:TGs):Prop:=
 ∀(a:U<|QF×Obj) (s:J0) (f:St) (H:Hp) (e:U V) (d:U B) (Q:St->Hp->Prop),Inv X a f H s->Vals e d->t e f H Q ->
  QK (J4 X.prog X.w) X.A (assignInOrder ((Mh h X.env).map (·.2)) d) (λ_ g=>∃b c,Inv X a b c g/\Q b c) X.xe s
abbrev D7:=V->V->V->Hp->(Hp->Prop)->Prop
def ES (X:Cx)(t:D7):Prop:=
 ∀(a:U<|QF×Obj) (s:J0) (d:St) (H:Hp) (o i v:V) (c iv u:B) (Q:Hp->Prop),Inv X a d H s->RelV o c->RelV i iv->RelV v u->t o i v H Q ->
  QK (J4 X.prog X.w) X.A (setItem c iv u) (λ_ e=>∃b,Inv X a d b e/\Q b) X.xe s
section
variable {X:Cx}{pos:Pos}
def cu (i:Y):TG:=λv a H Q=>Q (a.set i<|O v) H
theorem dH {i:Y}{x:Str}(c:X.N.Nodup)(e:X.N[i]?=O x)(hx:Loc X.env.scope x)(d:X.fn x=JZ\/X.env.scope.names.lookup x=O .local:=by first|exact .inl rfl|exact .inr rfl|assumption):PG X (.Name x pos) (cu i):=by intro a s g H v u Q I r h;exact wpAny_assign_Name<|lu I c e hx r (λf b=>⟨_,H,b,h⟩) d
def xU:TGs:=λa b H Q=>a=[]/\Q b H
noncomputable def gz (t:TG)(u:TGs):TGs:=λc d H Q=>∃v r,c=v::r/\t v d H λa b=>u r a b Q
theorem om:PGs X [] xU:=by intro a s b H d c Q I r h;obtain⟨e,h⟩:=h;subst e;cases r;exact assignInOrder_nil ⟨b,H,I,h⟩
theorem eU {e:QQ}{b:U QQ}{t:TG}{u:TGs}(f:PG X e t)(g:PGs X b u)
  (i:(Mh (e::b) X.env).map (·.2)=Ln e X.env::(Mh b X.env).map (·.2):=by rfl):PGs X (e::b) (gz t u):=by
 intro a s n H w o Q I r h;obtain⟨v,p,e1,h⟩:=h;subst e1;cases r with
 |cons r l=>rw[i];refine assignInOrder_cons<|thn (f a s n H _ _ _ I r h) λ_ m ⟨c,d,I1,k⟩=>?_;exact g a m c d _ _ Q I1 l k
def zB (K:J2)(n:Y)(t:TGs):TG:=λv c H Q=>∃a b,v=.ref a/\SqT K H a b/\b.length=n/\t b c H Q
theorem uk {d:U QQ}{k:Y}{t:TGs}{n:Y}(p:X.calm=JZ)(h:PGs X d t)
  (x:(Mh d X.env).length=n:=by rfl) (f:(Mh d X.env).findIdx? (·.1)=none:=by rfl):PG X (.Tuple d k pos) (zB X.K n t):=by
 intro c s l H v u Q I r g;obtain⟨a,D,e1,y,w,g⟩:=g;subst e1;cases r;obtain⟨A,i,z,F⟩:=I.tuple y;refine assign_Tuple_tuple (I.ok.hd p) z (by simp[x,<- w,i.length]) f λm hx=>?_;have I1:Inv X c l H {s with heap:=m}:=I.kept (t':=s.toks) λb o e=>hx b o (Km<|Heap.lt_size e) e;exact h c _ l H D _ Q I1 (by simpa using i) g
noncomputable def Ji (to e:TE)(t:D7):TG:=λv a H Q=>to a H λo b=>e a b λi c=>t o i v c λd=>Q a d
theorem BO {o i:QQ}{to d:TE}{t:D7}(ho:PE X o to)(m:PE X i d)(n:ES X t)
  (l:∀ v,Ln (.Subscript o i pos) X.env v=(do
   let b <- L1 [v] (QY o X.env);let iv <- L1 [v,b] (QY i X.env)
   standAt pos
   L1 [v,b,iv] (setItem b iv v)
   release [v,b,iv] []):=by intro _;rfl):PG X (.Subscript o i pos) (Ji to d t):=by
 intro a s c H v u Q I r h;rw[l];refine J1<|K2<|thn (ho a s c H _ I h) λb F ⟨x,e,I1,A,p⟩=>?_;refine J1<|K2<|thn (m a F c e _ I1 p) λiv G ⟨y,f,I2,D,w⟩=>?_;refine J1<|Nh<|J1<|K2<|thn (n a G c f x y v b iv u _ I2 A D r w) λ_ L ⟨g,k,z⟩=>?_;exact wpAny_release ⟨c,g,k,z⟩
def nq (c:TE)(g:TG):TS:=λD a H=>c a H λx b=>g x a b D.nx
theorem r6 {b e:QQ}{c:TE}{g:TG}(k:PE X e c)(l:PG X b g)(m:Rl [b] e pos.line X.env=pure false:=by rfl)(n:Rn [b] e X.env=pure none:=by rfl)
  (i:(Mh [b] X.env).map (·.2)=[Ln b X.env]:=by rfl):PS X (.Assign [b] e pos) (nq c g):=by
 intro a s d H D I h;refine wpAny_Assign_stores (thn (k a s d H _ I h) λv r ⟨x,f,I1,p,o⟩=>?_) m n;rw[i];exact thn (l a r d f x v _ I1 p o) λ_ t q=>q
theorem Bq {i:Y}{x:Str}{e:QQ}{c:TE}{a:Pos}(f:X.N.Nodup)(l:X.N[i]?=O x)(hx:Loc X.env.scope x)(g:PE X e c)(m:Lg e (O<|.Name x a) pos.line X.env=pure false:=by rfl)(k:X.fn x=JZ\/X.env.scope.names.lookup x=O .local:=by first|exact .inl rfl|exact .inr rfl|assumption):
  PS X (.Assign [.Name x a] e pos) (nq c<|cu i):=by
 intro b s p H D I h;refine wpAny_Assign_Name (thn (g b s p H _ I h) λv r ⟨y,d,I1,o,n⟩=>?_) m;exact lu I1 f l hx o (λt I2=>⟨_,d,I2,n⟩) k
end
section
variable {X:Cx}{pos:Pos}
noncomputable def uI (c:TT)(h:TS):TS:=λD a H=>∃W:Y->St->Hp->Prop,(∃m,W m a H)/\∀m a H,W m a H ->
 c a H λb f=>if b=JZ then∃N:St->Hp->Prop,(∀d e,N d e->∃g,g<m/\W g d e)/\h {D with nx:=N,ct:=N,bk:=D.nx} a f else D.nx a f
theorem uw {c:QQ}{g:U Q0}{L:TT}{G:TS}(hp:MP (J4 X.prog X.w) X.A X.env X.xe)(P:PT X c L)(M:PSs X g G):PS X (.While c g [] pos) (uI L G):=by
 intro a s σ H D I h;obtain⟨W,⟨Q,w0⟩,turn⟩:=h;refine wpAny_While<|codeAny_whileLoop (λn Z=>∃k x,Inv X a k x Z/\W n k x) ?_ Q ⟨σ,H,I,w0⟩;rintro n s1 ⟨e,y,I1,w1⟩;refine Mg hp<|thn (P a s1 e y _ I1<|turn n e y w1) λb s2 ⟨z,I2,l⟩=>?_;cases b with
 | true =>
  obtain⟨N,F,l⟩:=l;rw[QG rfl];refine Mg hp<|thn (M a s2 e z _ I2 l) λf s3 m=>?_;cases f with
  |next=>obtain⟨d,i,o,t⟩:=m;obtain⟨r,p,u⟩:=F d i t;exact⟨r,p,d,i,o,u⟩
  |cont=>obtain⟨d,i,o,t⟩:=m;obtain⟨r,p,u⟩:=F d i t;exact⟨r,p,d,i,o,u⟩
  |brk=>exact m
  |ret v=>exact m
 |false=>rw[QH Kv];exact Nr ⟨e,z,I2,l⟩
end
structure It where
 go:Y->Hp->Prop
 yld:Y->Hp->V->Hp->Prop
 stop:Y->Hp->Prop
def iy (X:Cx)(a:U<|QF×Obj)(H:Hp)(b:QF):Prop:=
 H b=J/\b≠X.env.locals/\b ∉ X.fs/\(b∈X.ex\/X.s₀.heap.objs.size<=b)/\(∀x c,X.env.cells.lookup x=O c->c≠b)/\∀p∈X.pn++a,p.1≠b
theorem Inv.fpOk {X:Cx}{a:U<|QF×Obj}{h:St}{H f:Hp}{s:J0}{b:QF}(I:Inv X a h H s)(d:s.heap.objs.size<=b)(g:f b=J):iy X a f b:=by
 refine⟨g,LF<|KL I.lt d,I.nofs d,.inr<|Ky I.sz d,λx c e z=>?_,λp hp z=>?_⟩
 .obtain ⟨v,q⟩:=I.cell x c e;exact QL (KL q.lt<|by rw[z];exact d)<|Lp _
 .exact QL (KL (Heap.lt_size (I.pin p hp).1)<|by rw[z];exact d) (Lp _)
structure sF (P:QN)(w:J8)(K:J2)(tg:QQ)(J:It)(fp:U QF)(it:QF)(tn:Y->QS->Prop):Prop where
 mem:it∈fp
 obj:∀i h,tn i h->∀b∈fp,∃o,h.get? b=O o/\∀v,o.data≠.cell v
 keep:∀i h h',tn i h->(∀b∈fp,∀o,h.get? b=O o->h'.get? b=O o)->tn i h'
 item:∀(X:Cx),X.prog=P->X.w=w->X.K=K->X.calm=JZ->∀(i:Y) (pins:U (QF×Obj)) (s:J0) (σ:St) (H:Hp) (E:B->J0->Prop),Inv X pins σ H s->(∀b∈fp,iy X pins H b)->tn i s.heap->J.go i H ->
  QK (J4 P w) X.A (LL (.ref it)) (λr s1=>∃u,r=O u /\
   QK (J4 P w) X.A (My tg (.ref it) u) (λ_ s2=>∃x H',Inv X pins σ H' s2/\RelV x u/\J.yld i H x H'/\tn (i+1) s2.heap/\∀b∈fp,H' b=JX) E s1) E s
 done:∀(X:Cx),X.prog=P->X.w=w->X.K=K->X.calm=JZ->∀(i:Y) (pins:U (QF×Obj)) (s:J0) (σ:St) (H:Hp) (E:B->J0->Prop),Inv X pins σ H s->(∀b∈fp,iy X pins H b)->tn i s.heap->J.stop i H ->
  QK (J4 P w) X.A (LL (.ref it)) (λr s1=>r=JX/\Inv X pins σ H s1) E s
 self:∀(A:Kq) (i:Y) (s:J0) (Q:B->J0->Prop) (E:B->J0->Prop),tn i s.heap->Q (.ref it) s->QK (J4 P w) A (RI (.ref it)) Q E s
abbrev TI:=St->Hp->(It->Hp->Prop)->Prop
def PIE (X:Cx)(c:U<|QF×Obj)(k:St)(i:QQ)(R:It->Hp->Prop)(e:B)(h:J0):Prop:=
 ∃(g:QF) (f:U QF) (tn:Y->QS->Prop) (a:It) (d:Hp),e=.ref g/\Inv X c k d h/\sF X.prog X.w X.K i a f g tn/\tn 0 h.heap/\(∀b∈f,iy X c d b)/\R a d
def PI (X:Cx)(e b:QQ)(f:TI):Prop:=
 ∀(a:U<|QF×Obj) (s:J0) (c:St) (H:Hp) (R:It->Hp->Prop),Inv X a c H s->f c H R ->
  QK (J4 X.prog X.w) X.A (QY b X.env) (λv d=>QK (J4 X.prog X.w) X.A (RI v) (PIE X a c e R) X.xe d) X.xe s
theorem uO {M:Model}{A:Kq}{E:B->J0->Prop}{s:J0}{c:QQ}{b:QF}{u:B}{o:Obj}{n:QZ}{d:QT B}{Q:Unit->J0->Prop}(ho:s.heap.get? b=O o)(e:o.cls=.type n)(f:o.data=.fields d)
  (g:["enumerate","zip","dict_itemiterator","dict_reverseitemiterator","odict_iterator","itertools.zip_longest","itertools.pairwise"].contains n=JY) (a:Q () s):QK M A (My c (.ref b) u) Q E s:=by
 unfold My
 cases c<;>first
  |exact J7 a
  | (cases u<;>first
    |exact J7 a
    | (refine J1 (wpAny_load ho ?_)
       rw[e,f];show QK M A (if(["enumerate","zip","dict_itemiterator","dict_reverseitemiterator","odict_iterator","itertools.zip_longest","itertools.pairwise"].contains n&&d[0]?==O (Kr _))=JZ then _ else _) Q E s;rw[QH<|by intro h;rw[g,M3] at h;cases h];exact J7 a))
def Itl (K:J2)(a:QF):It:=
 ⟨λi H=>∃b x,SqL K H a b/\b[i]?=O x,λi H x c=>c=H/\∀b,SqL K H a b->b[i]?=O x,λi H=>∃b,SqL K H a b/\b.length<=i⟩
def Itt (K:J2)(a:QF):It:=
 ⟨λi H=>∃b x,SqT K H a b/\b[i]?=O x,λi H x c=>c=H/\∀b,SqT K H a b->b[i]?=O x,λi H=>∃b,SqT K H a b/\b.length<=i⟩
def Itr (lo:Int)(n:Y):It:=⟨λi _=>i<n,λi H x a=>a=H/\x=.int (lo+i),λi _=>n<=i⟩
theorem qc {P:QN}{w:J8}{K:J2}{tg:QQ}(a m:QF):sF P w K tg (Itl K a) [m] m (λi h=>h.IsListIter m a i) where
 mem:=by simp
 obj:=λi h f b l=>by
  have e:b=m:=by simpa using l
  subst e;obtain⟨o,e,c,d⟩:=f;exact⟨o,e,λv z=>by rw[d] at z;cases z⟩
 keep:=λi h r f k=>f.at λo e=>k m (by simp) o e
 item:=by intro X N Z M hc i g s σ H E I t f Q;subst N Z M;obtain⟨xs,x,y,hx⟩:=Q;obtain⟨its,rv,p,hz⟩:=I.list y;obtain⟨u,hu,ru⟩:=rv.get hx;obtain⟨A,D,f2,F,G,L⟩:=t m (by simp);refine Rb f p.isList (x:=u) (by simpa using hu) λr n sb=>?_;have I1:Inv X g σ H {s with heap:=r}:=I.turned (t':=s.toks) (λb o l e=>(sb.2 b l).trans e) A D F G L;obtain⟨o,e,c,d⟩:=id n;exact⟨u,rfl,uO (s:={s with heap:=r}) e c d (by decide) ⟨x,H,I1,ru,⟨rfl,λys hy=>by rw[I.list_inj hy y];exact hx⟩,n,λb l=>(t b l).1⟩⟩
 done:=by intro X N Z M hc i g s σ H E I t f Q;subst N Z M;obtain⟨xs,y,hx⟩:=Q;obtain⟨its,rv,p,hz⟩:=I.list y;obtain⟨A,D,f2,F,G,L⟩:=t m (by simp);have hl:=rv.length;exact Rg (I.ok.hd hc) f p.isList (by simp;lia) λr eb=>⟨rfl,I.turned (t':=s.toks) (λb o l e=>eb b o l e) A D F G L⟩
 self:=λ_ _ _ _ _ f h=>wpAny_pyIter_listiter f h
theorem nB {P:QN}{w:J8}{K:J2}{tg:QQ}(a m:QF):sF P w K tg (Itt K a) [m] m (λi h=>h.IsTupleIter m a i) where
 mem:=by simp
 obj:=λi h f b l=>by
  have e:b=m:=by simpa using l
  subst e;obtain⟨o,e,c,d⟩:=f;exact⟨o,e,λv z=>by rw[d] at z;cases z⟩
 keep:=λi h t f k=>f.at λo e=>k m (by simp) o e
 item:=by intro X Q hw N hc i g s σ H E I y f Z;subst Q hw N;obtain⟨xs,x,A,hx⟩:=Z;obtain⟨n,rv,p,hz⟩:=I.tuple A;obtain⟨u,hu,ru⟩:=rv.get hx;obtain⟨D,F,f2,G,L,M⟩:=y m (by simp);refine wpAny_pyNext_tuple_item f (show s.heap.IsTuple a n.toArray from p) (x:=u) (by simpa using hu) λt r sb=>?_;have I1:Inv X g σ H {s with heap:=t}:=I.turned (t':=s.toks) (λb o l e=>(sb.2 b l).trans e) D F G L M;obtain⟨o,e,c,d⟩:=id r;exact⟨u,rfl,uO (s:={s with heap:=t}) e c d (by decide) ⟨x,H,I1,ru,⟨rfl,λys hy=>by rw[I.tuple_inj hy A];exact hx⟩,r,λb l=>(y b l).1⟩⟩
 done:=by intro X Q hw N hc i g s σ H E I y f Z;subst Q hw N;obtain⟨xs,A,hx⟩:=Z;obtain⟨n,rv,p,hz⟩:=I.tuple A;obtain⟨D,F,f2,G,L,M⟩:=y m (by simp);have hl:=rv.length;exact wpAny_pyNext_tuple_end (I.ok.hd hc) f (show s.heap.IsTuple a n.toArray from p) (by simp;lia) λt eb=>⟨rfl,I.turned (t':=s.toks) (λb o l e=>eb b o l e) D F G L M⟩
 self:=λ_ _ _ _ _ f h=>wpAny_pyIter_tupleiter f h
theorem mH {P:QN}{w:J8}{K:J2}{tg:QQ}(c:QF)(lo:Int)(n:Y):sF P w K tg (Itr lo n) [c] c (λi h=>IsRangeIter h c (lo+(i:Y) * 1) ((n:Int)-(i:Y)) 1) where
 mem:=by simp
 obj:=λi h a b f=>by
  have e:b=c:=by simpa using f
  subst e
  exact⟨_,a,λv z=>by
   have z':Data.fields _=Data.cell v:=z;cases z'⟩
 keep:=λi h l a k=>k c (by simp) _ a
 item:=by intro X D L A F i d s M H E I m a G;subst D L A;obtain⟨p,r,Q,u,x,y⟩:=m c (by simp);have W:=Walks.range (prog:=X.prog) (w:=X.w) (I.ok.hd F) c lo 1 n;refine W.item i s _ _ G a λv l tk Z g kk=>?_;obtain⟨t,rfl⟩:=Z;have I1:Inv X d M H {s with heap:=l,toks:=tk}:=I.turned (λb o f e=>kk b o (by simpa using f) e) p r u x y;refine⟨_,rfl,uO (s:={s with heap:=l,toks:=tk}) (n:="range_iterator") g rfl rfl (by decide) ⟨.int<|lo+i,H,I1,⟨t,?_⟩,⟨rfl,rfl⟩,g,λb f=>(m b f).1⟩⟩;rw[Int.mul_one]
 done:=by intro X D L A F i d s M H E I m a G;subst D L A;obtain⟨p,r,Q,u,x,y⟩:=m c (by simp);exact wpAny_pyNext_range_end (I.ok.hd F) a (by have:n<=i:=G;lia) λl N=>⟨rfl,I.turned (t':=s.toks) (λb o f e=>N b o f e) p r u x y⟩
 self:=λ_ _ _ _ _ a h=>wpAny_pyIter_rangeiter a h
section
variable {X:Cx}{tg:QQ}
def kO (K:J2)(c:TE):TI:=λe H R=>c e H λx b=>∃a,x=.ref a/\(∃d,SqL K b a d)/\R (Itl K a) b
def Hj (K:J2)(c:TE):TI:=λe H R=>c e H λx b=>∃a,x=.ref a/\(∃d,SqT K b a d)/\R (Itt K a) b
theorem jq {l:QQ}{f:TE}(k:PE X l f):PI X tg l (kO X.K f):=by
 intro c s u H R I h;refine thn (k c s u H _ I h) λv d ⟨x,g,I1,t,r⟩=>?_;obtain⟨a,e,⟨z,m⟩,q⟩:=r;subst e;cases t;obtain⟨n,y,p,w⟩:=I1.list m;refine MX p.isList ?_;refine⟨d.heap.objs.size,[d.heap.objs.size],_,_,g,rfl,I1.kept (t':=d.toks) λb o e=>Heap.get?_push_of_some _ e,qc a _,⟨_,Heap.get?_push_size _ rfl,rfl,rfl⟩,λb i=>?_,q⟩;have e:b=d.heap.objs.size:=by simpa using i
 subst e;exact I1.fpOk (J9 _)<|I1.hok.fresh<|J9 _
theorem DX {l:QQ}{g:TE}(m:PE X l g):PI X tg l (Hj X.K g):=by
 intro c s u H R I h;refine thn (m c s u H _ I h) λv d ⟨x,i,I1,t,r⟩=>?_;obtain⟨a,e,⟨z,n⟩,q⟩:=r;subst e;cases t;obtain⟨f,y,p,w⟩:=I1.tuple n;refine wpAny_pyIter_tuple (show d.heap.IsTuple a f.toArray from p) ?_;refine⟨d.heap.objs.size,[d.heap.objs.size],_,_,i,rfl,I1.kept (t':=d.toks) λb o e=>Heap.get?_push_of_some _ e,nB a _,⟨_,Heap.get?_push_size _ rfl,rfl,rfl⟩,λb k=>?_,q⟩;have e:b=d.heap.objs.size:=by simpa using k
 subst e;exact I1.fpOk (J9 _)<|I1.hok.fresh<|J9 _
theorem v8 {c:U<|QF×Obj}{d:St}{H:Hp}{s:J0}{R:It->Hp->Prop}{E:B->J0->Prop}{lo a:Int}{t u v:Tok}{tk:Y}(I:Inv X c d H s)(f:-(2 ^ 62)<=lo)(g:lo<2 ^ 62)(h:-(2 ^ 62)<=a)(i:a<2 ^ 62)
  (q:R (Itr lo (a-lo).toNat) H):QK (J4 X.prog X.w) X.A (RI<|.ref s.heap.objs.size) (PIE X c d tg R) E {s with heap:=s.heap.push {cls:=.type "range",data:=.fields #[.int lo t,.int a u,.int 1 v]},toks:=tk}:=by
 refine wpAny_pyIter_range (IsRange.new ..) (small_one f g h i) ?_;have I1:Inv X c d H {s with heap:=s.heap.push {cls:=.type "range",data:=.fields #[.int lo t,.int a u,.int 1 v]},toks:=tk}:=I.kept λb o e=>Heap.get?_push_of_some _ e
 refine⟨(s.heap.push {cls:=.type "range",data:=.fields #[.int lo t,.int a u,.int 1 v]}).objs.size,[(s.heap.push {cls:=.type "range",data:=.fields #[.int lo t,.int a u,.int 1 v]}).objs.size],_,_,H,rfl,
  I1.kept (t':=tk) λb o e=>Heap.get?_push_of_some _ e,mH _ lo (a-lo).toNat,?_,λb k=>?_,q⟩
 .have e1:lo+((0:Y):Int) * 1=lo:=by simp
  have e2:(((a-lo).toNat:Y):Int)-((0:Y):Int)=Builtin.Range.rangeSize lo a 1:=by rw[rangeSize_one];split<;>lia
  show IsRangeIter _ _ (lo+((0:Y):Int) * 1) ((((a-lo).toNat:Y):Int)-((0:Y):Int)) 1;rw[e1,e2];exact Heap.get?_push_size _ rfl
 .have e:b=(s.heap.push { cls:=.type "range",data:=.fields #[.int lo t,.int a u,.int 1 v] }).objs.size:=by simpa using k
  subst e;exact I1.fpOk (J9 _)<|I1.hok.fresh<|J9 _
def AK (c:TA):TI:=λe H R=>c e H λd b=>∃a:Int,d=[.int a]/\-(2 ^ 62)<=a/\a<2 ^ 62/\R (Itr 0 a.toNat) b
theorem qi {a:QQ}{f:TA}{p pos:Pos}(i:Gl X "range")(k:X.mg "range"=J)(g:PA X [a] f)(l:J5 [a] X.env=[(JY,QY a X.env)]:=by rfl):PI X tg (.Call (.Name "range" p) [a] [] pos) (AK f):=by
 intro c s u H R I h;refine Call_<|cU I i k boot_range<|MO (thn (g pos c s u H _ I h) λx w ⟨y,v,I1,n,d⟩=>?_) l rfl;obtain⟨b,e,d,m,q⟩:=d;subst e;cases n with
 |cons r o=>cases o;obtain⟨t,rfl⟩:=r;exact call_range_1<|v8 I1 (by lia) (by lia) d m<|by simpa using q
def FC (n:TI)(g:TG)(l:TS):TS:=λD b H=>n b H λa h=>∃W:Y->Y->St->Hp->Prop,(∃m,W 0 m b h)/\∀i m b H,W i m b H ->
 (a.stop i H/\D.nx b H)\/(a.go i H/\∃N:St->Hp->Prop,(∀d c,N d c->∃f,f<m/\W (i+1) f d c)/\∀x c,a.yld i H x c->g x b c λe k=>l {D with nx:=N,ct:=N,bk:=D.nx} e k)
noncomputable def hU (a:U QF)(h:QS):U (QF×Obj):=a.filterMap λb=>(h.get? b).map λo=>(b,o)
theorem bD {a:U QF}{h:QS}{b:QF}{o:Obj}(c:b∈a)(e:h.get? b=O o):(b,o)∈hU a h:=Pq.mpr ⟨b,c,by rw[e];rfl⟩
theorem pW {a:U QF}{h:QS}{p:QF×Obj}(hp:p∈hU a h):p.1∈a/\h.get? p.1=O p.2:=by
 obtain⟨b,d,e⟩:=Pq.mp hp;cases q:h.get? b with
 |none=>rw[q] at e;cases e
 |some o=>rw[q] at e;have c:(b,o)=p:=KH e;subst c;exact⟨d,q⟩
theorem Inv.pinned {a:U<|QF×Obj}{h:St}{H:Hp}{s:J0}{c:U QF}(I:Inv X a h H s)(m:∀b∈c,iy X a H b)(ho:∀b∈c,∃o,s.heap.get? b=O o/\∀v,o.data≠.cell v):Inv X (a++hU c s.heap) h H s:=
 I.pins_of λp hp=>(KP.mp hp).elim (λz=>I.pin p<|KJ _ z) λz=>by obtain⟨g,e⟩:=pW z;obtain⟨i,k,l,_⟩:=m p.1 g;obtain⟨o,f,d⟩:=ho p.1 g;rw[e] at f;cases f;exact⟨e,i,k,l,d⟩
theorem Inv.unpinned {a c:U<|QF×Obj}{b:St}{H:Hp}{s:J0}(I:Inv X (a++c) b H s):Inv X a b H s:=I.pins_of λp hp=>I.pin p<|KJ _<|LV _ hp
theorem vL {y:QQ}{M:U Q0}{wi:TI}{g:TG}{tb:TS}{pos:Pos}(hp:MP (J4 X.prog X.w) X.A X.env X.xe)(hc:X.calm=JZ)(hi:PI X tg y wi)(hg:PG X tg g)(t:PSs X M tb)
  (hs:∀x,K7 y X.env x=pure x:=by intro _;rfl):PS X (.For tg y M [] pos) (FC wi g tb):=by
 intro c s σ H D I h;refine wpAny_For (thn (hi c s σ H _ I h) λv s1 h1=>thn h1 λitv s2 h2=>?_) hs;obtain⟨it,Z,tn,a,H2,e,I2,T,st2,f2,W,⟨m0,w0⟩,turn⟩:=h2;subst e
 -- what stays JZ of the iterator's objects through the loop
 have z:∀{L:Hp},(∀b∈Z,L b=J)->∀b∈Z,iy X c L b:=λhn b t=>⟨hn b t,(f2 b t).2⟩;refine codeAny_forLoop_any (λn s'=>∃i F L,Inv X c F L s'/\tn i s'.heap/\(∀b∈Z,L b=J)/\W i n F L) ?_ m0 ⟨0,σ,H2,I2,st2,λb t=>(f2 b t).1,w0⟩;rintro n s3 ⟨i,G,H3,I3,st3,fr3,w3⟩;rcases turn i n G H3 w3 with⟨stop,qn⟩|⟨go,N,hN,step⟩
 .refine Mg hp (thn (T.done X rfl rfl rfl hc i c s3 G H3 X.xe I3 (z fr3) st3 stop) fun r s4 ⟨hr,I4⟩=>?_);subst hr;exact Nr ⟨G,H3,I4,qn⟩
 .refine Mg hp (thn (T.item X rfl rfl rfl hc i c s3 G H3 X.xe I3 (z fr3) st3 go) fun r s4 ⟨u,hr,h4⟩=>?_);subst hr;refine Mg hp (thn h4 λ_ s5 ⟨x,H5,I5,r5,y5,Q,fr5⟩=>?_);have I5':=I5.pinned (z fr5) (T.obj _ _ Q);refine Mg hp (thn (hg _ s5 G H5 x u _ I5' r5 (step x H5 y5)) λ_ s6 ⟨σ6,H6,I6,q6⟩=>?_);refine Mg hp (thn (t _ s6 σ6 H6 _ I6 q6) λf s7 P=>?_);have again:∀{k:St} {l:Hp},Inv X (c++hU Z s5.heap) k l s7->N k l->∃m,m<n/\∃i F L,Inv X c F L s7/\tn i s7.heap/\(∀b∈Z,L b=J)/\W i m F L:=λ{k l} p n7=>by obtain⟨m',hm,w7⟩:=hN k l n7;refine⟨m',hm,i+1,k,l,p.unpinned,T.keep _ _ _ Q λb t o e=>(p.pin (b,o) (KJ _ (KJ _ (bD t e)))).1,λb t=>?_,w7⟩;obtain⟨o,e,d⟩:=T.obj _ _ Q b t;exact(p.pin (b,o) (KJ _ (KJ _ (bD t e)))).2.1
  cases f with
  |next=>obtain⟨k,l,p,n7⟩:=P;exact again p n7
  |cont=>obtain⟨k,l,p,n7⟩:=P;exact again p n7
  |brk=>obtain⟨k,l,p,P⟩:=P;exact⟨k,l,p.unpinned,P⟩
  |ret v=>obtain⟨x7,k,l,p,r7,P⟩:=P;exact⟨x7,k,l,p.unpinned,r7,P⟩
end
abbrev R2:=V->V->Hp->VK->Prop
def OpR (X:Cx)(f:B->B->Sem B)(r:R2):Prop:=
 ∀(a:U<|QF×Obj) (s:J0) (b:St) (H:Hp) (x y:V) (v u:B) (Q:VK),Inv X a b H s->RelV x v->RelV y u->r x y H Q ->
  QK (J4 X.prog X.w) X.A (f v u) (EP X a b Q) X.xe s
def UnR (X:Cx)(f:B->Sem B)(r:V->Hp->VK->Prop):Prop:=
 ∀(a:U<|QF×Obj) (s:J0) (b:St) (H:Hp) (x:V) (v:B) (Q:VK),Inv X a b H s->RelV x v->r x H Q ->
  QK (J4 X.prog X.w) X.A (f v) (EP X a b Q) X.xe s
def bI (X:Cx)(f:B)(r:U V->Hp->VK->Prop):Prop:=
 ∀(a:U<|QF×Obj) (s:J0) (d:St) (H:Hp) (c:U V) (b:U B) (Q:VK),Inv X a d H s->Vals c b->r c H Q ->
  QK (J4 X.prog X.w) X.A (call f b) (EP X a d Q) X.xe s
def Jq (X:Cx)(r:V->Hp->(QJ->Hp->Prop)->Prop):Prop:=
 ∀(a:U<|QF×Obj) (s:J0) (b:St) (H:Hp) (x:V) (v:B) (Q:QJ->Hp->Prop),Inv X a b H s->RelV x v->r x H Q ->
  QK (J4 X.prog X.w) X.A (truthy v) (TP X a b Q) X.xe s
noncomputable def tOp (r:R2)(d e:TE):TE:=λa H Q=>d a H λx b=>e a b λy c=>r x y c Q
def tUn (r:V->Hp->VK->Prop)(b:TE):TE:=λc H Q=>b c H λx a=>r x a Q
def rI (C:Int->Int->Prop)(g:Int->Int->V):R2:=λx y H Q=>∃i a,x=.int i/\y=.int a/\C i a/\Q (g i a) H
noncomputable def rI0 (g:Int->Int->V):R2:=λx y H Q=>∃i a,x=.int i/\y=.int a/\Q (g i a) H
def rU (g:Int->V):V->Hp->VK->Prop:=λx H Q=>∃i,x=.int i/\Q (g i) H
section
variable {X:Cx}{a b c:QQ}{ta tb tc:TE}{pos:Pos}
theorem Bp (n:PE X a ta)(o:PE X b tb){d:U<|QF×Obj}{s:J0}{g:St}{H:Hp}{R:V->V->Hp->Prop}(I:Inv X d g H s)
  (h:ta g H λx m=>tb g m λy e=>R x y e) {Q:B->J0->Prop} {f:B->B->Sem B}
  (p:∀v u l x y e,Inv X d g e l->RelV x v->RelV y u->R x y e->QK (J4 X.prog X.w) X.A (f v u) Q X.xe l):
  QK (J4 X.prog X.w) X.A (QY a X.env) (λv i=>QK (J4 X.prog X.w) X.A (QY b X.env) (λu k=>QK (J4 X.prog X.w) X.A (f v u) Q X.xe k) X.xe i) X.xe s:=by
 refine thn (n d s g H _ I h) λv F ⟨x,m,I1,z,r⟩=>?_;refine thn (o d F g m _ I1 r) λu l ⟨y,e,I2,D,t⟩=>?_;exact p v u l x y e I2 z D t
theorem fG {op:Operator}{r:R2}(ho:OpR X (K6 op) r)(f:PE X a ta)(g:PE X b tb):PE X (.BinOp a op b pos) (tOp r ta tb):=by intro d s l H Q I h;exact wpAny_BinOp<|Bp f g I h λv u k x y e I2 rx i q=>ho d k l e x y v u Q I2 rx i q
theorem Hz {op:UnaryOp}{r:V->Hp->VK->Prop}(ho:UnR X (unaryOp op) r)(g:PE X a ta):PE X (.UnaryOp op a pos) (tUn r ta):=by intro d s e H Q I h;exact UnaryOp_<|thn (g d s e H _ I h) λv l ⟨x,f,I1,k,i⟩=>ho d l e f x v Q I1 k i
theorem opI {f:B->B->Sem B}{C:Int->Int->Prop}{g:Int->Int->Int}
  (rule:∀(i d:Int) (t u:Tok) (s:J0) (Q:B->J0->Prop) (E:B->J0->Prop),C i d->Q (.int (g i d) s.toks) {s with toks:=s.toks+1}->QK (J4 X.prog X.w) X.A (f (.int i t)<|.int d u) Q E s):
  OpR X f (rI C λi d=>.int<|g i d):=by
 intro e s n H x y v u Q I rx l h;obtain⟨i,d,rfl,rfl,k,q⟩:=h;obtain⟨t,rfl⟩:=rx;obtain⟨m,rfl⟩:=l;exact rule i d t m s _ _ k ⟨.int<|g i d,H,I.tok _,⟨_,rfl⟩,q⟩
theorem HB {f:B->B->Sem B}{g:Int->Int->Int}
  (rule:∀(i d:Int) (t u:Tok) (s:J0) (Q:B->J0->Prop) (E:B->J0->Prop),Q (.int (g i d) s.toks) {s with toks:=s.toks+1}->QK (J4 X.prog X.w) X.A (f (.int i t)<|.int d u) Q E s):
  OpR X f (rI0 λi d=>.int<|g i d):=by
 intro e s m H x y v u Q I rx k h;obtain⟨i,d,rfl,rfl,q⟩:=h;obtain⟨t,rfl⟩:=rx;obtain⟨l,rfl⟩:=k;exact rule i d t l s _ _ ⟨.int<|g i d,H,I.tok _,⟨_,rfl⟩,q⟩
theorem Ao {f:B->B->Sem B}{g:Int->Int->QJ}
  (rule:∀(i d:Int) (t u:Tok) (s:J0) (Q:B->J0->Prop) (E:B->J0->Prop),Q (.bool<|g i d) s->QK (J4 X.prog X.w) X.A (f (.int i t)<|.int d u) Q E s):
  OpR X f (rI0 λi d=>.bl<|g i d):=by
 intro e s m H x y v u Q I rx k h;obtain⟨i,d,rfl,rfl,q⟩:=h;obtain⟨t,rfl⟩:=rx;obtain⟨l,rfl⟩:=k;exact rule i d t l s _ _ ⟨.bl<|g i d,H,I,rfl,q⟩
def BZ (i d:Int):Prop:=0<d/\d<1073741824
def Bn (i d:Int):Prop:=0<=d/\d<=1000000/\i.natAbs<2 ^ 64
def CMul (i d:Int):Prop:=(-(2 ^ 64)<i/\i<2 ^ 64)\/(-(2 ^ 64)<d/\d<2 ^ 64)
theorem CMul.ok {i d:Int}(h:CMul i d):IntMulOk i d:=by
 rcases h with⟨e,f⟩|⟨e,f⟩
 .exact .of_left (intBits_le_64 e f)
 .exact .of_right (intBits_le_64 e f)
theorem op_add:OpR X (K6 .Add) (rI0 λi d=>.int<|i+d):=HB λ_ _ _ _ _ _ _ q=>add_int q
theorem Cg:OpR X (K6 .Sub) (rI0 λi d=>.int<|i-d):=HB λ_ _ _ _ _ _ _ q=>sub_int q
theorem op_mul:OpR X (K6 .Mult) (rI CMul λi d=>.int<|i * d):=opI λ_ _ _ _ _ _ _ e q=>mul_int q e.ok
theorem wH:OpR X (K6 .FloorDiv) (rI BZ λi d=>.int<|i / d):=opI λi d _ _ _ _ _ e q=>by have f:(0:Int)<d:=e.1;have g:d<1073741824:=e.2;exact floordiv_int (by lia) (by rw[Int.fdiv_eq_ediv_of_nonneg i<|by lia];exact q)<|.inl<|PyProof.noPylong_small<|by lia
theorem EH:OpR X (K6 .Mod) (rI (λ_ d=>0<d) λi d=>.int<|i % d):=opI λi d _ _ _ _ _ e q=>by have f:(0:Int)<d:=e;exact mod_int' (by lia)<|by rw[OU i<|by lia];exact q
theorem yL:OpR X (K6 .Mod) (rI (λ_ d=>d≠0) λi d=>.int<|i.fmod d):=opI λ_ _ _ _ _ _ _ e q=>mod_int' e q
theorem BR:OpR X (K6 .Pow) (rI Bn λi d=>.int<|i ^ d.toNat):=opI λ_ _ _ _ _ _ _ e q=>pow_int_small e.1 e.2.1 e.2.2 q
theorem unI {f:B->Sem B}{g:Int->Int}
  (rule:∀(i:Int) (t:Tok) (s:J0) (Q:B->J0->Prop) (E:B->J0->Prop),Q (.int (g i) s.toks) {s with toks:=s.toks+1}->QK (J4 X.prog X.w) X.A (f<|.int i t) Q E s):
  UnR X f (rU λi=>.int<|g i):=by
 intro d s e H x v Q I rx h;obtain⟨i,rfl,q⟩:=h;obtain⟨t,rfl⟩:=rx;exact rule i t s _ _ ⟨.int<|g i,H,I.tok _,⟨_,rfl⟩,q⟩
theorem DB:UnR X (unaryOp .USub) (rU λi=>.int (-i)):=unI λ_ _ _ _ _ q=>neg_int q
end
section
variable {X:Cx}{a b c:QQ}{ta tb tc:TE}{pos:Pos}
theorem C1 {d:U<|QF×Obj}{g:St}{H:Hp}{s:J0}{Q:VK}{k f:QJ}(I:Inv X d g H s)(q:Q (.bl k) H)(e:k=f):EP X d g Q (.bool f) s:=by subst e;exact⟨.bl k,H,I,rfl,q⟩
theorem sj:OpR X (Lh .Lt) (rI0 λi d=>.bl<|decide (i<d)):=Ao λ_ _ _ _ _ _ _ q=>lt_int q
theorem tF:OpR X (Lh .LtE) (rI0 λi d=>.bl<|decide (i<=d)):=Ao λ_ _ _ _ _ _ _ q=>le_int q
theorem AW:OpR X (Lh .Gt) (rI0 λi d=>.bl<|decide (d<i)):=Ao λ_ _ _ _ _ _ _ q=>gt_int q
theorem AH:OpR X (Lh .GtE) (rI0 λi d=>.bl<|decide (d<=i)):=Ao λ_ _ _ _ _ _ _ q=>ge_int q
theorem OpR.or {f:B->B->Sem B}{r e:R2}(h:OpR X f r)(k:OpR X f e):OpR X f (λx y H Q=>r x y H Q\/e x y H Q):=by
 intro d s i H x y v u Q I rx g q;rcases q with q|q
 .exact h d s i H x y v u Q I rx g q
 .exact k d s i H x y v u Q I rx g q
theorem bB (b:QQ){op:CmpOp}(h:op≠.In:=by decide)(d:op≠.NotIn:=by decide):MZ op b=false:=by
 have e1:(op==CmpOp.In)=false:=by cases op<;>first|rfl|exact QL rfl h
 have e2:(op==CmpOp.NotIn)=false:=by cases op<;>first|rfl|exact QL rfl d
 cases b<;>simp[MZ,e1,e2]
theorem dJ {op:CmpOp}{r:R2}(ho:OpR X (Lh op) r)(f:PE X a ta)(g:PE X b tb)(i:MZ op b=JY):PE X (.Compare a [op] [b] pos) (tOp r ta tb):=by intro d s m H Q I h;exact wpAny_Compare1 (Bp f g I h λv u l x y e I2 rx k q=>ho d l m e x y v u Q I2 rx k q) i
noncomputable def Ay (t:TE):TT:=λe H Q=>t e H λx d=>∃k,x=.bl k/\Q k d
theorem yD {op:CmpOp}{r:R2}(ho:OpR X (Lh op) r)(n:PE X a ta)(o:PE X b tb)(p:MZ op b=JY):PT X (.Compare a [op] [b] pos) (Ay<|tOp r ta tb):=by
 intro d s f H Q I h
 refine wpAny_isTrue_Compare1 (thn (n d s f H _ I h) λv L ⟨x,g,I1,D,t⟩=>thn (o d L f g _ I1 t) λu M ⟨y,i,I2,F,w⟩=>
  thn (ho d M f i x y v u _ I2 D F w) λc N ⟨z,l,m,G,k,e,A⟩=>?_) p
 subst e;cases G;exact MW ⟨l,m,A⟩
noncomputable def uA (r i:R2)(ta tb tc:TE):TE:=λd H Q=>ta d H λx f=>tb d f λy g=>r x y g λz e=>∃k,z=.bl k /\
 (if k=JZ then tc d e λl h=>i y l h Q else Q (.bl JY) e)
theorem rW {op g:CmpOp}{r p:R2}(ho:OpR X (Lh op) r)(l:OpR X (Lh g) p)(G:PE X a ta)(L:PE X b tb)(M:PE X c tc)
  (N:lastMarks [op,g] [b,c]=false:=by with_unfolding_all rfl):PE X (.Compare a [op,g] [b,c] pos) (uA r p ta tb tc):=by
 intro f s i H Q I h
 refine Compare_chain (thn (G f s i H _ I h) λv s1 ⟨x,w,I1,r1,P⟩=>chain_link (thn (L f s1 i w _ I1 P) λu s2 ⟨y,A,I2,t,Z⟩=>
  thn (ho f s2 i A x y v u _ I2 r1 t Z) λd s3 ⟨z,m,n,r3,k,e,o⟩=>?_)) N
 subst e;cases r3;refine MW ?_;cases k with
 |false=>exact ite_ff ⟨.bl JY,m,n,rfl,o⟩
 |true=>exact ite_tt<|chain_last<|thn (M f s3 i m _ n o) λw' s4 ⟨z',D,F,r4,q4⟩=>l f s4 i D y z' u w' Q F t r4 q4
def vf (K:J2)(x:V)(H:Hp)(k:QJ):Prop:=
 match x with
 |.non=>k=JY
 |.bl b=>k=b
 |.int i=>k=(i != 0)
 |.str y=>y.length<=sizeLine/\k=((y.length:Int) != 0)
 |.byt y=>y.size<=sizeLine/\k=((y.size:Int) != 0)
 |.ref p=>(∃e,SqL K H p e/\k=!e.isEmpty)\/(∃e,SqT K H p e/\k=!e.isEmpty)\/∃d,H p=O (.dK d)/\k=!d.isEmpty
 |_=>QX
theorem nM {f:Type}{d:U<|f×V}{e:U<|f×B}(r:KV d e):(!e.isEmpty)=!d.isEmpty:=by cases r<;>rfl
theorem gZ {e:U V}{d:U B}(r:Vals e d):(!d.toArray.isEmpty)=!e.isEmpty:=by cases r<;>simp
theorem fo:(sizeLine:Y)<2 ^ 63:=by rw[LA];decide
theorem nQ:Jq X (λx H Q=>∃k,vf X.K x H k/\Q k H):=by
 intro A s M H x v Q I rx h;obtain⟨k,e,q⟩:=h;have G:=fo;have L:sizeLine=16777216:=LA;cases x with
 |non=>cases rx;have d:k=false:=e;subst d;exact truthy_none ⟨H,I,q⟩
 |bl b=>cases rx;have d:k=b:=e;subst d;exact MW ⟨H,I,q⟩
 |int i=>obtain⟨t,rfl⟩:=rx;have d:k=(i != 0):=e;subst d;exact PySem.P.truthy_int ⟨H,I,q⟩
 |str y=>obtain⟨t,rfl⟩:=rx;obtain⟨F,d⟩:y.length<=sizeLine/\k=((y.length:Int) != 0):=e;subst d;exact PySem.P.truthy_str (by lia) ⟨H,I.tok _,q⟩
 |byt y=>obtain⟨t,rfl⟩:=rx;obtain⟨F,d⟩:y.size<=sizeLine/\k=((y.size:Int) != 0):=e;subst d;exact PySem.W.truthy_bytes (by lia) ⟨H,I.tok _,q⟩
 | ref p =>
  cases rx;have d:(∃l,SqL X.K H p l/\k=!l.isEmpty)\/(∃l,SqT X.K H p l/\k=!l.isEmpty)\/∃f,H p=O (.dK f)/\k=!f.isEmpty:=e;rcases d with⟨l,hx,d⟩|⟨l,hx,d⟩|⟨f,hx,d⟩
  .subst d;obtain⟨o,r,u,z⟩:=I.list hx;have g:=r.length;exact wpAny_truthy_list u.isList (by simp only[Ko];lia) ⟨H,I.tok _,by rw[gZ r];exact q⟩
  .subst d;obtain⟨o,r,u,z⟩:=I.tuple hx;have g:=r.length;exact truthy_tuple u (by simp only[Ko];lia) ⟨H,I.tok _,by rw[gZ r];exact q⟩
  .subst d;obtain⟨z,D,n,r,m⟩:f.length<=sizeLine/\(p==Lz)=JY/\∃n,KV f n/\s.heap.DictOf (aZ X.prog X.w) p n:=I.hok p _ hx;have g:f.length=n.length:=Paired.length r;exact wpAny_truthy_dict D m (by lia) ⟨H,I.tok _,by rw[nM r];exact q⟩
 |_=>exact(show QX from e).elim
theorem uD (l:PE X a ta)(m:∀d,RH a X.env d=(do let v <- d;standAt a.pos;L1 [v] (truthy v))):
  PT X a (λf H Q=>ta f H λx g=>∃k,vf X.K x g k/\Q k g):=by
 intro e s f H Q I h;exact isTrue_plain (thn (l e s f H _ I h) λv p ⟨x,i,I1,o,n⟩=>nQ e p f i x v Q I1 o n)<|m _
theorem op_add_str:OpR X (K6 .Add) (λx y H Q=>∃i d,x=.str i/\y=.str d/\i.length+d.length<=sizeLine/\Q (.str<|i++d) H):=by intro e s l H x y v u Q I rx g h;obtain⟨i,d,rfl,rfl,f,q⟩:=h;obtain⟨t,rfl⟩:=rx;obtain⟨k,rfl⟩:=g;exact add_str (λk tk=>⟨.str<|i++d,H,I.tok _,⟨_,rfl⟩,q⟩) f
theorem cc {x:V}{d:U B}(r:Vals [x] d):∃u,d=[u]/\RelV x u:=by
 cases r with
 |cons e f=>cases f;exact⟨_,rfl,e⟩
theorem n5 {x y:V}{d:U B}(r:Vals [x,y] d):∃u e,d=[u,e]/\RelV x u/\RelV y e:=by
 cases r with
 |cons f g=>
  cases g with
  |cons h i=>cases i;exact⟨_,_,rfl,f,h⟩
theorem qw (l:X.calm=JZ):bI X (.builtin "max") (λg H Q=>∃i d,g=[.int i,.int d]/\Q (.int<|if d>i then d else i) H):=by
 intro f s v H g o Q I r h;obtain⟨i,d,rfl,q⟩:=h;obtain⟨u,p,rfl,⟨t,rfl⟩,⟨n,rfl⟩⟩:=n5 r;refine max_two_ints (I.ok.hd l) λm tk k=>⟨_,H,I.kept k,?_,q⟩;by_cases e:d>i
 .rw[QG e,QG e];exact⟨_,rfl⟩
 .rw[QH e,QH e];exact⟨_,rfl⟩
theorem pM (l:X.calm=JZ):bI X (.builtin "min") (λg H Q=>∃i d,g=[.int i,.int d]/\Q (.int<|if d<i then d else i) H):=by
 intro f s v H g o Q I r h;obtain⟨i,d,rfl,q⟩:=h;obtain⟨u,p,rfl,⟨t,rfl⟩,⟨n,rfl⟩⟩:=n5 r;refine min_two_ints (I.ok.hd l) λm tk k=>⟨_,H,I.kept k,?_,q⟩;by_cases e:d<i
 .rw[QG e,QG e];exact⟨_,rfl⟩
 .rw[QH e,QH e];exact⟨_,rfl⟩
def H9 (K:J2)(x:V)(H:Hp)(n:Y):Prop:=
 match x with
 |.str y=>y.length<=sizeLine/\n=y.length
 |.byt y=>y.size<=sizeLine/\n=y.size
 |.ref p=>(∃d,SqL K H p d/\n=d.length)\/∃d,SqT K H p d/\n=d.length
 |_=>QX
theorem lZ:bI X (.builtin "len") (λd H Q=>∃x n,d=[x]/\H9 X.K x H n/\Q (.int n) H):=by
 intro m s D H d A Q I r h;obtain⟨x,n,rfl,e,q⟩:=h;obtain⟨u,rfl,rx⟩:=cc r;have w:=fo;have z:sizeLine=16777216:=LA;cases x with
 |str y=>obtain⟨t,rfl⟩:=rx;obtain⟨o,g⟩:y.length<=sizeLine/\n=y.length:=e;subst g;exact len_str (by lia) ⟨.int _,H,I.tok _,⟨_,rfl⟩,q⟩
 |byt y=>obtain⟨t,rfl⟩:=rx;obtain⟨o,g⟩:y.size<=sizeLine/\n=y.size:=e;subst g;exact PySem.W.len_bytes (by lia) ⟨.int _,H,I.tok _,⟨_,rfl⟩,q⟩
 | ref p =>
  cases rx;have g:(∃d,SqL X.K H p d/\n=d.length)\/∃d,SqT X.K H p d/\n=d.length:=e;rcases g with⟨d,hx,g⟩|⟨d,hx,g⟩
  .subst g;obtain⟨i,l,k,v⟩:=I.list hx;have f:=l.length;exact Calls.call_len_list k.isList (by simp only[Ko];lia) ⟨.int d.length,H,I.tok _,⟨_,by simp only[Ko];rw[f]⟩,q⟩
  .subst g;obtain⟨i,l,k,v⟩:=I.tuple hx;have f:=l.length;exact len_tuple k (by simp only[Ko];lia) ⟨.int d.length,H,I.tok _,⟨_,by simp only[Ko];rw[f]⟩,q⟩
 |_=>exact(show QX from e).elim
end
structure ObjM (h:QS)(x dx C:QF)(mA:Str->j B):Prop where
 obj:h.get? x=O (OM C dx)
 ns:h.Ns1 dx mA
 ne:dx≠x
theorem qC {h:QS}{d:QF}{g:Str->j B}(n:h.Ns1 d g):∃i,h.get? d=O i/\∀b,N6 b i=O (g b):=by
 obtain⟨o,f,ep,ho,l,hk,_,m⟩:=n;refine⟨o,ho,λb=>?_⟩;have e:=m b;unfold nsFind findBy at e;rw[<- Array.find?_toList] at e;unfold N6;rw[l];dsimp only;split
 .rename_i y q;rw[q] at e;exact QW O e
 .rename_i q;rw[q] at e;have a:f.toList.any (·.refKey)=false:=by rw[Pk];intro y p;obtain⟨z,t,c⟩:=hk y (Array.mem_toList_iff.mp p);simp[DictEntry.refKey,c]
  have k:¬f.toList.any (·.refKey)=true:=by rw[a];exact Kv
  rw[QH k];exact QW O e
theorem ObjM.look {h:QS}{x c C:QF}{d:Str->j B}(I:ObjM h x c C d):∃b,PySem.W.InstAt h x (OM C c) C (O b)/\∀a,N6 a b=O (d a):=
 let ⟨b,ho,e⟩:=qC I.ns
 ⟨b,⟨I.obj,rfl,rfl,ho⟩,e⟩
def Hv (f:Str)(v:V):U (Str×V)->U (Str×V)
|[]=>[(f,v)]
|(g,x)::r=>if g=f then(g,v)::r else(g,x)::Hv f v r
theorem RelO.some_of {v:V}{o:j B}(r:RelO (O v) o):∃u,o=O u/\RelV v u:=by
 cases o with
 |none=>exact(show QX from r).elim
 |some u=>exact⟨u,rfl,r⟩
section
variable {P:QN}{w:J8}{H H':Hp}{h h':QS}{a C dx:QF}{fs fs':U (Str×V)}
theorem zi (c:HOk P w H h)(e:H a=O (.ins C dx fs)):∃b,ObjM h a dx C b/\(∀f,RelO (fs.lookup f)<|b f)/\Pb b (fs.map (·.1))/\fs.length<=1000/\H dx=O (.own a):=by obtain⟨d,z,g,i,b,n,r,q⟩:=(show ObjOk P w H h a (.ins C dx fs) from c a _ e);exact⟨b,⟨i,n,g⟩,r,q,z,d⟩
end
structure Cls (K:J2)(C:QF):Prop where
 pg:PY K C Str.empty=JZ
 hd:OH K C=JZ
 po:PySem.W.plainOver K C=JZ
 sa:ML K (.ref C) "__setattr__"=O (O (.builtin "object.__setattr__"))
theorem Cls.get {K:J2}{C:QF}(c:Cls K C)(f:Str):PY K C f=true:=c.pg
section
variable {X:Cx}{pins:U (QF×Obj)}{σ:St}{H:Hp}{s:J0}{A:Kq}{E:B->J0->Prop}{Q:B->J0->Prop}{c:B}{b:QJ}
inductive fM (K:J2)(H:Hp):V->B->Prop where
 |non:fM K H .non (.type "NoneType")
 |bl (x:QJ):fM K H (.bl x) (.type "bool")
 |int (i:Int):fM K H (.int i) (.type "int")
 |str (x:Str):fM K H (.str x) (.type "str")
 |flt (x:UInt64):fM K H (.flt x) (.type "float")
 |lst {a:QF} {xs:U V} (e:H a=O (.lst xs)):fM K H (.ref a) (.type "list")
 |frz {a:QF} {o:Obj} {xs:U V} (e:H a=O (.frz o (.lst xs))):fM K H (.ref a) (.type "list")
 |tup {a:QF} {xs:U V} (e:H a=O (.tup xs)):fM K H (.ref a) (.type "tuple")
 |dK {a:QF} {kvs:U (Key×V)} (e:H a=O (.dK kvs)):fM K H (.ref a) (.type "dict")
 |dT {a:QF} {kvs:U (U Key×V)} (e:H a=O (.dT kvs)):fM K H (.ref a) (.type "dict")
 | ins {a C dx:QF} {fs:U (Str×V)} (e:H a=O (.ins C dx fs)) (cl:Cls K C) (ha:ML K (.ref C) "__class__"=O (O (.builtin "object.__class__")))
   (hn:Pj K (.builtin "object.__class__") "__get__"=O (O (.builtin "getset_descriptor.__get__"))) (htk:PH K (.builtin "object.__class__")=O JZ)
   (hm:P7 K C (.type "object")=O JZ):fM K H (.ref a) (.ref C)
theorem dI {x:V}{u t:B}(I:Inv X pins σ H s)(rx:RelV x u)(ty:fM X.K H x t)(e:Mp X.K t c=O b)(h:∀tk,Q (.bool b) {s with toks:=tk}):
  QK (J4 X.prog X.w) A (call (.builtin "isinstance") [u,c]) Q E s:=by
 cases ty with
 |non=>cases(show u=Value.none from rx);exact Li PySem.W.kitx_none I.kIn LU e (λz=>nomatch z) h
 |bl y=>cases(show u=Value.bool y from rx);exact Li PySem.W.kitx_bool I.kIn LU e (λz=>nomatch z) h
 |int i=>obtain⟨t,q⟩:=(show∃t,u=Value.int i t from rx);cases q;exact Li PySem.W.kitx_int I.kIn LU e (λz=>nomatch z) h
 |str y=>obtain⟨t,q⟩:=(show∃t,u=Value.str y t from rx);cases q;exact Li PySem.W.kitx_str I.kIn LU e (λz=>nomatch z) h
 |flt y=>obtain⟨t,q⟩:=(show∃t,u=Value.float y t from rx);cases q;exact Li PySem.W.kitx_float I.kIn LU e (λz=>nomatch z) h
 | @lst a m g=>cases(show u=Value.ref a from rx);obtain⟨_,_,n,_,k⟩:=(show ObjOk X.prog X.w H s.heap a (.lst m) from I.hok a _ g);exact Li OG I.kIn ⟨_,k,rfl⟩ e (λz=>nomatch z) h
 | @frz a N m g=>cases(show u=Value.ref a from rx);obtain⟨_,_,_,n,_,k⟩:=(show ObjOk X.prog X.w H s.heap a (.frz N<|.lst m) from I.hok a _ g);exact Li OG I.kIn ⟨_,k,rfl⟩ e (λz=>nomatch z) h
 | @tup a m g=>cases(show u=Value.ref a from rx);obtain⟨_,_,_,p⟩:=(show ObjOk X.prog X.w H s.heap a (.tup m) from I.hok a _ g);obtain⟨o,k,r,_⟩:=p;exact Li Pp I.kIn ⟨o,k,r⟩ e (λz=>nomatch z) h
 | @dK a l g=>cases(show u=Value.ref a from rx);obtain⟨_,_,vs,_,p⟩:=(show ObjOk X.prog X.w H s.heap a (.dK l) from I.hok a _ g);obtain⟨o,F,ep,k,r,_⟩:=p;exact Li Ph I.kIn ⟨o,k,r.1⟩ e (λz=>nomatch z) h
 | @dT a l g=>cases(show u=Value.ref a from rx);obtain⟨_,_,m,_,o,F,ep,k,r,_⟩:=(show ObjOk X.prog X.w H s.heap a (.dT l) from I.hok a _ g);exact Li Ph I.kIn ⟨o,k,r.1⟩ e (λz=>nomatch z) h
 | @ins a C P fs g D G M v L=>cases(show u=Value.ref a from rx);obtain⟨Z,f,_⟩:=zi I.hok g;obtain⟨od,d,_⟩:=f.look;exact Li (PySem.W.kitx_own (D.get _) D.hd G M v L) I.kIn d e (λz=>nomatch z) h
end
structure Room (k:Y)(A:Kq):Prop where
 hd:A.handled=J
 dp:A.depth+3 * k+5<recursionLimit
 un:A.units+16 * k+200<Rw
 gu:A.guards=O []
theorem Room.deeper {k:Y}{A:Kq}(r:Room (k+1) A)(a:Env):Room k (A.deeper a):=
 ⟨r.hd,by have:=r.dp;show A.depth+1+3 * k+5<_;lia,by have:=r.un;show A.units+3+16 * k+200<_;lia,r.gu⟩
theorem Room.depth {k:Y}{A:Kq}(r:Room k A):A.depth<recursionLimit:=by have:=r.dp;lia
theorem Room.units {k:Y}{A:Kq}(r:Room k A):A.units+64<Rw:=by have:=r.un;lia
def EA:TA:=λ_ H Q=>Q [] H
noncomputable def pf (d:TE)(e:TA):TA:=λa H Q=>d a H λx b=>e a b λf c=>Q (x::f) c
section
variable {X:Cx}{e:QQ}{es:U QQ}{te:TE}{t:TA}{pos:Pos}
theorem cR:PA X [] EA:=λ_ _ _ _ H Q I h=>Calls.spliced_nil ⟨[],H,I,.nil,h⟩
theorem bw (f:PE X e te)(g:PA X es t)(i:J5 (e::es) X.env=(JY,QY e X.env)::J5 es X.env:=by rfl):PA X (e::es) (pf te t):=by intro pos a s b H Q I h;rw[i];show QK _ _ (spliced ((JY,QY e X.env)::Kw pos (J5 es X.env))) _ _ s;refine Calls.spliced_cons<|thn (f a s b H _ I h) λu o ⟨x,c,I1,m,k⟩=>?_;exact thn (g pos a o b c _ I1 k) λv r ⟨p,d,I2,n,l⟩=>⟨x::p,d,I2,.cons m n,l⟩
def Hs (t:TA):TE:=λc H Q=>t c H λb a=>b.length<=sizeLine/\∀p,a p=J->Q (.ref p) (upd a p<|.tup b)
def HC (t:TA):TE:=λc H Q=>t c H λb a=>b.length<=sizeLine/\∀p,a p=J->Q (.ref p) (upd a p<|.lst b)
theorem Ef {x1}(h:PA X es t):PE X (.Tuple es x1 pos) (Hs t):=by intro a s l H Q I g;refine wpAny_Tuple_spliced<|thn (h pos a s l H _ I g) λi c ⟨k,d,I1,r,z,q⟩=>⟨by rw[<- r.length];exact z,?_⟩;have f:d c.heap.objs.size=none:=I1.hok.fresh<|J9 _;refine⟨.ref c.heap.objs.size,upd d c.heap.objs.size<|.tup k,I1.laid (t':=c.toks) (λb u e=>Heap.get?_push_of_some _ e) (J9 _) ?_,rfl,q _ f⟩;exact⟨z,i,r,⟨_,Heap.get?_push_size _ rfl,rfl,_,rfl⟩⟩
theorem CY (h:PA X es t):PE X (.List es pos) (HC t):=by intro a s l H Q I g;refine wpAny_List_spliced<|thn (h pos a s l H _ I g) λi c ⟨k,d,I1,r,z,q⟩=>⟨by rw[<- r.length];exact z,?_⟩;have f:d c.heap.objs.size=none:=I1.hok.fresh<|J9 _;refine⟨.ref c.heap.objs.size,upd d c.heap.objs.size<|.lst k,I1.laid (t':=c.toks) (λb u e=>Heap.get?_push_of_some _ e) (J9 _) ?_,rfl,q _ f⟩;exact⟨z,i,0,r,Heap.get?_push_size _ rfl⟩
end
abbrev Sp:=U V->Hp->VK->XK->Prop
abbrev CXT:=U Env->Hp->J0->XK->B->J0->Prop
structure zU (P:QN)(w:J8)(K:J2)(mg:Str->j B)(base:QS)(A:Kq)(outer:U Env)(s:J0)(H:Hp):Prop where
 frames:A.frames=O outer
 mod:Mod K mg base
 bs:∀b o,base.get? b=O o->s.heap.get? b=O o/\H b=J
 bsz:base.objs.size<=s.heap.objs.size
 funs:s.heap.FunFrames base outer
 frf:∀b∈frs outer,H b=J
 hok:HOk P w H s.heap
 bare:LN s.gens
def CE (a:U Env)(P:QN)(w:J8)(H:Hp)(s:J0)(Q:VK)(u:B)(b:J0):Prop:=
 ∃v c,b.os=s.os/\LN b.gens/\Un (frs a) [] H c s.heap b.heap/\HOk P w c b.heap/\RelV v u/\Q v c
def CR (c:CXT)(a:U Env)(P:QN)(w:J8)(H:Hp)(s:J0)(Q:VK)(E:XK)(r:Rq)(b:J0):Prop:=
 match r with
 |.ok (.ret u)=>CE a P w H s Q u b
 |.ok _=>QX
 |.error e=>c a H s E e b
structure eE (P:QN)(w:J8)(K:J2)(mg:Str->j B)(base:QS)(CX:CXT)(k:Y)(f:QF)(fd:Lb)(ps:U Str)(sp:Sp):Prop where
 len:∀vs H Q E,sp vs H Q E->vs.length=ps.length
 run:∀(A:Kq) (outer:U Env) (s:J0) (H:Hp) (args:Args) (us:U B) (vs:U V) (Q:VK) (E:XK),Room k A->zU P w K mg base A outer s H->L0 s fd args (ps.zip us)->Vals vs us->sp vs H Q E ->
  KZ (J4 P w) A (.call (.ref f) args) (CR CX outer P w H s Q E) s
section
variable {X:Cx}{pins:U (QF×Obj)}{σ:St}{H:Hp}{s s':J0}
theorem Inv.env0 (I:Inv X pins σ H s):zU X.prog X.w X.K X.mg X.base X.A X.stack s H:=
 ⟨I.ok.frames,I.ok.mod,I.bs,Ky I.ok.bsz I.sz,I.stack,I.stkFree,I.hok,I.bare⟩
theorem Inv.after {Q:VK}{u:B}(I:Inv X pins σ H s)(h:CE X.stack X.prog X.w H s Q u s'):EP X pins σ Q u s':=by obtain⟨v,e,os,bare,un,a,r,q⟩:=h;obtain⟨f,g,d,t,c⟩:=s';obtain rfl:c=s.os:=os;exact⟨v,e,I.call (h':=f) (g':=g) (d':=d) (t':=t) (ch:=[]) un a bare λb z=>QL z<|by simp,r,q⟩
end
noncomputable def HX (c:Sp)(a:U V)(E:XK)(t:TA):TE:=λe H Q=>t e H λd b=>c (d++a) b Q E
def Binds (K:J2)(c:Lb)(b:U Str)(ds:U B):Prop:=
 ∀(s:J0) (a:U B),K.In s.heap->(a++ds).length=b.length->L0 s c ⟨a,[]⟩ (b.zip<|a++ds)
theorem Binds.all {K:J2}{c:Lb}{b:U Str}(h:∀a:U B,a.length=b.length->bindArgs c ⟨a,[]⟩=pure (b.zip a)):Binds K c b []:=λs a _ d=>by rw[KR] at d ⊢;exact .of_eq<|h a d
def nN (c:CXT)(X:Cx)(E:XK):Prop:=∀(a:U<|QF×Obj) (d:St) (H:Hp) (s:J0) (e:B) (b:J0),Inv X a d H s->c X.stack H s E e b->X.xe e b
section
variable {X:Cx}{CX:CXT}{k:Y}{f C:QF}{fd:Lb}{ps:U Str}{sp:Sp}{dvs:U V}{ds:U B}{E:XK}{x m:Str}{p pos apos:Pos}{e o:QQ}{es:U QQ}{ta:TE}{t:TA}
theorem Ey {a:U<|QF×Obj}{g:St}{H:Hp}{s:J0}{Q:VK}{b:U B}{d:U V}(F:eE X.prog X.w X.K X.mg X.base CX k f fd ps sp)(y:Room k X.A)(l:Binds X.K fd ps ds)(n:Vals dvs ds)(hx:nN CX X E)
  (I:Inv X a g H s) (r:Vals d b) (h:sp (d++dvs) H Q E):QK (J4 X.prog X.w) X.A (call (.ref f) b) (EP X a g Q) X.xe s:=by
 have i:Vals (d++dvs) (b++ds):=r.append n;have v:(b++ds).length=ps.length:=by rw[<- i.length];exact F.len _ _ _ _ h
 refine Rr<|Nc (F.run X.A X.stack s H ⟨b,[]⟩ (b++ds) (d++dvs) Q E y I.env0 (l s b I.kIn v) i h) λr z c=>?_;cases r with
 |error e=>exact hx a g H s e z I c
 |ok fl=>
  cases fl with
  |ret u=>exact I.after c
  |next=>exact LI c
  |brk=>exact LI c
  |cont=>exact LI c
theorem wZ (F:eE X.prog X.w X.K X.mg X.base CX k f fd ps sp)(v:Room k X.A)(n:Gl X x)(u:X.mg x=O (.ref f))(hk:MK X.K (.ref f)=JZ)(g:Binds X.K fd ps ds)(i:Vals dvs ds)(hx:nN CX X E)
  (d:PA X (e::es) t) (b:(x==("__debug__":Str))=false:=by decide) (l:J5 (e::es) X.env=(JY,QY e X.env)::J5 es X.env:=by rfl) (c:(Kw pos<|J5 es X.env).any (·.1)=false:=by rfl):
  PE X (.Call (.Name x p) (e::es) [] pos) (HX sp dvs E t):=by
 intro a s y H Q I h;refine MB<|yK I n u ?_ b;refine PySem.W.callWith_K (h₀:=X.base) I.ok.mod.kin hk (thn (d pos a s y H _ I h) λG D ⟨L,z,I1,r,q⟩=>⟨I1.kIn,?_⟩) l c;exact Ey F v g i hx I1 r q
end
structure aC (N P:U Str)(sc:Q2):Prop where
 kind:sc.kind=.function
 co:sc.isCoroutine=JY
 gen:sc.isGenerator=JY
 nd:N.Nodup
 pre:N.take P.length=P
 par:∀x∈P,sc.names.lookup x=O .local\/sc.names.lookup x=O .cell
 nofree:∀y∈sc.names,y.2≠.free
theorem iY {kindOf:Str->j NameKind}{x:Str}:∀{binds:U<|Str×B} {m:Str->j B},(∀v,(x,v) ∉ binds)->RJ kindOf binds m x=m x
|[],_,_=>rfl
| (n,v)::r,m,h=>by
 unfold RJ;rw[iY λw a=>h w<|Ke _ a];split
 .have:x≠n:=by rintro rfl; exact h v Ka
  simp[this]
 .rfl
theorem i9 {kindOf:Str->j NameKind}{x:Str}:∀{binds:U<|Str×B} {m:Str->j B},(∀v,(x,v) ∉ binds)->RK kindOf binds m x=m x
|[],_,_=>rfl
| (n,v)::r,m,h=>by
 unfold RK;rw[i9 λw a=>h w<|Ke _ a];split
 .rfl
 .have:x≠n:=by rintro rfl; exact h v Ka
  simp[this]
theorem iK {kindOf:Str->j NameKind}{x:Str}{v:B}:∀{P:U Str} {a:U B} {i:Y} {m:Str->j B},P.Nodup->P[i]?=O x->a[i]?=O v->kindOf x=O .local ->
 RJ kindOf (P.zip a) m x=O v
|[],_,_,_,_,h,_,_=>by simp at h
|_::_,[],_,_,_,_,h,_=>by simp at h
|p::P,w::a,0,m,nd,b,c,hk=>by simp at b c;subst b;subst c;show RJ kindOf ((p,w)::P.zip a) m p=_;unfold RJ;rw[iY λv d=>(K1.mp nd).1 (Nz d).1,QG hk];simp
|p::P,w::a,i+1,m,nd,b,c,hk=>by show RJ kindOf ((p,w)::P.zip a) m x=_;unfold RJ;exact iK (i:=i) (K1.mp nd).2 (by simpa using b) (by simpa using c) hk
theorem i7 {kindOf:Str->j NameKind}{x:Str}{v:B}:∀{P:U Str} {a:U B} {i:Y} {m:Str->j B},P.Nodup->P[i]?=O x->a[i]?=O v->kindOf x≠O .local ->
 RK kindOf (P.zip a) m x=O v
|[],_,_,_,_,h,_,_=>by simp at h
|_::_,[],_,_,_,_,h,_=>by simp at h
|p::P,w::a,0,m,nd,b,c,hk=>by simp at b c;subst b;subst c;show RK kindOf ((p,w)::P.zip a) m p=_;unfold RK;rw[i9 λv d=>(K1.mp nd).1 (Nz d).1,QH hk];simp
|p::P,w::a,i+1,m,nd,b,c,hk=>by show RK kindOf ((p,w)::P.zip a) m x=_;unfold RK;exact i7 (i:=i) (K1.mp nd).2 (by simpa using b) (by simpa using c) hk
noncomputable def start (N:U Str)(a:U V):St:=a.map O++Kb (N.length-a.length) J
def kb (g:CXT)(P:QN)(w:J8)(K:J2)(mg:Str->j B)(base:QS)(N:U Str)(b:Str)(a:Q2)(f:QF)(d:B)(A:Kq)(outer:U Env)(s:J0)(H:Hp)(E:XK):Cx where
 prog:=P
 w:=w
 K:=K
 mg:=mg
 base:=base
 A:=A.deeper<|Ll b a s.heap.objs.size f d
 N:=N
 s₀:=s
 H₀:=H
 env:=Ll b a s.heap.objs.size f d
 outer:=outer
 stack:=Ll b a s.heap.objs.size f d::outer
 ex:=[]
 calm:=JZ
 fn:=λ_=>JZ
 pn:=[]
 xe:=λe i=>QK (J4 P w) (A.deeper<|Ll b a s.heap.objs.size f d) (leaving (Ll b a s.heap.objs.size f d) e) (λ_ c=>g outer H s E e c) (λh c=>g outer H s E h c) i
theorem l5 {a:Q2}{n:Y}{x:Str}(h:a.names.lookup x=O .cell):∃c,(cellsFrom n a.names []).lookup x=O c:=by have q:=Qg a.names n []<|.inl h;exact Qm.mp q
theorem qu {CX:CXT}{P:QN}{w:J8}{K:J2}{mg:Str->j B}{o:QS}{N G:U Str}{l:Str}{d:Q2}{f:QF}{M:B}{A:Kq}{g:U Env}{s s1:J0}{H:Hp}{E:XK}{us:U B}{I:U V}
  (S:aC N G d) (hd:A.handled=J) (t:zU P w K mg o A g s H) (hl:I.length=G.length) (r:Vals I us)
  (x:InCallC s s.heap.objs.size (RJ (Ll l d s.heap.objs.size f M).kindOf (G.zip us) λ_=>J) (cellsFrom (s.heap.objs.size+1) d.names []) (RK (Ll l d s.heap.objs.size f M).kindOf (G.zip us) λ_=>J) s1):
  Inv (kb CX P w K mg o N l d f M A g s H E) [] (start N I) H s1:=by
 have hpl:G.length<=N.length:=by have:=QW Mq S.pre;rw[Lc] at this;lia
 obtain⟨Q,tk,rfl,hk⟩:=x.done;have F:∀b:QF,b ∉ (kb CX P w K mg o N l d f M A g s H E).ex:=λb z=>QL (show b∈([]:U QF) from z)<|by simp
 refine⟨⟨t.mod,S.kind,rfl,rfl,J9 _,λy z c Q m=>?_,λy D=>?_,λy c _ h=>?_,λ_=>hd,Around.frames_deeper t.frames,.inr ⟨rfl,rfl⟩,λb z=>QL z<|F b,t.bs,t.bsz,λb _ _=>F b,λb z=>QL z<|F b,t.funs,t.frf⟩,
  rfl,t.bare,Un.kept hk,⟨_,x.toInCall.ns,λi y v Q m h3=>?_⟩,λy c h=>⟨_,x.cell y c h⟩,t.hok.fresh<|J9 _,λy c h=>?_,λp hp=>QL (show p∈([]:U<|QF×Obj) from hp)<|by simp,t.hok.kept hk,?_⟩
 .exact name_of_addr x.apart (MH Q) (MH m)
 .have D:d.names.lookup y=O .cell\/d.names.lookup y=O .free:=D;rcases D with D|D
  .exact l5 D
  .exact QL rfl (S.nofree _<|MH D)
 .exact Mo (x.above y c<|MH h)
 .have Z:i<I.length:=by
   unfold start at m;by_cases Z:i<I.length
   .exact Z
   .rw [L9<|by simpa using Z] at m;rw[Mt] at m;split at m<;>cases m
  have ha:I[i]?=O v:=by
   unfold start at m;rw[Mr<|by simpa using Z,Kz] at m;cases e:I[i]? with
   |none=>rw[e] at m;cases m
   |some a=>rw[e] at m;cases m;rfl
  obtain⟨u,hu,rv⟩:=r.get ha;have hp:G[i]?=O y:=by rw[<- S.pre,List.getElem?_take_of_lt<|by lia];exact Q
  have L:G.Nodup:=by rw[<- S.pre];exact S.nd.sublist<|List.take_sublist _ _
  refine⟨u,rv,?_⟩;rcases S.par y (LX hp) with k|k
  .exact .inl ⟨k,iK L hp hu k⟩
  .obtain ⟨c,e⟩:=l5 (n:=s.heap.objs.size+1) k;refine .inr ⟨.inl k,c,e,?_⟩;have q:=x.cell y c e;rw[i7 L hp hu<|by show d.names.lookup y≠_;rw[k];decide] at q;exact q
 .exact t.hok.fresh (Mo<|x.above y c<|MH h)
 .unfold start;show _=N.length;rw[Kk,J6,K4];lia
theorem F6 {CX:CXT}{P:QN}{w:J8}{K:J2}{mg:Str->j B}{i:QS}{k:Y}{f:QF}{F g:Str}{l:Arguments}{m:U Q0}{c:Q2}{dV kV Z pm h ct oc:B}{an od:j QF}
  {osl:QT<|j B} {N ps:U Str} {sp:Sp} (lk:K.lookup f=O ⟨oc,od,.func<|LQ F g l m c dV kV Z pm an h ct,osl⟩) (hcd:Nw K h g=JZ) (S:aC N ps c)
  (len:∀p H Q E,sp p H Q E->p.length=ps.length)
  (G:∀ (A:Kq) (d:U Env) (s:J0) (H:Hp) (p:U V) (Q:VK) (E:XK),Room k (A.deeper (Ll g c s.heap.objs.size f h))->sp p H Q E ->
   ∃t,PSs (kb CX P w K mg i N g c f h A d s H E) m t/\t {nx:=λ_ D=>Q .non D,rt:=Q} (start N p) H):
  eE P w K mg i CX (k+1) f (LQ F g l m c dV kV Z pm an h ct) ps sp:=by
 refine⟨len,λA d s H args us p Q E hr e0 hb r hsp=>?_⟩;have hl:=len _ _ _ _ hsp;have KX:K.In s.heap:=e0.mod.kin.keeps λb o e=>(e0.bs b o e).1;have lim:s.heap.NoLimit:=e0.mod.nolimit.keeps λb o e=>(e0.bs b o e).1
 have L:∀y∈ps.zip us,c.names.lookup y.1=O .local\/(c.names.lookup y.1=O .cell/\((cellsFrom (s.heap.objs.size+1) c.names []).lookup y.1).isSome=JZ):=λ⟨n,v⟩ hy=>by
  rcases S.par n (Nz hy).1 with q|q
  .exact .inl q
  .exact .inr ⟨q,Qg _ _ _<|.inl q⟩
 refine codeAny_call_function hr.depth (KX _ _ lk) rfl S.co S.gen rfl (PySem.W.codeRec_of KX hcd) (hb _ _ _ _ ?_);refine wpAny_newFunctionEnv_cells S.kind L λenv he s1 x=>?_;subst he;refine⟨lim.keeps x.toInCall.keep,codeAny_func ?_⟩;obtain⟨t,ht,hq⟩:=G A d s H p Q E (hr.deeper _) hsp;have I:Inv (kb CX P w K mg i N g c f h A d s H E) [] (start N p) H s1:=qu S hr.hd e0 hl r x;refine KG (ht [] s1 (start N p) H _ I hq) (λfl s' M=>?_) λe s' M=>M
 have fin:∀{z:St} {D:Hp} {v:V} {u:B},Inv (kb CX P w K mg i N g c f h A d s H E) [] z D s'->RelV v u->Q v D->CE d P w H s Q u s':=
  λ{z D v u} a rv q=>⟨v,D,a.os,a.bare,a.base,a.hok,rv,q⟩
 cases fl with
 |ret u=>obtain⟨v,z,D,a,rv,q⟩:=M;exact fin a rv q
 |next=>obtain⟨z,D,a,q⟩:=M;exact fin (v:=V.non) (u:=Value.none) a rfl q
 |brk=>obtain⟨_,_,_,q⟩:=M;exact LI q
 |cont=>obtain⟨_,_,_,q⟩:=M;exact LI q
section
variable {X:Cx}{x:Str}{p pos:Pos}{e:QQ}{es:U QQ}{t:TA}{id T:QZ}{r:U V->Hp->VK->Prop}
def tCB (r:U V->Hp->VK->Prop)(t:TA):TE:=λc H Q=>t c H λb a=>r b a Q
theorem bb (i:bI X (.builtin id) r)(l:Gl X x)(m:X.mg x=J)(o:L6 x=O (.builtin id))(g:PA X (e::es) t)(n:x≠"__name__":=by decide)(b:(x==("__debug__":Str))=false:=by decide)
  (k:J5 (e::es) X.env=(JY,QY e X.env)::J5 es X.env:=by rfl) (c:(Kw pos<|J5 es X.env).any (·.1)=false:=by rfl):PE X (.Call (.Name x p) (e::es) [] pos) (tCB r t):=by
 intro a s d H Q I h;refine MB<|cU I l m o ?_ n b;exact Qe (thn (g pos a s d H _ I h) λy w ⟨z,f,I1,v,u⟩=>i a w d f z y Q I1 v u) k c
theorem cP (i:bI X (.type T) r)(l:Gl X x)(m:X.mg x=J)(o:L6 x=O (.type T))(g:PA X (e::es) t)(n:x≠"__name__":=by decide)(b:(x==("__debug__":Str))=false:=by decide)
  (k:J5 (e::es) X.env=(JY,QY e X.env)::J5 es X.env:=by rfl) (c:(Kw pos<|J5 es X.env).any (·.1)=false:=by rfl):PE X (.Call (.Name x p) (e::es) [] pos) (tCB r t):=by
 intro a s d H Q I h;refine MB<|cU I l m o ?_ n b;exact MO (thn (g pos a s d H _ I h) λy w ⟨z,f,I1,v,u⟩=>i a w d f z y Q I1 v u) k c
end
end L2
namespace HT
open PySem PyProof.Rows
section
variable {prog:QN}{w:J8}{A:Kq}{E:B->J0->Prop}{s:J0}
theorem cat_tup {t b:QF}{d a:U B}{Q:B->J0->Prop}(F:RG s.heap t d.toArray)(D:RG s.heap b a.toArray)(u:d≠[])
  (y:a=[]->Q (.ref t) s) (z:a≠[]->Q (.ref s.heap.objs.size) {s with heap:=s.heap.push {cls:=.type "tuple",data:=.seq (d++a).toArray}})
  (l:d.length+a.length<=sizeLine):QK (J4 prog w) A (K6 .Add (.ref t)<|.ref b) Q E s:=by
 obtain⟨⟨cls,o,data,x⟩,ho,p,n,r⟩:=id F;obtain⟨⟨m,f,data2,i⟩,c,g,v,h⟩:=id D;simp only at p r g h;subst p r g h;have e:d.toArray++a.toArray=(d++a).toArray:=by simp
 by_cases k:a=[]
 .exact concat_meets ⟨_,ho,rfl⟩ ⟨_,c,rfl⟩ noFill_tuple_add seq_tuple_add Qf Qi (Ql _ _)
   (tuple_addW1 t b d.toArray a.toArray n v o f x i (by simpa using u)<|by simp[k]) ⟨ho,c,y k⟩
 .refine concat_meets ⟨_,ho,rfl⟩ ⟨_,c,rfl⟩ noFill_tuple_add seq_tuple_add Qf Qi (Ql _ _)
   (tuple_addW2 t b d.toArray a.toArray n v o f x i (by simpa using u) (by simpa using k)<|by rw[Ko,Ko];exact l) ⟨ho,c,?_⟩
  rw[e];exact z k
def sIx (n d:Y):j Int->Y
|none=>d
|some v=>if v<0 then(v+(n:Int)).toNat else min v.toNat n
theorem Bi (n d:Y)(b:d<=n)(o:j Int):sIx n d o<=n:=by
 cases o with
 |none=>exact b
 |some v=>
  show(if v<0 then(v+(n:Int)).toNat else min v.toNat n)<=n;by_cases a:v<0
  .rw[QG a];lia
  .rw[QH a];exact PX _ _
theorem pF (v:Int)(n d:Y):(if v<0 then max (v+(n:Int)) 0 else min v (n:Int))=((sIx n d (O v):Y):Int):=by
 show(if v<0 then max (v+(n:Int)) 0 else min v (n:Int))=(((if v<0 then(v+(n:Int)).toNat else min v.toNat n):Y):Int);by_cases a:v<0
 .simp only[QG a];lia
 .simp only[QH a];lia
theorem nA (lo a:j Int)(n:Y):Builtin.Slice.sliceAdjust lo a 1 (n:Int)=(((sIx n 0 lo:Y):Int),((sIx n n a:Y):Int)):=by
 have b:¬((1:Int)<0):=by lia
 unfold Builtin.Slice.sliceAdjust;simp only[b,if_false];refine Prod.ext ?_ ?_
 .cases lo with
  |none=>rfl
  |some v=>exact pF v n 0
 .cases a with
  |none=>rfl
  |some v=>exact pF v n n
theorem nJ (i a:Y):Builtin.Slice.slicePlaces (i:Int) (a:Int) 1=a-i:=by
 unfold Builtin.Slice.slicePlaces;have b:(1:Int)>0:=by lia
 simp only[b,RD,Int.ediv_one];split<;>lia
theorem ij {v:B}{o:j Int}{Q:j Int->J0->Prop}(p:LB v o)(h:Q o s):QK (J4 prog w) A (Builtin.Slice.slicePartIndex v) Q E s:=by
 cases p with
 |none=>exact slicePart_none h
 |int i t=>exact slicePart_int h
theorem sliceApplied_gen {f:QF}{d e:B}{lo b:j Int}{n:Y}{Q:Int×Int×Y->J0->Prop}(i:s.heap.IsSliceOf f d e .none)(k:LB d lo)(l:LB e b)
  (h:Q (((sIx n 0 lo:Y):Int),1,sIx n n b-sIx n 0 lo) s):QK (J4 prog w) A (Builtin.Slice.sliceApplied (.ref f)<|pure (n:Int)) Q E s:=by
 obtain⟨os,c,g,a⟩:=id i;unfold Builtin.Slice.sliceApplied Builtin.Slice.sliceFields;refine J1<|J1<|wpAny_field c a (x:=d) rfl (J1<|wpAny_field c a (x:=e) rfl (J1<|wpAny_field c a (x:=.none) rfl (J7 ?_)));refine J1<|slicePart_none ?_;show QK _ _ (if((1:Int)==0)=JZ then _ else _) _ _ s;rw[QH<|by decide];refine J1<|ij k<|J1<|ij l<|J1<|J7 ?_;show QK _ _ (match Builtin.Slice.sliceAdjust lo b 1 (n:Int) with|(lo,b)=>pure (lo,(1:Int),Builtin.Slice.slicePlaces lo b 1)) _ _ s;rw[nA lo b n];show QK _ _ (pure (((sIx n 0 lo:Y):Int),(1:Int),Builtin.Slice.slicePlaces ((sIx n 0 lo:Y):Int) ((sIx n n b:Y):Int) 1)) _ _ s;rw[nJ];exact J7 h
theorem u9 (a:QT B)(i k:Y):((Kc k).filterMap λ(m:Y)=>a[((i:Int)+(m:Int) * 1).toNat]?).toArray=((a.toList.drop i).take k).toArray:=by
 have e:(λ(m:Y)=>a[((i:Int)+(m:Int) * 1).toNat]?)=λm=>a[i+m]?:=by
  funext m;have:((i:Int)+(m:Int) * 1).toNat=i+m:=by lia
  rw[this]
 rw[e];have:=pick_run a i k;rw[List.filterMap_map] at this;have e2:((λx=>a[x]?) ∘ λx=>i+x)=λm=>a[i+m]?:=rfl;rw[e2] at this;rw[this]
theorem getItem_tuple_cut {t k:QF}{a:QT B}{n o:B}{lo c:j Int}{Q:B->J0->Prop}(d:RG s.heap t a)(l:s.heap.IsSliceOf k n o .none)(v:LB n lo)(x:LB o c)
  (u:¬(sIx a.size 0 lo=0/\sIx a.size a.size c=a.size))
  (h:Q (.ref s.heap.objs.size) {s with heap:=s.heap.push {cls:=.type "tuple",data:=.seq ((a.toList.drop<|sIx a.size 0 lo).take<|sIx a.size a.size c-sIx a.size 0 lo).toArray}})
  (r:a.size<=sizeLine):QK (J4 prog w) A (LC (.ref t)<|.ref k) Q E s:=by
 have b:sizeOk (.seq ((a.toList.drop (sIx a.size 0 lo)).take (sIx a.size a.size c-sIx a.size 0 lo)).toArray):=by show((a.toList.drop<|sIx a.size 0 lo).take<|sIx a.size a.size c-sIx a.size 0 lo).toArray.size<=sizeLine;rw[Ko,Lc,Lq,KD];lia
 have y:sIx a.size a.size c<=a.size:=Bi _ _ (J9 _) c;obtain⟨os,i,f,p⟩:=id l;have e:s.TypeIs (.ref k) "slice":=⟨os,i,f⟩;unfold LC
 try with_reducible refine K2 ?_
 first|refine J1 (J7 ?_)|skip
 refine J1<|wpAny_sequenceKey d.typeIs (by decide) ?_
 refine J1 (MT (name:=Str.ofString "__getitem__") d.typeIs MN
  (L4 MN d.typeIs entry_tuple_getitem ?_<|args_tuple_getitem _ _))
 show QK _ _ (Builtin.Tuple.tupleItemsOf (.ref t) >>= _) _ _ s;refine J1<|tupleItemsOf_ d ?_;refine J1<|Mv e ?_;rw[QG<|by decide];refine J1<|sliceApplied_gen l v x ?_;have g:¬((((sIx a.size 0 lo:Y):Int)==0&&(1:Int)==1&&(sIx a.size a.size c-sIx a.size 0 lo)==a.size)=JZ):=by intro q;rw[Kt,Kt] at q;have z:((sIx a.size 0 lo:Y):Int)=0:=eq_of_beq q.1.1;have D:sIx a.size a.size c-sIx a.size 0 lo=a.size:=eq_of_beq q.2;exact u ⟨by lia,by lia⟩
 show QK _ _ (if(((sIx a.size 0 lo:Y):Int)==0&&(1:Int)==1&&(sIx a.size a.size c-sIx a.size 0 lo)==a.size)=JZ then _ else _) _ _ s;rw[QH g,u9]
 first
  |exact J1 (m:=Builtin.Tuple.tupleExact _)<|Ly (J7 ⟨_,rfl,J7 h⟩) b
  |exact J1 (m:=Builtin.Tuple.tupleExact _)<|Ly (J1<|J7<|J7 ⟨_,rfl,J7 h⟩) b
  |exact J1<|J1 (m:=Builtin.Tuple.tupleExact _)<|Ly (J7<|J7 ⟨_,rfl,J7 h⟩) b
  |exact J1<|J1 (m:=Builtin.Tuple.tupleExact _)<|Ly (J7 ⟨_,rfl,J7 h⟩) b
end
end HT
namespace L2
open PySem PySem.Spec PyProof.Rows
abbrev TO:=St->Hp->(j Int->Hp->Prop)->Prop
def PO (X:Cx)(e:j QQ)(t:TO):Prop:=
 ∀(a:U<|QF×Obj) (s:J0) (b:St) (H:Hp) (Q:j Int->Hp->Prop),Inv X a b H s->t b H Q ->
  QK (J4 X.prog X.w) X.A (evalPart e X.env) (λu d=>∃o c,Inv X a b c d/\LB u o/\Q o c) X.xe s
def xC:TO:=λ_ H Q=>Q J H
noncomputable def FX (t:TE):TO:=λb H Q=>t b H λx a=>∃i,x=.int i/\Q (O i) a
section
variable {X:Cx}{e:QQ}{te:TE}{lo hi:j QQ}{tl th:TO}{pos p2:Pos}
theorem n9:PO X J xC:=by intro a s b H Q I h;rw[evalPart_none];exact J7 ⟨J,H,I,.none,h⟩
theorem ox (h:PE X e te):PO X (O e) (FX te):=by intro a s g H Q I c;rw[evalPart_some];refine thn (h a s g H _ I c) λu k ⟨x,b,I1,f,d⟩=>?_;obtain⟨i,rfl,q⟩:=d;obtain⟨t,rfl⟩:=f;exact⟨O i,b,I1,.int i t,q⟩
def SlR (X:Cx)(r:V->j Int->j Int->Hp->VK->Prop):Prop:=
 ∀(a:U<|QF×Obj) (s:J0) (f:St) (H:Hp) (x:V) (v c d:B) (lo hi:j Int) (b:QF) (Q:VK),Inv X a f H s->RelV x v->s.heap.IsSliceOf b c d .none->LB c lo->LB d hi->r x lo hi H Q ->
  ∃T id,MS (.type T) "__getitem__"=pure (O<|.builtin id)/\s.TypeIs v T/\QK (J4 X.prog X.w) X.A (LC v<|.ref b) (EP X a f Q) X.xe s
theorem SlR.or {r f:V->j Int->j Int->Hp->VK->Prop}(h:SlR X r)(m:SlR X f):SlR X (λx lo hi H Q=>r x lo hi H Q\/f x lo hi H Q):=by
 intro a s l H x v i k lo hi g Q I rx b c d q;rcases q with q|q
 .exact h a s l H x v i k lo hi g Q I rx b c d q
 .exact m a s l H x v i k lo hi g Q I rx b c d q
def tSl (r:V->j Int->j Int->Hp->VK->Prop)(te:TE)(tl th:TO):TE:=λa H Q=>te a H λx b=>tl a b λl c=>th a c λu d=>r x l u d Q
theorem lF {r:V->j Int->j Int->Hp->VK->Prop}(D:SlR X r)(t:PE X e te)(z:PO X lo tl)(G:PO X hi th):PE X (.Subscript e (.Slice lo hi J p2) pos) (tSl r te tl th):=by intro a s d H Q I h;refine Subscript_<|thn (t a s d H _ I h) λv s1 ⟨x,k,I1,r1,N⟩=>?_;refine wpAny_Slice<|thn (z a s1 d k _ I1 N) λf s2 ⟨l,m,I2,L,P⟩=>thn (G a s2 d m _ I2 P) λg c ⟨u,i,n,M,Z⟩=>?_;rw[evalPart_none];refine J7 ?_;have o:Inv X a d i {c with heap:=c.heap.push {cls:=.type "slice",data:=.fields #[f,g,.none]}}:=n.kept (t':=c.toks) λb ob q=>Heap.get?_push_of_some _ q;obtain⟨T,id,p,F,y⟩:=D a {c with heap:=c.heap.push {cls:=.type "slice",data:=.fields #[f,g,.none]}} d i x v f g l u c.heap.objs.size Q o r1 (Heap.IsSliceOf.new ..) L M Z;show QK (J4 X.prog X.w) X.A (Ro e (.Slice lo hi J p2) v<|.ref c.heap.objs.size) (EP X a d Q) X.xe {c with heap:=c.heap.push {cls:=.type "slice",data:=.fields #[f,g,.none]}};exact tail_any (ops:=[.ref c.heap.objs.size,v]) F p y<|by with_unfolding_all rfl
def eG (a:U V)(lo hi:j Int):U V:=(a.drop<|HT.sIx a.length 0 lo).take<|HT.sIx a.length a.length hi-HT.sIx a.length 0 lo
theorem cq (a:U V)(lo hi:j Int):(eG a lo hi).length<=a.length:=by unfold eG;rw[Lc,Lq];lia
def Je (K:J2):V->j Int->j Int->Hp->VK->Prop:=λx lo hi H Q=>∃a b,x=.ref a/\SqT K H a b /\
 ¬(HT.sIx b.length 0 lo=0/\HT.sIx b.length b.length hi=b.length)/\∀p,H p=J->Q (.ref p) (upd H p<|.tup<|eG b lo hi)
theorem C6:SlR X (Je X.K):=by
 intro k s z H x v w y lo hi u Q I rx l n p h;obtain⟨a,d,rfl,hx,m,q⟩:=h;cases rx;obtain⟨f,r,g,i⟩:=I.tuple hx;have c:f.toArray.size=d.length:=by rw[Ko];exact r.length.symm
 refine⟨"tuple",_,MN.lookup,g.typeIs,?_⟩;refine HT.getItem_tuple_cut g l n p (by rw[c];exact m) ?_ (by rw[c];exact i);rw[c];refine⟨.ref s.heap.objs.size,_,I.laid (t':=s.toks) (o:=.tup<|eG d lo hi) (λb t q=>Heap.get?_push_of_some _ q) (J9 _) ?_,rfl,q _<|I.hok.fresh<|J9 _⟩;exact⟨Ky (cq d lo hi) i,_,(r.drop<|HT.sIx d.length 0 lo).take<|HT.sIx d.length d.length hi-HT.sIx d.length 0 lo,IsTup.new _ _⟩
def GV (K:J2):R2:=λx y H Q=>∃a b d c,x=.ref a/\y=.ref b/\SqT K H a d/\SqT K H b c/\d≠[]/\d.length+c.length<=sizeLine /\
 (c=[]->Q (.ref a) H)/\(c≠[]->∀p,H p=J->Q (.ref p) (upd H p<|.tup<|d++c))
theorem Vals.nil_iff {b:U V}{a:U B}(r:Vals b a):a=[] ↔ b=[]:=by
 cases r with
 |nil=>simp
 |cons _ _=>simp
theorem y9:OpR X (K6 .Add) (GV X.K):=by intro i s G H x y v u Q I rx t h;obtain⟨a,b,A,D,rfl,rfl,k,l,hx,f,p,r⟩:=h;cases rx;cases t;obtain⟨m,d,n,_⟩:=I.tuple k;obtain⟨g,c,p2,_⟩:=I.tuple l;refine HT.cat_tup n p2 (λz=>hx<|d.nil_iff.mp z) (λz=>⟨.ref a,H,I,rfl,p<|c.nil_iff.mp z⟩) (λz=>?_) (by rw[<- d.length,<- c.length];exact f);refine⟨.ref s.heap.objs.size,_,I.laid (t':=s.toks) (o:=.tup<|A++D) (λb F q=>Heap.get?_push_of_some _ q) (J9 _) ?_,rfl,r (λw=>z<|c.nil_iff.mpr w) _<|I.hok.fresh<|J9 _⟩;exact⟨by rw[Kk];exact f,_,d.append c,IsTup.new _ _⟩
end
def ixN (n:Y)(i:Int):j Y:=if 0<=i then(if i<n then O i.toNat else J) else if -(n:Int)<=i then O (i+n).toNat else J
def atI {c:Type}(b:U c)(i:Int):j c:=(ixN b.length i).bind λa=>b[a]?
theorem oN {n:Y}{i:Int}{a:Y}(h:ixN n i=O a):seqIndex? i n=O a/\a<n/\-(n:Int)<=i/\i<n:=by
 unfold ixN at h;by_cases c:0<=i
 .rw [QG c] at h;by_cases b:i<n
  .rw [QG b] at h;have e:i.toNat=a:=KH h;exact⟨by rw[seqIndex_of c b,e],by lia,by lia,b⟩
  .rw[QH b] at h;cases h
 .rw [QH c] at h;by_cases b:-(n:Int)<=i
  .rw [QG b] at h;have e:(i+n).toNat=a:=KH h;exact⟨by rw[Rx (by lia) b,e],by lia,b,by lia⟩
  .rw[QH b] at h;cases h
theorem jn {c:Type}{b:U c}{i:Int}{v:c}(h:atI b i=O v):∃a,seqIndex? i b.length=O a/\b[a]?=O v/\a<b.length/\-(b.length:Int)<=i/\i<b.length:=by
 unfold atI at h;cases e:ixN b.length i with
 |none=>rw[e] at h;cases h
 |some a=>rw[e] at h;obtain⟨d,f,g,k⟩:=oN e;exact⟨a,d,h,f,g,k⟩
def jO (b:QQ):Prop:=∀o i,Nb b JY o i=operate [o,i] (LC o i)
def IxR (X:Cx)(r:R2):Prop:=
 ∀(c a:QQ) (b:U<|QF×Obj) (s:J0) (d:St) (H:Hp) (x y:V) (v u:B) (Q:VK),Inv X b d H s->RelV x v->RelV y u->r x y H Q ->
  Nb a JY v u=operate [v,u] (LC v u)->QK (J4 X.prog X.w) X.A (Ro c a v u) (EP X b d Q) X.xe s
def MtR (X:Cx)(id:QZ)(r:V->U V->Hp->VK->Prop):Prop:=
 ∀(a:U<|QF×Obj) (s:J0) (d:St) (H:Hp) (x:V) (c:U V) (v:B) (b:U B) (Q:VK),Inv X a d H s->RelV x v->Vals c b->r x c H Q ->
  QK (J4 X.prog X.w) X.A (call (.builtin id) (v::b)) (EP X a d Q) X.xe s
section
variable {X:Cx}{a b:QQ}{ta tb:TE}{pos:Pos}
theorem IxR.or {r g:R2}(h:IxR X r)(l:IxR X g):IxR X (λx y H Q=>r x y H Q\/g x y H Q):=by
 intro d c e s k H x y v u Q I rx i q f;rcases q with q|q
 .exact h d c e s k H x y v u Q I rx i q f
 .exact l d c e s k H x y v u Q I rx i q f
theorem AS {r:R2}(g:IxR X r)(e:PE X a ta)(f:PE X b tb)(i:jO b):PE X (.Subscript a b pos) (tOp r ta tb):=by intro c s m H Q I h;exact Subscript_<|Bp e f I h λv u l x y d I2 rx k q=>g a b c l m d x y v u Q I2 rx k q<|i _ _
def II (K:J2):R2:=λx y H Q=>∃p c i v,x=.ref p/\y=.int i/\SqL K H p c/\atI c i=O v/\Q v H
def I9 (K:J2):R2:=λx y H Q=>∃p c i v,x=.ref p/\y=.int i/\SqT K H p c/\atI c i=O v/\Q v H
noncomputable def Jf:R2:=λx y H Q=>∃z i c,x=.str z/\y=.int i/\z.length<=sizeLine/\atI z.cps.toList i=O c/\Q (.str ⟨#[c]⟩) H
theorem yG:IxR X (II X.K):=by
 intro n m d s F H x y v u Q I rx ry h D;obtain⟨p,xs,i,z,rfl,rfl,Z,N,q⟩:=h;cases rx;obtain⟨t,rfl⟩:=ry;obtain⟨g,r,k,hz⟩:=I.list Z;obtain⟨c,e,G,h3,L,M⟩:=jn N;obtain⟨w,o,l⟩:=r.get G;have P:=r.length;have hn:=fo;have fin:EP X d F Q w s:=⟨z,H,I,l,q⟩;by_cases A:0<=i
 .have f:i.toNat=c:=by rw[seqIndex_of A M] at e;exact KH e
  exact item_listR k.isList A (by lia) (by rw[f];simpa using o) fin D
 .have f:(i+(g.toArray.size:Int)).toNat=c:=by rw[Rx (by lia) L] at e;rw[Ko,<- P];exact KH e
  exact Rf (x:=w) k.isList.typeIs slot_list_getitem.lookup
   (wpAny_getItem_list_neg (Q:=λr s'=>r=w/\EP X d F Q r s') k.isList (by lia) (by rw[Ko]<;>lia) (by lia) (by rw[f];simpa using o) ⟨rfl,fin⟩) D
theorem Ej:IxR X (I9 X.K):=by
 intro f e c s k H x y v u Q I rx L h F;obtain⟨p,xs,i,z,rfl,rfl,D,o,q⟩:=h;cases rx;obtain⟨t,rfl⟩:=L;obtain⟨G,r,g,hz⟩:=I.tuple D;obtain⟨j,m,n,N,P,Z⟩:=jn o;obtain⟨w,l,d⟩:=r.get n;have A:=r.length;have hn:=fo;have fin:EP X c k Q w s:=⟨z,H,I,d,q⟩
 exact Rf (x:=w) g.typeIs slot_tuple_getitem.lookup
  (getItem_tuple (j:=j) (Q:=λr M=>r=w/\EP X c k Q r M) g (by lia) (by lia) (by rw[Ko,<- A];exact m) (by simpa using l) ⟨rfl,fin⟩) F
theorem Er:IxR X Jf:=by
 intro f e k s L H x y v u Q I rx w h r;obtain⟨z,i,c,rfl,rfl,F,o,q⟩:=h;obtain⟨t,rfl⟩:=rx;obtain⟨G,rfl⟩:=w;obtain⟨d,g,l,A,m,n⟩:=jn o;have p:z.cps.toList.length=z.length:=by simp[Str.length]
 rw[p] at g m n;have D:=fo
 exact tail_any (typeIs_str s z t) slot_str_getitem.lookup (getItem_str (c:=c) (by
  have e1:decide (i < -(2 ^ 63:Int))=false:=QP (by lia);have e2:decide (i >= 2 ^ 63)=false:=QP (by lia);rw[e1,e2,Bool.or_false]) (by rw[g];simpa using l) ⟨.str ⟨#[c]⟩,H,I.tok _,⟨_,rfl⟩,q⟩) r
theorem mI (d:U B)(n c:Y)(u:B):Obj.mapSeq (·.setIfInBounds c u) {cls:=.type "list",data:=.seq d.toArray n}={cls:=.type "list",data:=.seq (d.set c u).toArray n}:=by simp[Obj.mapSeq]
theorem Inv.lst {d:U<|QF×Obj}{g:St}{H:Hp}{s:J0}{p:QF}{f:U V}(I:Inv X d g H s)(h:H p=O (.lst f)):
  ∃(c:U B) (n:Y),Vals f c/\s.heap.get? p=O {cls:=.type "list",data:=.seq c.toArray n}/\f.length<=sizeLine:=by
 obtain⟨z,c,n,r,e⟩:=I.hok p _ h;exact⟨c,n,r,e,z⟩
theorem Inv.lstUpd {d:U<|QF×Obj}{m:St}{H:Hp}{s:J0}{p:QF}{w k:U V}{g c:U B}{n i:Y}{f:Obj->Obj}(I:Inv X d m H s)(h:H p=O (.lst w))
  (ho:s.heap.get? p=O {cls:=.type "list",data:=.seq g.toArray n}) (l:f {cls:=.type "list",data:=.seq g.toArray n}={cls:=.type "list",data:=.seq c.toArray i}) (r:Vals k c) (v:k.length<=sizeLine) (t:Y):
  Inv X d m (upd H p<|.lst k) {s with heap:=s.heap.update p f,toks:=t}:=by
 have e:(s.heap.update p f).get? p=O {cls:=.type "list",data:=.seq c.toArray i}:=by rw[Heap.get?_update_self f ho<|by rw[l]<;>rfl,l]
 refine I.write (x:=p) (e:=p) (by rw[h];trivial) (.inl rfl) (λb u o q=>(Heap.get?_update_other _ _<|KS o).trans q) ⟨_,e⟩ ?_;exact⟨v,c,i,r,e⟩
def Ht:V->V->V->Hp->(Hp->Prop)->Prop:=λo i v H Q=>∃p d k c,o=.ref p/\i=.int k/\H p=O (.lst d)/\ixN d.length k=O c/\Q (upd H p<|.lst<|d.set c v)
theorem tq:ES X Ht:=by
 intro e s L H o i v P iv u Q I D A F h;obtain⟨p,G,k,c,rfl,rfl,hp,y,q⟩:=h;cases D;obtain⟨t,rfl⟩:=A;obtain⟨d,n,r,ho,z⟩:=I.lst hp;obtain⟨f,M,w,x⟩:=oN y;have g:=r.length;have N:=fo
 have l:Inv X e L (upd H p (.lst (G.set c v))) {s with heap:=s.heap.update p<|Obj.mapSeq (·.setIfInBounds c u)}:=
  I.lstUpd hp ho (mI d n c u) (r.set F c) (by rw[KO];exact z) s.toks
 by_cases m:0<=k
 .have hk:k.toNat=c:=by rw[seqIndex_of m x] at f;exact KH f
  exact PySem.W.ki_setAt ho m (by lia) (by rw[Ko,<- g];exact x)<|by rw[hk];exact⟨_,l,q⟩
 .have hk:(k+(d.toArray.size:Int)).toNat=c:=by rw[Rx (by lia) w] at f;rw[Ko,<- g];exact KH f
  exact PySem.W.ki_setBack ho (by lia) (by rw[Ko,<- g];exact w) (by lia)<|by rw[hk];exact⟨_,l,q⟩
theorem jN (lo c:j Int)(n:Y):(Mf lo c J n).1=((HT.sIx n 0 lo:Y):Int)/\(Mf lo c J n).2.1=((HT.sIx n n c:Y):Int)/\(Mf lo c J n).2.2=1:=by
 refine⟨?_,?_,rfl⟩
 .cases lo with
  |none=>simp[Mf,HT.sIx]
  |some i=>
   simp only[Mf,HT.sIx,Oy,show(1:Int)>0 by decide,RD];by_cases h:i<0
   .simp only[h,RD]<;>lia
   .simp only[h,if_false]<;>lia
 .cases c with
  |none=>simp[Mf,HT.sIx]
  |some i=>
   simp only[Mf,HT.sIx,Oy,show(1:Int)>0 by decide,RD];by_cases h:i<0
   .simp only[h,RD]<;>lia
   .simp only[h,if_false]<;>lia
theorem iG (c:U B)(lo d:j Int):slicePick c.toArray lo d J=((c.drop<|HT.sIx c.length 0 lo).take<|HT.sIx c.length c.length d-HT.sIx c.length 0 lo).toArray:=by obtain⟨e,f,g⟩:=jN lo d c.toArray.size;unfold slicePick;rw[e,f,g];simp only[sliceRange_one,pick_run,Ko]<;>rfl
def xG (K:J2):V->j Int->j Int->Hp->VK->Prop:=λx lo d H Q=>∃a c,x=.ref a/\SqL K H a c/\∀p,H p=J->Q (.ref p) (upd H p<|.lst<|eG c lo d)
theorem sl_list:SlR X (xG X.K):=by intro g s y H x v u w lo e t Q I rx i m n h;obtain⟨a,c,rfl,hx,q⟩:=h;cases rx;obtain⟨l,r,f,k⟩:=I.list hx;have d:=r.length;refine⟨"list",_,slot_list_getitem.lookup,f.isList.typeIs,?_⟩;refine wpAny_getItem_list_slice f.isList i m n .none (by simp) ?_ (by rw[Ko]<;>lia);rw[iG,<- d];refine⟨.ref s.heap.objs.size,_,I.laid (t':=s.toks) (o:=.lst<|eG c lo e) (λb p q=>Heap.get?_push_of_some _ q) (J9 _) ?_,rfl,q _<|I.hok.fresh<|J9 _⟩;exact⟨Ky (cq c lo e) k,_,0,(r.drop<|HT.sIx c.length 0 lo).take<|HT.sIx c.length c.length e-HT.sIx c.length 0 lo,Heap.get?_push_size _ rfl⟩
noncomputable def eqV:V->V->QJ
|.non,.non=>JZ
|.bl a,.bl b=>a==b
|.bl a,.int b=>(if a then 1 else 0)==b
|.int a,.bl b=>a==(if b then 1 else 0)
|.int a,.int b=>a==b
|.str a,.str b=>a==b
|_,_=>JY
def inV (x:V)(c:U V):QJ:=c.any λy=>eqV y x
theorem ka:bI X (.type "list") (λF H Q=>∃p i,F=[.ref p]/\(SqL X.K H p i\/SqT X.K H p i)/\∀l,H l=J->Q (.ref l) (upd H l<|.lst i)):=by
 intro x s G H F L Q I r h;obtain⟨p,i,rfl,m,q⟩:=h;obtain⟨u,rfl,rx⟩:=cc r;cases rx
 have fin:∀(c:U B),Vals i c->i.length<=sizeLine->∀(d:QS) (f:Y),(∀b D,s.heap.get? b=O D->d.get? b=O D) ->
   d.get? s.heap.objs.size=O {cls:=.type "list",dict:=J,data:=.seq c.toArray f,slots:=#[]}->EP X x G Q (.ref s.heap.objs.size) {s with heap:=d}:=λc g t d f v e=>
  ⟨.ref s.heap.objs.size,_,I.laid (t':=s.toks) v (J9 _)<|show ObjOk X.prog X.w _ d _ (.lst i) from⟨t,c,f,g,e⟩,rfl,q _<|I.hok.fresh<|J9 _⟩
 rcases m with m|m
 .obtain ⟨c,g,A,t⟩:=I.list m;have k:=g.length;obtain⟨o,ho,y,n,z⟩:=A.isList;exact call_list_seq p (.inl rfl) ho y z (λd f v e=>fin c g t d f v e)<|by simp only[Ko]<;>lia
 .obtain ⟨c,g,A,t⟩:=I.tuple m;have k:=g.length;obtain⟨o,ho,y,n,z⟩:=A;exact call_list_seq p (.inr rfl) ho y z (λd f v e=>fin c g t d f v e)<|by simp only[Ko]<;>lia
theorem iF:bI X (.type "tuple") (λv H Q=>∃p f,v=[.ref p]/\((SqL X.K H p f/\∀l,H l=J->Q (.ref l) (upd H l<|.tup f))\/(SqT X.K H p f/\Q (.ref p) H))):=by
 intro c s x H v z Q I r h;obtain⟨p,f,rfl,h⟩:=h;obtain⟨u,rfl,rx⟩:=cc r;cases rx;rcases h with⟨i,q⟩|⟨i,q⟩
 .obtain ⟨d,m,k,t⟩:=I.list i;have n:=m.length;refine call_tuple_list k.isList (λg y=>?_) (by simp only[Ko]<;>lia);have I1:Inv X c x H {s with heap:=g}:=I.kept (t':=s.toks) y
  have I2:Inv X c x (upd H g.objs.size (.tup f)) {s with heap:=g.push {cls:=.type "tuple",data:=.seq d.toArray}}:=
   I1.laid (t':=s.toks) (λb o e=>Heap.get?_push_of_some _ e) (J9 _) (show ObjOk X.prog X.w _ _ _ (.tup f) from⟨t,d,m,IsTup.new _ _⟩)
  exact⟨.ref g.objs.size,_,I2,rfl,q _<|I1.hok.fresh<|J9 _⟩
 .obtain ⟨d,m,k,t⟩:=I.tuple i;exact call_tuple_same k ⟨.ref p,H,I,rfl,q⟩
def tyV (K:J2)(T:QZ)(x:V)(H:Hp):Prop:=match x with
|.str _=>T="str"
|.int _=>T="int"
| .ref p=>(T="list"/\∃ d,SqL K H p d)\/(T="tuple"/\∃ o,K.lookup p=O o/\o.cls=.type "tuple"/\o.dict=J) \/
  (T="dict"/\((∃c,H p=O (.dK c))\/∃c,H p=O (.dT c)))\/(T="set"/\∃S n,H p=O (.set S n))
|_=>QX
theorem CH {f:U<|QF×Obj}{y:St}{H:Hp}{s:J0}{T:QZ}{x:V}{v:B}(I:Inv X f y H s)(r:RelV x v)(ty:tyV X.K T x H):
  s.TypeIs v T/\∀a,v=.ref a->∃k,s.heap.get? a=O k/\k.dict=none:=by
 cases x with
 |str z=>obtain⟨t,rfl⟩:=r;cases(show T="str" from ty);exact⟨typeIs_str s z t,λ_ e=>nomatch e⟩
 |int i=>obtain⟨t,rfl⟩:=r;cases(show T="int" from ty);exact⟨typeIs_int s i t,λ_ e=>nomatch e⟩
 | ref p =>
  cases r;rcases ty with⟨rfl,A,u⟩|⟨rfl,o,hk,m,g⟩|⟨rfl,hk⟩|⟨rfl,S,n,hk⟩
  .obtain ⟨w,_,l,_⟩:=I.list u;refine⟨l.isList.typeIs,λa e=>?_⟩;cases e;obtain⟨o,n,e,c,g,_⟩:=l;exact⟨o,e,g⟩
  .refine ⟨⟨o,I.kIn p o hk,m⟩,fun a e=>?_⟩;cases e;exact⟨o,I.kIn _ o hk,g⟩
  .have z:∃ o,s.heap.get? p=O o/\o.ExactDict:=by
    rcases hk with⟨h,hk⟩|⟨h,hk⟩
    .obtain ⟨_,_,_,_,o,_,_,e,d,_⟩:=I.hok p _ hk;exact⟨o,e,d⟩
    .obtain ⟨_,_,_,_,o,_,_,e,d,_⟩:=I.hok p _ hk;exact⟨o,e,d⟩
   obtain⟨o,e,d⟩:=z;refine⟨⟨o,e,d.1⟩,λa e2=>?_⟩;cases e2;exact⟨o,e,d.2.1⟩
  .obtain ⟨o,_,_,_,e,d,_⟩:=I.hok p _ hk;refine⟨⟨o,e,d.1⟩,λa e2=>?_⟩;cases e2;exact⟨o,e,d.2.1⟩
 |_=>exact LI ty
def tBM (K:J2)(T:QZ)(r:V->U V->Hp->VK->Prop)(to:TE)(t:TA):TE:=λd H Q=>to d H λx c=>tyV K T x c/\t d c λf e=>r x f e Q
variable {o e:QQ}{es:U QQ}{to:TE}{t:TA}{name:Str}{apos cpos:Pos}{T id:QZ}{r:V->U V->Hp->VK->Prop}
theorem wm (G:PlainAttrs T)(k:Slot T name id)(l:typeOf (.builtin id)=pure (.type "method_descriptor"))(D:MtR X id r)(ho:PE X o to)(A:PA X (e::es) t)
  (f:Ng o name X.env (QY o X.env)=QY o X.env:=by rfl)
  (i:((Kw cpos<|J5 (e::es) X.env).all (λx=>!x.1)&&(backToKw cpos<|Np [] X.env).all (λx=>x.1.isSome)
  &&decide ((e::es).length+([]:U LZ).length+(if([]:U LZ).isEmpty then 0 else 1)<30))=true:=by rfl)
  (g:(apos.endLine==cpos.line)=true:=by rfl) (F:J5 (e::es) X.env=(JY,QY e X.env)::J5 es X.env:=by rfl) (d:(Kw cpos<|J5 es X.env).any (·.1)=false:=by rfl):
  PE X (.Call (.Attribute o name apos) (e::es) [] cpos) (tBM X.K T r to t):=by
 intro c s m H Q I h;refine wpAny_Call_method_late f i g rfl (thn (ho c s m H _ I h) λv P ⟨x,u,I1,p,ty,L⟩=>?_);obtain⟨y,z⟩:=CH I1 p ty;refine⟨T,id,G,k,l,y,z,?_⟩;have n:=A cpos c P m u _ I1 L;rw[F] at n ⊢;refine Calls.callWith_builtin (by show(JY || (Kw cpos<|J5 es X.env).any (·.1))=JY;rw[d]<;>rfl)<|Calls.evalArgs_plain ?_;exact thn n λus Z ⟨vs,w,I2,N,M⟩=>D c Z m w x vs v us Q I2 p N M
end
def MtM (X:Cx)(id:QZ)(r:V->U V->Hp->VK->Prop):Prop:=
 ∀(a:U<|QF×Obj) (s:J0) (d:St) (H:Hp) (x:V) (c:U V) (v:B) (b:U B) (Q:VK),Inv X a d H s->RelV x v->Vals c b->r x c H Q ->
  QK (J4 X.prog X.w) X.A (call (.builtin id) (v::b)) (EP X a d Q) X.xe s
theorem Vals.one:∀{x:V} {a:U B},Vals [x] a->∃u,a=[u]/\RelV x u
|_,_,.cons r .nil=>⟨_,rfl,r⟩
theorem Vals.eraseIdx:∀{b:U V} {a:U B} (i:Y),Vals b a->Vals (b.eraseIdx i) (a.eraseIdx i)
|_,_,_,.nil=>.nil
|_,_,0,.cons _ t=>t
|_,_,i+1,.cons r t=>.cons r<|Vals.eraseIdx i t
theorem Vals.reverse {b:U V}{a:U B}(h:Vals b a):Vals b.reverse a.reverse:=by
 induction h with
 |nil=>exact .nil
 |cons r t c=>rw[NT,NT];exact Vals.append c<|.cons r .nil
theorem Vals.rep {b:U V}{a:U B}(h:Vals b a):∀k:Y,Vals (Kb k b).flatten (Kb k a).flatten
|0=>.nil
|k+1=>by rw[L8,L8,NS,NS];exact Vals.append h<|Vals.rep h k
theorem jd {a:Type}:∀(l:U a) (i:Y),(l.eraseIdx i).length<=l.length
|[],_=>J9 _
|_::_,0=>La _
|_::r,i+1=>Ox<|jd r i
theorem iZ (b:U B):∀(k:Y) (a:U B),
 Of (λc d=>c++d) a.toArray (Kb k b.toArray)=(a++(Kb k b).flatten).toArray
|0,a=>by simp
| k+1,a=>by
 have e:a.toArray++b.toArray=(a++b).toArray:=by simp
 have e2:(a++b)++(Kb k b).flatten=a++(Kb (k+1) b).flatten:=by rw[L8,NS,Lr]
 rw[<- e2,<- iZ b k (a++b),<- e,L8,Ny]
section
variable {X:Cx}{pins:U (QF×Obj)}{σ:St}{H:Hp}{s:J0}{l b:QF}{xs ys zs:U V}
theorem Inv.lset {a its':U B}{n:Y}{f:QT B->QT B}{m:Y}(I:Inv X pins σ H s)(c:H l=O (.lst xs))
  (e:s.heap.get? l=O {cls:=.type "list",data:=.seq a.toArray n}) (g:f a.toArray=its'.toArray) (i:Vals ys its') (k:ys.length<=sizeLine):
  Inv X pins σ (upd H l<|.lst ys) {s with heap:=s.heap.update l<|Obj.mapSeq f,toks:=m}:=by
 have q:=PySem.IsL.update e f;rw[g] at q;refine I.write (x:=l) (e:=l) (by rw[c];exact trivial) (.inl rfl) (λo u d h=>(Heap.get?_update_other s.heap (Obj.mapSeq f)<|KS d).trans h) ⟨_,q⟩ ?_;exact⟨k,its',_,i,q⟩
theorem Inv.lnew {a:U B}{t':Y}(I:Inv X pins σ H s)(c:Vals ys a)(d:ys.length<=sizeLine):
  Inv X pins σ (upd H s.heap.objs.size<|.lst ys) {s with heap:=s.heap.push {cls:=.type "list",data:=.seq a.toArray},toks:=t'}:=
 I.laid (λ_ _ q=>Heap.get?_push_of_some _ q) (J9 _) ⟨d,a,0,c,Heap.get?_push_size _ rfl⟩
theorem Inv.fresh (I:Inv X pins σ H s):H s.heap.objs.size=none:=I.hok.fresh<|J9 _
theorem Inv.lstM (I:Inv X pins σ H s)(c:H l=O (.lst xs)):xs.length<=sizeLine/\∃(a:U B) (n:Y),Vals xs a/\xs.length=a.length/\s.heap.get? l=O {cls:=.type "list",data:=.seq a.toArray n}:=by obtain⟨z,a,n,r,e⟩:=I.hok l _ c;exact⟨z,a,n,r,r.length,e⟩
theorem vp {n:Y}(h:n<=sizeLine):Builtin.List.listTooLong n=false:=by unfold Builtin.List.listTooLong;exact QP<|by lia
end
section
variable {X:Cx}
def yb:V->U V->Hp->VK->Prop:=λx b H Q=>∃l a y,x=.ref l/\b=[y]/\H l=O (.lst a)/\a.length<sizeLine/\Q .non (upd H l<|.lst<|a++[y])
theorem ja:MtM X "list.append" yb:=by intro c s p H x m v k Q I rx f h;obtain⟨l,o,y,rfl,rfl,b,i,q⟩:=h;cases rx;obtain⟨u,rfl,d⟩:=f.one;obtain⟨z,a,n,r,g,e⟩:=I.lstM b;refine Rt F.slot_list_append ⟨_,e,rfl⟩ F.entry_list_append (F.args_list_append_2 _ _) (PySem.list_append l a.toArray n u<|by rw[Ko];lia) ⟨e,?_⟩;refine⟨.non,_,I.lset (its':=a++[u]) b e (by simp) (r.append<|.cons d .nil) ?_,rfl,q⟩;rw[Kk,KN];lia
def Em:V->U V->Hp->VK->Prop:=λx b H Q=>∃l a i k y,x=.ref l/\b=[.int i]/\H l=O (.lst a)/\-(2 ^ 63)<=i/\i<2 ^ 63/\seqIndex? i a.length=O k/\a[k]?=O y/\Q y (upd H l<|.lst<|a.eraseIdx k)
theorem qV:MtM X "list.pop" Em:=by
 intro d s N H x M v L Q I rx D h;obtain⟨l,G,i,k,y,rfl,rfl,c,f,g,hk,p,q⟩:=h;cases rx;obtain⟨u,rfl,A⟩:=D.one;obtain⟨t,rfl⟩:=A;obtain⟨z,a,n,r,m,e⟩:=I.lstM c;obtain⟨w,o,b⟩:=r.get p
 refine Rt F.slot_list_pop ⟨_,e,rfl⟩ F.entry_list_pop (F.args_list_pop_2 _ _)
  (MeetsSeq.list_pop_at l a.toArray n i t k w (fitsIndex_both f g) (by rw[Ko,<- m];exact hk) (by rw[<- M5];exact o)<|by rw[Ko];lia) ⟨e,?_⟩
 refine⟨y,_,I.lset (its':=a.eraseIdx k) c e ?_ (r.eraseIdx k) ?_,b,q⟩
 .show a.toArray.eraseIdxIfInBounds k=(a.eraseIdx k).toArray;rw[List.eraseIdxIfInBounds_toArray]
 .have:=jd G k;lia
def F4:R2:=λx y H Q=>∃l b a c,x=.ref l/\y=.ref b/\H l=O (.lst a)/\H b=O (.lst c)/\a.length+c.length<=sizeLine/\∀p,H p=J->Q (.ref p) (upd H p<|.lst<|a++c)
theorem op_cat:OpR X (K6 .Add) F4:=by
 intro d s G H x y v u Q I rx o h;obtain⟨l,b,A,F,rfl,rfl,i,g,t,q⟩:=h;cases rx;cases o;obtain⟨z,c,n,r,p,e⟩:=I.lstM i;obtain⟨D,a,w,m,k,e2⟩:=I.lstM g;refine PySem.P.add_list e e2 ?_ (by rw[Ko,Ko];lia);have f:c.toArray++a.toArray=(c++a).toArray:=by simp
 rw[f];exact⟨.ref _,_,I.lnew (t':=s.toks) (r.append m)<|by rw[Kk];lia,rfl,q _ I.fresh⟩
def GI:R2:=λx y H Q=>∃l k a,x=.ref l/\y=.int k/\H l=O (.lst a)/\-(2 ^ 63)<=k/\k<2 ^ 63/\a.length * k.toNat<=sizeLine /\
 ∀p,H p=J->Q (.ref p) (upd H p<|.lst (Kb k.toNat a).flatten)
theorem y6 {c:Type}(a:U c)(k:Y):(Kb k a).flatten.length=k * a.length:=by
 induction k with
 |zero=>simp
 |succ k b=>rw[L8,NS,Kk,b,Nat.succ_mul,Mn]
theorem DG:OpR X (K6 .Mult) GI:=by
 intro A s σ H x y v u Q I rx P h;obtain⟨l,k,xs,rfl,rfl,M,G,L,w,q⟩:=h;cases rx;obtain⟨t,rfl⟩:=P;obtain⟨z,b,n,r,N,e⟩:=I.lstM M;have g:b.toArray.size * k.toNat<=sizeLine:=by rw[Ko,<- N];exact w
 have d:¬b.toArray.size * k.toNat>(2 ^ 63-1) / 8:=by
  have:(sizeLine:Y)<=(2 ^ 63-1) / 8:=by decide
  lia
 have f:¬(!Builtin.List.listFitsIndex k)=true:=by rw[fitsIndex_both G L];exact Kv
 have c:¬Builtin.List.listTooLong (b.toArray.size * k.toNat)=true:=by rw[vp g];exact Kv
 have i:Of (λo p=>o++p) #[] (Kb (if b.toArray.isEmpty=JZ then 0 else k.toNat) b.toArray)=(Kb k.toNat b).flatten.toArray:=by
  have D:∀m:Y,Of (λo p=>o++p) #[] (Kb m b.toArray)=(Kb m b).flatten.toArray:=λm=>by have:=iZ b m [];rw[Lv] at this;exact this
  rw[D];cases b with
  |nil=>simp
  |cons a r'=>rw[QH<|by simp]
 refine wpAny_binaryOp_repeat_ref (T:="list") (U:="int") (by decide) ⟨_,e,rfl⟩ (λZ=>typeIs_int Z k t) noFill_list_mul F.fills_int_mul F.slot_int_rmul repeat_list F.slot_int_index.lookup
  (Rt F.slot_int_rmul (typeIs_int s k t) F.entry_int_rmul (F.args_int_rmul_2 _ _) (int___rmul___int_list k t l b.toArray n)
   ⟨e,rfl,⟨_,e,rfl⟩,Rt F.slot_list_mul ⟨_,e,rfl⟩ F.entry_list_mul (F.args_list_mul_2 _ _) (AutoListH.list___mul___list_int_3 l b.toArray n k t f d c) ⟨e,?_⟩⟩)
 rw[i];exact⟨.ref _,_,I.lnew (t':=s.toks) (r.rep k.toNat)<|by rw[y6,O9];exact w,rfl,q _ I.fresh⟩
end
end L2
namespace Att
open PySem PySem.W PySem.Calls PyProof.Rows
theorem fL {P:K0}{h:QS}:∀(c:U Int) (d:U B),WellAll P h d (c.map WData.int)->Q5 d c:=by
 intro c;induction c with
 |nil=>intro d w;rw[MD] at w;cases w;exact .nil
 | cons n c e =>
  intro d w;rw[Ku] at w;cases w with
  |cons a b=>cases a;exact .cons _ _<|e _ b
theorem qP {l:OpenLaw}{n:Y}(v:l.most=O n){P:K0}{h:QS}{args:U WData}{vals:U B}
  (c:l.row.toRowW.claim.pre args=JZ) (m:WellAll P h vals args):
  ∃a p b,vals=[Value.ref a]/\args=[WData.list<|b.map WData.int]/\h.get? a=O {cls:=.type "list",data:=.seq p.toArray}/\Q5 p b/\b.length<=n:=by
 have k:WShape.hasAll [] args [.list .int]=true:=(pre_splitW c).1;have o:l.pre.holds [] {args:=args}=true:=(pre_splitW c).2;obtain⟨d,r,rfl,s,t⟩:=hasAllW_cons k;obtain rfl:=hasAllW_nil t;obtain⟨z,rfl,u⟩:=hasW_list s;obtain⟨b,rfl⟩:=items_int u
 have f:b.length<=n:=by
  unfold OpenLaw.pre at o;have g:(WTm.not (.lt (.lit (.int (n:Int))) (.len (.arg 0)))).holds [] {args:=[.list<|b.map .int]}=true:=by have g:=(holds_andW o).1;rw[v] at g;exact g
  have i:=condW_of g<|w_not<|w_lt w_lit<|w_len_list<|w_arg rfl;rw[J6] at i;refine PV λq=>?_;have w:(n:Int)<((b.length:Y):Int):=by lia
  first
   |(rw[QE w] at i;exact QL i<|by decide)
   |(simp at i;lia)
 cases m with
 |cons x y=>
  cases y;cases x with
  |list ho e=>exact⟨_,_,b,rfl,rfl,ho,fL b _ e,f⟩
theorem qB (l:OpenLaw)(args:U WData):l.row.toRowW.claim.post args (.bool JZ) args=true:=
 postW_of (r:=l.row.toRowW) (X:=(JZ==JZ))
  (show WShape.has [] (.bool JZ) .bool=JZ by first|rfl|decide|simp[WShape.has,WShape.arms,WShape.armsAll])
  (show(WTm.eq .res<|.lit<|.bool JZ).value [] {args:=args,res:=O<|.bool JZ,after:=args}=O (.bool<|JZ==JZ) from w_eq_bool (w_res rfl) w_lit) rfl
theorem attach_call {l:OpenLaw}{n:Y}{q:QN}{e:U Str}{M:(Str->j B)->QS->Prop}{N:J8->QS->Prop}{d:DefRec}
  (hn:l.most=O n) (D:d.params.defaults=[])
  (call:∀ (w:J8) (g c:J0) (x I:Str->j B) (m:QF) (o:Obj) (L v h:B) (a:QF) (k:U B) (y:U Int),
   Ground q e [] M w g x I c.heap->N w c.heap ->
   c.heap.get? m=O o->o.data=.func (docDef d.name d.params d.body d.scope L v h)->c.heap.CodeRec v d.name->x d.name=O (.ref m) ->
   c.heap.get? a=O {cls:=.type "list",data:=.seq k.toArray}->Q5 k y->y.length<=n->c.gens=#[] ->
   KZ (J4 l.prog w) LY (.call (.ref m) ⟨[.ref a],[]⟩) (λr z=>r=.ok (.ret<|.bool JZ)/\OldK c.heap z.heap/\z.os=c.os/\LN z.gens) c):
  WalkO q e M N l.row.toRowW d [] (λf k=>Oe f k):=by
 intro w g c x I G b m o L v h dV kV ho hd A Q F hg P vals as u Z hrd H hlo;obtain rfl:dV=.none:=Dflts.none Q D;obtain rfl:kV=.none:=Dflts.noKw Q;obtain⟨a,k,y,rfl,rfl,t,i,p⟩:=qP hn u H;refine enter_call<|Nc (call w g c x I m o L v h a k y G b ho (fd_plain hd) A F t i p hg) λr z hq=>?_;obtain⟨rfl,h2,h3,h4⟩:=hq;exact⟨.inl ⟨.bool JZ,.bool JZ,[],rfl,λ_=>rfl,.bool JZ,qB l _,λ_=>⟨Pg,λ_ hm=>(nomatch hm)⟩⟩,h2,h3,h4⟩
end Att
namespace L2
open PySem PySem.Spec PyProof.Rows
theorem bU:∀{b:U B} {a:U Int},Q5 b a->Vals (a.map V.int) b
|_,_,.nil=>.nil
|_,_,.cons n t h=>.cons ⟨t,rfl⟩<|bU h
def uq (H:Hp):Prop:=∀b,H b=J\/∃o a,H b=O (.frz o<|.lst a)
theorem qT {P:QN}{w:J8}{K:J2}{Q mb:Str->j B}{CX:CXT}{k:Y}{fa a:QF}{fd:Lb}{x:Str}{sp:Sp}{c:J0}{y:U B}{Z:U Int}
  (KX:K.In c.heap) (I:c.heap.Ns KC Q) (g:c.heap.Ns builtinsNs mb) (hbb:∀x:Str,x≠"__name__"->mb x=L6 x) (G:c.heap.NoLimit) (hg:c.gens=#[])
  (ha:c.heap.get? a=O {cls:=.type "list",data:=.seq y.toArray}) (hi:Q5 y Z) (hl:Z.length<=sizeLine) (hr:Room k LY)
  (F:∀i:QS,K.In i->i.Ns KC Q->eE P w K Q i CX k fa fd [x] sp) (t:∀(s:J0) (u:B),L0 s fd ⟨[u],[]⟩ [(x,u)])
  (hsp:∀H:Hp,uq H->SqL K H a (Z.map V.int)->sp [.ref a] H (λv _=>v=.bl JZ) λ_ _ _=>QX)
  (hCX:∀H e l,CX [] H c (λ_ _ _=>QX) e l->QX):
  KZ (J4 P w) LY (.call (.ref fa) ⟨[.ref a],[]⟩) (λr l=>r=.ok (.ret<|.bool JZ)/\OldK c.heap l.heap/\l.os=c.os/\LN l.gens) c:=by
 have rv:=bU hi;have N:=hi.length
 -- from an abstract heap in which nothing but the script may be tracked
 have core:∀ H:Hp,uq H->SqL K H a (Z.map V.int)->HOk P w H c.heap->(∀ b,H b≠J->b=a)->(H a≠J->K.lookup a=J) ->
   KZ (J4 P w) LY (.call (.ref fa) ⟨[.ref a],[]⟩) (λr l=>r=.ok (.ret<|.bool JZ)/\OldK c.heap l.heap/\l.os=c.os/\LN l.gens) c:=by
  intro H hO hS L hA hK;have f:∀{b:QF} {o:Obj},c.heap.get? b=O o->H b=J->(kd c.heap H).get? b=O o:=λe n=>sR e n
  have noA:∀{b:QF} {o:Obj} {A:QT Ri} {ep:Y},c.heap.get? b=O o->o.data=.dict A ep->H b=none:=λ{b o A ep} e d=>by
   cases q:H b with
   |none=>rfl
   |some u=>have e':b=a:=hA b (by rw[q];simp);subst e';rw[ha] at e;cases e;have d':Data.seq y.toArray _=Data.dict A ep:=d;cases d'
  have p:∀{b:QF} {m:Str->j B},c.heap.Ns b m->(kd c.heap H).Ns b m:=λ{b m} ⟨o,A,ep,e,d,r⟩=>⟨o,A,ep,f e<|noA e d,d,r⟩
  have D:K.In (kd c.heap H):=λb o e=>f (KX b o e) (by
   cases q:H b with
   |none=>rfl
   |some u=>
    have e':b=a:=hA b (by rw[q];simp);subst e';rw[hK<|by rw[q];simp] at e;cases e)
  have hM:Mod K Q (kd c.heap H):=⟨D,p I,⟨mb,p g,hbb⟩,let ⟨mc,h1,h2⟩:=G;⟨mc,p h1,h2⟩⟩;have e0:zU P w K Q (kd c.heap H) LY [] c H:=⟨rfl,hM,λb o e=>yH e,O8<|qH _ _,trivial,λb g=>QL (show b∈([]:U QF) from g)<|by simp,L,.of_eq hg⟩;refine Nc ((F _ D<|p I).run LY [] c H ⟨[.ref a],[]⟩ [.ref a] [.ref a] _ _ hr e0 (t c<|.ref a) (.cons rfl .nil)<|hsp H hO hS) λr l h=>?_;cases r with
  |error e=>exact(hCX H e l h).elim
  | ok fl =>
   cases fl with
   |next=>exact LI h
   |brk=>exact LI h
   |cont=>exact LI h
   | ret u =>
    obtain⟨v,H',os,bare,un,M,r',q⟩:=h;have q':v=.bl true:=q;subst q';obtain rfl:u=Value.bool true:=r';refine⟨rfl,OldK.of_keep λb o e=>?_,os,bare⟩;cases q:H b with
    |none=>exact un.keep b o e q (by intro z;exact QL (show b∈([]:U QF) from z)<|by simp)<|by simp
    | some u =>
     rcases hO b with z|⟨ob,xs,z⟩
     .rw[q] at z;cases z
     .have z2:=un.frzs b ob _ z;obtain⟨e1,_⟩:=L b _ z;obtain⟨e2,_⟩:=M b _ z2;rw[e] at e1;cases e1;exact e2
 cases hk:K.lookup a with
 |some o=>
  -- the script is one of the module's own objects
  have e:=KX a o hk;rw[ha] at e;cases e;refine core (λ_=>J) (λ_=>.inl rfl) (.inr ⟨_,y.toArray,_,hk,rfl,rfl,rfl,by rw[Ko,N];exact hl,by simpa using rv⟩) (λb u z=>by have z':(none:j HO)=O u:=z;cases z') (λb z=>QL rfl z) λz=>QL rfl z
 | none =>
  refine core (λb=>if b=a then O (.frz {cls:=.type "list",data:=.seq y.toArray} (.lst<|Z.map V.int)) else J) (λb=>?_) (.inl<|.inr ⟨{cls:=.type "list",data:=.seq y.toArray},QG rfl⟩) (λb u z=>?_) (λb z=>?_) λ_=>hk
  .by_cases g:b=a
   .exact .inr ⟨_,_,QG g⟩
   .exact .inl (QH g)
  .by_cases g:b=a
   .have z':=(QG g).symm.trans z;cases z';subst g;exact⟨ha,by rw[J6];exact hl,y,_,rv,ha⟩
   .have z':=(QH g).symm.trans z;cases z'
  .by_cases g:b=a
   .exact g
   .exact QL (QH g) z
theorem walk_of {l:OL}{n k:Y}{q:QN}{r:U Str}{XP:(Str->j B)->QS->Prop}{YP:J8->QS->Prop}{d:DefRec}{K:K0->J2}{CX:J8->CXT}{sp:J8->Sp}{x:Str}
  (hn:l.most=O n) (P:n<=sizeLine) (M:d.params.defaults=[]) (hr:Room k LY)
  (hY:∀(w:J8) (h:QS),YP w h->(K w.params).In h)
  (F:∀ (w:J8) (t:Str->j B) (A:QF) (h:QS),(K w.params).In h->h.Ns KC t->t d.name=O (.ref A) ->
   ∃I:Lb,(∀(s:J0) (u:B),L0 s I ⟨[u],[]⟩ [(x,u)]) /\
    ∀i:QS,(K w.params).In i->i.Ns KC t->eE l.prog w (K w.params) t i (CX w) k A I [x] (sp w))
  (Q:∀(w:J8) (H:Hp) (a:QF) (D:U Int),D.length<=n->uq H->SqL (K w.params) H a (D.map V.int)->sp w [.ref a] H (λv _=>v=.bl JZ) λ_ _ _=>QX)
  (L:∀(w:J8) (H:Hp) (s:J0) (e:B) (Z:J0),CX w [] H s (λ_ _ _=>QX) e Z->QX):
  P6 q r XP YP l.row.toRowW d [] (λf vs=>Oe f vs):=by
 refine Att.attach_call hn M λw s₀ z t mb A o pm cd doc a vs D G c ho hd hcd N y p m hg=>?_;have KX:=hY w _ c;obtain⟨I,hb,hF⟩:=F w t A _ KX G.T.g N;exact qT KX G.T.g G.T.b G.T.builtins G.T.nolimit hg y p (Ky m P) hr hF hb (λH hO hS=>Q w H a D m hO hS) λH e Z=>L w H z e Z
noncomputable def defArgs (s:Q0):Arguments:=match s with
|.FunctionDef _ a _ _ _ _ _ _ _ _=>a
|_=>{posonlyargs:=[],args:=[],vararg:=J,kwonlyargs:=[],kw_defaults:=[],kwarg:=J,defaults:=[]}
noncomputable def defBody (s:Q0):U Q0:=match s with
|.FunctionDef _ _ b _ _ _ _ _ _ _=>b
|_=>[]
noncomputable def defScope (s:Q0):Q2:=match s with
|.FunctionDef _ _ _ _ _ _ a _ _ _=>a
|_=>{kind:=.function,names:=[],isGenerator:=JY,isCoroutine:=JY}
abbrev CX0:CXT:=λ_ _ _ _ _ _=>QX
abbrev E0:XK:=λ_ _ _=>QX
theorem HN {X:Cx}:nN CX0 X E0:=λ_ _ _ _ _ _ _ h=>h.elim
structure Fun (K:J2)(x qual:Str)(st:Q0)(f:QF)(fd:Lb):Prop where
 ex:∃(oc:B) (od:j QF) (kV doc pm:B) (an:j QF) (cdv ct:B) (osl:QT (j B)),
  fd=LQ x qual (defArgs st) (defBody st) (defScope st) .none kV doc pm an cdv ct/\K.lookup f=O ⟨oc,od,.func fd,osl⟩/\Nw K cdv qual=JZ
 kp:MK K (.ref f)=JZ
section
variable {P:QN}{w:J8}{K:J2}{mg:Str->j B}{base:QS}
theorem Fun.ok {x b:Str}{g:Q0}{f:QF}{o:Lb}{N m:U Str}{k:Y}{n:Sp}(F:Fun K x b g f o)(S:aC N m<|defScope g)(len:∀e H Q E,n e H Q E->e.length=m.length)
  (d:∀ (c:B) (A:Kq) (a:U Env) (s:J0) (H:Hp) (e:U V) (Q:VK) (E:XK),Room k (A.deeper (Ll b (defScope g) s.heap.objs.size f c))->n e H Q E ->
   ∃t,PSs (kb CX0 P w K mg base N b (defScope g) f c A a s H E).nox (defBody g) t/\t {nx:=λ_ p=>Q .non p,rt:=Q} (start N e) H):eE P w K mg base CX0 (k+1) f o m n:=by
 obtain⟨z,D,kV,r,G,an,c,y,v,rfl,lk,i⟩:=F.ex;refine F6 lk i S len λA a s H e Q E u l=>?_;obtain⟨t,h,q⟩:=d c A a s H e Q E u l;exact⟨t,h.nox,q⟩
theorem Fun.binds {x a:Str}{d:Q0}{f:QF}{l:Lb}{i:U Str}(F:Fun K x a d f l)
  (h:∀(kV c g:B) (an:j QF) (b e:B) (k:U B),k.length=i.length->bindArgs (LQ x a (defArgs d) (defBody d) (defScope d) .none kV c g an b e) ⟨k,[]⟩=pure (i.zip k)):Binds K l i []:=by
 obtain⟨o,p,kV,c,g,an,b,e,n,rfl,lk,m⟩:=F.ex;exact .all<|h kV c g an b e
theorem wq {x a:Str}{st:Q0}{f:QF}{i:B}{m an:j QF}{e:QT<|j B}{kV d h b g:B}(l:K.lookup f=O ⟨i,m,.func<|LQ x a (defArgs st) (defBody st) (defScope st) .none kV d h an b g,e⟩)
  (c:Nw K b a=JZ) (k:MK K (.ref f)=JZ):Fun K x a st f (LQ x a (defArgs st) (defBody st) (defScope st) .none kV d h an b g):=⟨⟨i,m,kV,d,h,an,b,g,e,rfl,l,c⟩,k⟩
end
theorem AZ {A:Kq}{k:Y}(a:Room k A):A.units+1<Rw:=M9 (Nat.add_le_add_left (by decide:1<=64) _) a.units
def Same (H a:Hp):Prop:=∀b o,H b=O o->a b=O o
theorem Same.refl (H:Hp):Same H H:=λ_ _ h=>h
section
variable {κ:Type}[Q7 κ]
noncomputable def fP (a:U<|κ×V)(k:κ):j V:=(a.find? λb=>decide (b.1=k)).map (·.2)
noncomputable def dR (a:U<|κ×V)(k:κ)(v:V):U (κ×V):=
 if(a.any λb=>decide (b.1=k))=JZ then a.map (λb=>if b.1=k then(b.1,v) else b) else a++[(k,v)]
theorem iw {p:κ×V}{r:U<|κ×V}{k:κ}(e:p.1=k):fP (p::r) k=O p.2:=by simp[fP,MM,e]
theorem ig {p:κ×V}{r:U<|κ×V}{k:κ}(e:¬p.1=k):fP (p::r) k=fP r k:=by simp[fP,MM,e]
theorem lO (k:κ):∀a:U<|κ×V,(a.any λb=>decide (b.1=k))=(fP a k).isSome
|[]=>rfl
|p::r=>by
 rw[M1];by_cases e:p.1=k
 .simp only[iw e,QE e,Oc,Option.isSome_some]
 .rw[ig e,QP e,P5];exact lO k r
theorem fJ (a:U<|κ×V)(k:κ)(v:V):(dR a k v).length<=a.length+1:=by
 unfold dR;split
 .rw[J6];lia
 .rw[Kk,Ki,OK];lia
theorem RelO.isSome_eq {o:j V}{u:j B}(r:RelO o u):o.isSome=u.isSome:=by
 cases o with
 |none=>cases u with
  |none=>rfl
  |some _=>exact(show QX from r).elim
 |some _=>cases u with
  |none=>exact(show QX from r).elim
  |some _=>rfl
theorem KV.val {a:U<|κ×V}{g:U<|κ×B}(r:KV a g)(k:κ):RelO (fP a k) (Rj g k):=by
 unfold KV at r;induction r with
 |nil=>exact LU
 | @cons p q m d h t l =>
  obtain⟨f,i⟩:=h;by_cases e:p.1=k
  .have c:q.1=k:=f.symm.trans e;have b:Rj (q::d) k=O q.2:=by simp[Rj,MM,c]
   rw[iw e,b];exact i
  .have c:¬ q.1=k:=fun z=>e (f.trans z);have b:Rj (q::d) k=Rj d k:=by simp[Rj,MM,c]
   rw[ig e,b];exact l
theorem KV.any {a:U<|κ×V}{c:U<|κ×B}(r:KV a c)(k:κ):(a.any λb=>decide (b.1=k))=c.any λb=>decide (b.1=k):=by
 unfold KV at r;induction r with
 |nil=>rfl
 |cons h t d=>rw[M1,M1,d,h.1]
theorem KV.repl {b:U<|κ×V}{d:U<|κ×B}(r:KV b d)(k:κ){y:V}{u:B}(i:RelV y u):
  KV (b.map λa=>if a.1=k then(a.1,y) else a) (d.map λa=>if a.1=k then(a.1,u) else a):=by
 unfold KV at r ⊢;induction r with
 |nil=>exact .nil
 | @cons p q l m h t g=>
  rw[Ku,Ku];refine .cons ?_ g;obtain⟨c,f⟩:=h;by_cases e:p.1=k
  .rw[QG e,QG<|c.symm.trans e];exact⟨c,i⟩
  .rw[QH e,QH λz=>e<|c.trans z];exact⟨c,f⟩
theorem KV.put {a:U<|κ×V}{b:U<|κ×B}(r:KV a b)(k:κ){y:V}{u:B}(c:RelV y u):KV (dR a k y) (stored b k u):=by
 unfold dR stored;rw[r.any k];by_cases e:(b.any λd=>decide (d.1=k))=JZ
 .rw[QG e,QG e];exact r.repl k c
 .rw[QH e,QH e];exact Paired.snoc r ⟨rfl,c⟩
theorem KV.length {a:U<|κ×V}{b:U<|κ×B}(r:KV a b):a.length=b.length:=Paired.length r
end
theorem v9 {P:QN}{w:J8}{k:Key}{u:B}(r:RelV (kV k) u):(aZ P w).is k u=true:=by
 cases k with
 |inl i=>obtain⟨t,e⟩:=(show∃t,u=Value.int i t from r);subst e;exact lb P w i t
 |inr x=>obtain⟨t,e⟩:=(show∃t,u=Value.str x t from r);subst e;exact kM P w x t
theorem iQ {P:QN}{w:J8}:∀{a:U Key} {b:U B},Vals (a.map kV) b->ItemsAre (aZ P w) a b
|[],_,r=>by rw[MD] at r;cases r;exact .nil
|k::a,_,r=>by
 rw[Ku] at r;cases r with
 |cons h t=>exact .cons (v9 h)<|iQ t
abbrev KT (H:Hp):U (U Key×V)->U (U Key×QF×B)->Prop:=Paired λp q=>p.1=q.1/\H q.2.1=O (.tup<|p.1.map kV)/\RelV p.2 q.2.2
theorem KT.val {H:Hp}{a:U<|U Key×V}{g:U<|U Key×QF×B}(r:KT H a g)(k:U Key):RelO (fP a k) ((RC g k).map (·.2)):=by
 induction r with
 |nil=>exact LU
 | @cons p q m d h t l =>
  obtain⟨f,_,i⟩:=h;by_cases e:p.1=k
  .have c:q.1=k:=f.symm.trans e;have b:RC (q::d) k=O q.2:=by simp[RC,MM,c]
   rw[iw e,b];exact i
  .have c:¬ q.1=k:=fun z=>e (f.trans z);have b:RC (q::d) k=RC d k:=by simp[RC,MM,c]
   rw[ig e,b];exact l
theorem KT.repl {H:Hp}{a:U<|U Key×V}{f:U<|U Key×QF×B}(r:KT H a f)(k:U Key){y:V}{u:B}(l:RelV y u):
  KT H (a.map λc=>if c.1=k then(c.1,y) else c) (f.map<|putAt k u):=by
 induction r with
 |nil=>exact .nil
 | @cons p q m n h t i=>
  rw[Ku,Ku];refine .cons ?_ i;obtain⟨b,d,g⟩:=h;unfold putAt;by_cases e:p.1=k
  .rw[QG e,QG<|b.symm.trans e];exact⟨b,d,l⟩
  .rw[QH e,QH λz=>e<|b.trans z];exact⟨b,d,g⟩
theorem KT.put {H:Hp}{a:U<|U Key×V}{c:U<|U Key×QF×B}(r:KT H a c)(k:U Key){b:QF}{y:V}{u:B}(f:H b=O (.tup<|k.map kV))(d:RelV y u):
  KT H (dR a k y) (storedH c k b u):=by
 have e:(a.any λg=>decide (g.1=k))=(RC c k).isSome:=by rw[lO,(r.val k).isSome_eq,Option.isSome_map]
 unfold dR storedH;rw[e];by_cases q:(RC c k).isSome=JZ
 .rw[QG q,QG q];exact r.repl k d
 .rw[QH q,QH q];exact Paired.snoc r ⟨rfl,f,d⟩
theorem KT.keeps {H c:Hp}{a:U<|U Key×V}{d:U<|U Key×QF×B}(r:KT H a d)(f:∀b e,H b=O (.tup e)->c b=O (.tup e)):KT c a d:=
 Paired.mapP r λ_ _ z=>⟨z.1,f _ _ z.2.1,z.2.2⟩
section
variable {P:QN}{w:J8}{H:Hp}{h:QS}{a:QF}
theorem AN {u:HO}(ok:HOk P w H h)(e:Rd H a u):ObjOk P w H h a u:=e.ok ok
theorem vg {b:U<|Key×V}(ok:HOk P w H h)(e:Rd H a<|.dK b):b.length<=sizeLine/\(a==Lz)=JY/\∃c,KV b c/\h.DictOf (aZ P w) a c:=
 show ObjOk P w H h a (.dK b) from AN ok e
theorem Fo {b:U<|Key×V}(ok:HOk P w H h)(e:H a=O (.dK b)):b.length<=sizeLine/\(a==Lz)=JY/\∃c,KV b c/\h.DictOf (aZ P w) a c:=vg ok<|.inl e
theorem nh {c:U Key}(ok:HOk P w H h)(e:H a=O (.tup<|c.map kV)):(MQ<|aZ P w).is h c a:=by obtain⟨_,b,r,o,d,f,n,g⟩:=(show ObjOk P w H h a (.tup<|c.map kV) from ok a _ e);exact⟨o,b.toArray,n,d,f,g,by simpa using iQ r⟩
theorem sk {b:U<|U Key×V}(ok:HOk P w H h)(e:Rd H a<|.dT b):b.length<=sizeLine/\(a==Lz)=JY /\
  ∃c,KT H b c/\h.DictOfH (MQ<|aZ P w) a c:=by
 obtain⟨z,y,c,r,o,f,ep,g,i,k,n,s⟩:=(show ObjOk P w H h a (.dT b) from AN ok e);refine⟨z,y,c,r,o,f,ep,g,i,k,n,λx hx=>?_,s⟩
 have all:∀{l:U (U Key×V)} {m:U (U Key×QF×B)},KT H l m->∀x∈m,(MQ (aZ P w)).is h x.1 x.2.1:=by
  intro l m q;induction q with
  |nil=>intro x hx;exact nomatch hx
  | @cons p q v A d t u =>
   intro x hx;rcases Kg.mp hx with e|hx
   .subst e;exact nh ok<|by rw[<- d.1];exact d.2.1
   .exact u x hx
 exact all r x hx
theorem HK {b:U<|U Key×V}(ok:HOk P w H h)(e:H a=O (.dT b)):b.length<=sizeLine/\(a==Lz)=JY /\
  ∃c,KT H b c/\h.DictOfH (MQ<|aZ P w) a c:=sk ok<|.inl e
end
def DGet (H:Hp)(a:QF)(y:V)(r:j V):Prop:=
 (∃c k,Rd H a (.dK c)/\y=kV k/\r=fP c k)\/∃c k b,Rd H a (.dT c)/\y=.ref b/\H b=O (.tup<|k.map kV)/\r=fP c k
def Ib (H:Hp)(a:QF)(y v:V)(d:Hp):Prop:=
 (∃c k,H a=O (.dK c)/\y=kV k/\c.length<sizeLine/\d=upd H a (.dK<|dR c k v)) \/
 ∃c k b,H a=O (.dT c)/\y=.ref b/\H b=O (.tup<|k.map kV)/\c.length<sizeLine/\d=upd H a (.dT<|dR c k v)
theorem DGet.k {H:Hp}{a:QF}{b:U<|Key×V}{k:Key}(e:H a=O (.dK b)):DGet H a (kV k) (fP b k):=.inl ⟨b,k,.inl e,rfl,rfl⟩
section
variable {X:Cx}{pins:U (QF×Obj)}{σ:St}{H:Hp}{s:J0}{a:QF}{y v:V}{u r:B}{o:j V}{A:Kq}{E:B->J0->Prop}
theorem Inv.big (I:Inv X pins σ H s):Lz<s.heap.objs.size:=by have h:KC<s.heap.objs.size:=(I.mod.glob.keeps I.bk).lt;exact O7 (by decide) h
theorem qr {Q:B->J0->Prop}(M:A.units+1<Rw)(I:Inv X pins σ H s)(g:DGet H a y<|O v)(D:RelV y u)(h:∀f F,Inv X pins σ H F->RelV v f->Q f F):
  QK (J4 X.prog X.w) A (LC (.ref a) u) Q E s:=by
 rcases g with⟨x,k,e,m,l⟩|⟨x,k,b,e,m,G,l⟩
 .subst m;obtain⟨z,L,N,c,i⟩:=vg I.hok e;obtain⟨f,t,d⟩:=RelO.some_of (v:=v) (o:=Rj N k) (by rw[l];exact c.val k);exact wpAny_getItem_of (v9 D) i.mapOf t<|h f _ (I.tok _) d
 .subst m;cases(show u=Value.ref b from D);obtain⟨z,L,P,c,i⟩:=sk I.hok e;obtain⟨f,t,d⟩:=RelO.some_of (v:=v) (o:=(RC P k).map (·.2)) (by rw[l];exact c.val k);obtain⟨p,hp,n⟩:=Qt.mp t;refine wpAny_getItem_heap (tupleKind_room_in1 M) (nh I.hok G) i hp ?_;rw[n];exact h f _ (I.tok _) d
theorem pd {c:QS}{l:Y}{f:HO}(I:Inv X pins σ H s)(k:Mut<|H a)(i:Heap.SameBut a s.heap c)(h:∃q,c.get? a=O q)(d:ObjOk X.prog X.w (upd H a f) c a f):
  Inv X pins σ (upd H a f) {s with heap:=c,toks:=l}:=
 I.write (x:=a) (e:=a) k (.inl rfl) (λb q g z=>(i.2 b g).trans z) h d
theorem B7 {P:QN}{w:J8}{f:Hp}{e:QS}{b:U<|Key×V}{d:U<|Key×B}(z:b.length<=sizeLine)(h:(a==Lz)=JY)(c:KV b d)(g:e.DictOf (aZ P w) a d):
  ObjOk P w f e a (.dK b):=⟨z,h,d,c,g⟩
theorem qN {L:Hp}{Q:Unit->J0->Prop}(hu:A.units+1<Rw)(I:Inv X pins σ H s)(g:Ib H a y v L)(ry:RelV y u)(Z:RelV v r)(h:∀s',Inv X pins σ L s'->Q () s'):
  QK (J4 X.prog X.w) A (setItem (.ref a) u r) Q E s:=by
 rcases g with⟨d,k,e,t,l,p⟩|⟨d,k,b,e,t,M,l,p⟩
 .subst t p;obtain⟨z,x,vs,f,n⟩:=Fo I.hok e;have G:vs.length<=sizeLine:=by rw[<- f.length];exact z
  have D:(dR d k v).length<=sizeLine:=by have:=fJ d k v;lia
  refine wpAny_setItem_pairs (hsz:=G) (v9 ry) n λP i F=>h _ ?_;have he:∃q,P.get? a=O q:=let ⟨q,_,_,m,_⟩:=i;⟨q,m⟩;exact pd I (by rw[e];exact LU) F he<|B7 D x (f.put k Z) i
 .subst t p;cases(show u=Value.ref b from ry);obtain⟨z,x,xs,f,n⟩:=HK I.hok e;have G:xs.length<=sizeLine:=by rw[<- Paired.length f];exact z
  have D:(dR d k v).length<=sizeLine:=by have:=fJ d k v;lia
  refine wpAny_setItem_heap (hsz:=G) (tupleKind_room_in1 hu) (nh I.hok M) n λP i F=>h _ ?_;obtain⟨q,es,ep,m,h2,h3,h4,_,h5⟩:=i;refine pd I (by rw[e];exact LU) F ⟨q,m⟩ ⟨D,x,_,(f.put k M Z).keeps λc ys N=>?_,q,es,ep,m,h2,h3,h4,h5⟩;rw[ae<|HA N e λz=>nomatch z];exact N
end
def Ba (i:QQ):Prop:=∀a iv,Nb i JY a iv=operate [a,iv] (LC a iv)
theorem wF {prog:QN}{w:J8}{A:Kq}{E:B->J0->Prop}{s:J0}{g:Env}{b a:QQ}{pos:Pos}{T id:QZ}{Q:B->J0->Prop}
  (n:MS (.type T) "__getitem__"=pure (O<|.builtin id)) (p:Ba a)
  (h:QK (J4 prog w) A (QY b g) (λo e=>QK (J4 prog w) A (QY a g) (λi c=>c.TypeIs o T/\QK (J4 prog w) A (LC o i) Q E c) E e) E s):
  QK (J4 prog w) A (QY (.Subscript b a pos) g) Q E s:=by
 refine Subscript_<|KG h (λo e k=>KG k (λi c d=>?_) λ_ _ x=>x) λ_ _ x=>x;obtain⟨m,d⟩:=d;unfold Ro;refine J1 ?_;rw[getitemInPython_of_ne m.not_modules];refine J1<|Nl m n ?_;have fin:QK (J4 prog w) A (Nb a JY o i) (λr f=>QK (J4 prog w) A (letTemporaryGo b o r >>= λ_=>pure r) Q E f) E c:=by rw[p o i];exact wpAny_operating<|KG d (λr f l=>J1<|wpAny_letTemporaryGo<|J7 l) λ_ _ x=>x
 first
  |exact J7<|J1 fin
  |exact J1<|J7<|J1 fin
  |exact J1 fin
theorem lH {X:Cx}{c:U<|QF×Obj}{h:St}{H:Hp}{s:J0}{a:QF}{y:V}{o:j V}(I:Inv X c h H s)(g:DGet H a y o):s.TypeIs (.ref a) "dict":=by
 rcases g with⟨f,k,e,_,_⟩|⟨f,k,b,e,_,_,_⟩
 .obtain ⟨_,_,i,_,d⟩:=vg I.hok e;exact d.typeIs
 .obtain ⟨_,_,l,_,d⟩:=sk I.hok e;exact d.typeIs
def Gj (e ty:TE):TE:=λc H Q=>e c H λx d=>ty c d λy b=>∃a v,x=.ref a/\DGet b a y (O v)/\Q v b
def Fj (g ty h:TE):TS:=λD b H=>h b H λv d=>g b d λx e=>ty b e λy f=>∃a c,x=.ref a/\Ib f a y v c/\D.nx b c
section
variable {X:Cx}{o i e value:QQ}{pos pos' tpos:Pos}{td ty tv:TE}
theorem Al (r:X.A.units+1<Rw)(ho:PE X o td)(n:PE X i ty)(p:Ba i):PE X (.Subscript o i pos) (Gj td ty):=by intro b s d H Q I h;refine wF PySem.F.slot_dict_getitem.lookup p<|thn (ho b s d H _ I h) λu D ⟨x,f,I1,rx,t⟩=>thn (n b D d f _ I1 t) λiv G ⟨y,k,I2,z,a,v,m,g,w⟩=>?_;subst m;obtain rfl:u=Value.ref a:=rx;exact⟨lH I2 g,qr r I2 g z λM L l c=>⟨v,k,l,c,w⟩⟩
theorem xN (w:X.A.units+1<Rw)(ho:PE X o td)(p:PE X i ty)(z:PE X value tv)(t:Lg value (O<|.Subscript o i pos') pos.line X.env=pure JY):
  PS X (.Assign [.Subscript o i pos'] value pos) (Fj td ty tv):=by
 intro b s c H D I h;refine wpAny_Assign_Subscript (thn (z b s c H _ I h) λr P ⟨v,d,I1,M,F⟩=>thn (ho b P c d _ I1 F) λu Q ⟨x,f,I2,rx,G⟩=>thn (p b Q c f _ I2 G) λiv s3 ⟨y,Z,l,N,a,k,n,g,L⟩=>?_) t;subst n;obtain rfl:u=Value.ref a:=rx;exact qN w l g N M λs4 m=>⟨c,k,m,L⟩
end
theorem rq {P:QN}{w:J8}{H:Hp}(h:QS)(a:Lz<h.objs.size):ObjOk P w H (h.push {cls:=.type "dict",data:=.dict #[]}) h.objs.size (.dK []):=
 ⟨Kx _,beq_eq_false_iff_ne.mpr<|KS<|Km a,[],.nil,Heap.DictOf.new h⟩
def vF:TE:=λ_ H Q=>∀p,H p=J->Q (.ref p) (upd H p<|.dK [])
section
variable {X:Cx}{pos:Pos}
theorem rY:PE X (.Dict [] [] pos) vF:=λb s c H Q I h=>
 wpAny_Dict_empty ⟨.ref s.heap.objs.size,_,I.laid (a:=s.heap.objs.size) (o:=.dK []) (t':=s.toks) (λ_ _ q=>Heap.get?_push_of_some _ q) (J9 _)<|rq s.heap I.big,rfl,h _<|I.hok.fresh<|J9 _⟩
end
end L2

set_option maxHeartbeats 4000000
namespace L3
open PySem PySem.Spec PyProof.Rows L2
abbrev noX:B->J0->Prop:=λ_ _=>QX
theorem je {P:QN}{w:J8}{H:Hp}{h:QS}{a:QF}{o:HO}(x:HOk P w H h)(g:H a=J)(d:ObjOk P w (upd H a o) h a o):HOk P w (upd H a o) h:=by
 intro b u e;by_cases f:b=a
 .subst f;rw[au] at e;cases e;exact d
 .rw [ae f] at e;refine(x b u e).stay (λc v _ q=>q) (λc q=>?_) (λc i q=>?_)
  .rw[ae<|aM q g];exact q
  .rw[ae<|aM q g];exact q
section
variable {prog:QN}{w:J8}{A:Kq}{R:Rq->J0->Prop}{s:J0}
theorem nG {p H f:QQ}{c:Q2}{pos:Pos}{G o:B}{b:Env}(a:Y->J0->Prop)
  (turn:∀ n s,a n s->QK (J4 prog w) A (LL G) (fun r d=>match r with
   |none=>R (.ok .next) d
   | some v=>QK (J4 prog w) A (My H G v) (fun _ g=>QK (J4 prog w) A (Ln H b v) (fun _ i =>
     QK (J4 prog w) A (QY p b) (λy k=>QK (J4 prog w) A (call (.builtin "list.append") [o,y]) (λ_ l=>∃m,m<n/\a m l) noX k) noX i) noX g) noX d) noX s)
  (n:Y) (h:a n s):KZ (J4 prog w) A (.compLoop (.ListComp p [⟨H,f,[],0⟩] c pos) 0 G o b) R s:=by
 refine codeAny_loop rfl a (λn s I=>?_) n h;show QK _ A ((compTurn (.ListComp p [⟨H,f,[],0⟩] c pos) 0 G o b).onRaise (λx=>do noteFrame x b;theTreesLotGoes x)) _ _ s;refine wpAny_noted ?_;rw[compTurn_list];refine J1<|Nh<|J1<|KG (turn n s I) (λr d e=>?_) λ_ _ z=>z.elim;cases r with
 |none=>exact J7 e
 |some v=>refine J1<|KG e (λ_ g t=>?_) λ_ _ z=>z.elim;refine J1<|KG t (λ_ i u=>?_) λ_ _ z=>z.elim;refine J1<|wpAny_tests_nil ?_;exact J1<|J1<|KG u (λy k D=>J1<|KG D (λ_ l F=>J7<|J7 ⟨rfl,F⟩) λ_ _ z=>z.elim) λ_ _ z=>z.elim
end
def ak (X:Cx)(N:U Str)(a:Q2)(b:U<|Str×QF)(C:QF)(s:J0)(H:Hp)(c:U QF):Cx where
 prog:=X.prog
 w:=X.w
 K:=X.K
 mg:=X.mg
 base:=X.base
 A:=X.A
 N:=N
 s₀:=s
 H₀:=H
 env:=compEnvC a b C X.env
 outer:=X.stack
 stack:=X.stack
 ex:=c
 fn:=λ_=>JY
 calm:=X.calm
 pn:=X.pn
 xe:=noX
inductive Clo (X:Cx):U (Str×QF)->Prop
 |nil:Clo X []
 |cons {y:Str} {c:QF} {cl:U (Str×QF)}:X.env.cells.lookup y=O c->Clo X cl->Clo X ((y,c)::cl)
theorem Clo.get {X:Cx}{a:U<|Str×QF}(h:Clo X a):∀{y:Str} {c:QF},a.lookup y=O c->X.env.cells.lookup y=O c:=by
 induction h with
 |nil=>intro y c e;cases e
 | @cons z d b f _ g =>
  intro y c e;cases q:y==z with
  |true=>simp only[Ow,q] at e;cases e;rw[eq_of_beq q];exact f
  |false=>simp only[Ow,q] at e;exact g e
inductive Frees (X:Cx)(scope:Q2)(cl:U (Str×QF)):U Str->U Y->Prop
 |nil:Frees X scope cl [] []
 | cons {y:Str} {ys:U Str} {i:Y} {is:U Y} {c:QF}:X.N[i]?=O y->Vis X.env.scope y->(X.env.kindOf y=O .cell\/X.env.kindOf y=O .free)->X.env.cells.lookup y=O c->cl.lookup y=O c ->
   ((Mb scope X.env).names.lookup y=O .cell\/(Mb scope X.env).names.lookup y=O .free)->Frees X scope cl ys is->Frees X scope cl (y::ys) (i::is)
theorem Frees.len {X:Cx}{a:Q2}{d:U<|Str×QF}{c:U Str}{b:U Y}(F:Frees X a d c b):b.length=c.length:=by
 induction F with
 |nil=>rfl
 |cons _ _ _ _ _ _ _ e=>rw[Ki,Ki,e]
noncomputable def bC (b:L2.St)(a:U Y):L2.St:=a.map λi=>(b[i]?).join
theorem Frees.get {X:Cx}{b:Q2}{f:U<|Str×QF}{g:U Str}{d:U Y}{σ:L2.St}(F:Frees X b f g d):∀{a:Y} {y:Str} {v:V},g[a]?=O y->(bC σ d)[a]?=O (O v) ->
  ∃(i:Y) (c:QF),X.N[i]?=O y/\σ[i]?=O (O v)/\Vis X.env.scope y/\(X.env.kindOf y=O .cell\/X.env.kindOf y=O .free)/\X.env.cells.lookup y=O c/\f.lookup y=O c /\
   ((Mb b X.env).names.lookup y=O .cell\/(Mb b X.env).names.lookup y=O .free):=by
 induction F with
 |nil=>intro a y v e;simp at e
 | @cons z s i d c h k l m n p _ r =>
  intro a y v e1 e2;unfold bC at e2;rw[Ku] at e2;cases a with
  | zero =>
   rw[M6] at e1 e2;cases e1;cases q:σ[i]? with
   |none=>rw[q] at e2;cases e2
   |some o=>rw[q] at e2;have e3:o=O v:=KH e2;subst e3;exact⟨i,c,h,q,k,l,m,n,p⟩
  |succ a=>rw[Ld] at e1 e2;exact r e1 e2
abbrev jW (a:U B):Obj:={cls:=.type "list",data:=.seq a.toArray a.length}
theorem qz {X:Cx}(M:X.calm=JZ):bI X (.builtin "all") (λD H Q=>∃(a:QF) (bs:U QJ),D=[.ref a]/\SqL X.K H a (bs.map V.bl)/\Q (.bl<|bs.all id) H):=by
 intro y s σ H D us Q I r h;obtain⟨a,bs,rfl,G,q⟩:=h;obtain⟨u,rfl,Z⟩:=cc r;cases Z;obtain⟨c,t,p,hz⟩:=I.list G;have l:c.toArray.size=bs.length:=by rw[Ko,<- t.length,J6]
 have n:a<s.heap.objs.size:=by obtain⟨o,e,_⟩:=p.isList;exact Heap.lt_size e
 refine call_all_walk<|MX p.isList ?_;refine⟨s.heap.objs.size,_,_,_,_,_,λi=>bs.getD i JZ,rfl,Walks.list (A:=X.A.in1) (show X.A.in1.handled=J from I.ok.hd M) s.heap.objs.size a (Km n) c.toArray,⟨⟨_,Heap.get?_push_size _ rfl,rfl,rfl⟩,p.isList.push _⟩,λi v s' Q' E' P F=>?_,λh' tk k=>?_⟩
 .have m:c[i]?=O v:=by simpa using P
  have d:i<c.length:=(Le.mp m).1;have g:i<bs.length:=by have:=t.length;rw[J6] at this;lia
  obtain⟨w',e1,e2⟩:=t.get (i:=i) (x:=.bl bs[i]) (by rw[Kz,Kj g];rfl);rw[m] at e1;cases e1;cases e2;refine MW ?_;have e3:bs.getD i JZ=bs[i]:=by rw[Kf,Kj g];rfl
  rw[<- e3];exact F
 .have e:(Kc c.toArray.size).all (fun i=>bs.getD i JZ)=bs.all id:=by
   rw[l,OJ,KI,KI];constructor
   .intro z b L;obtain⟨i,d,e⟩:=NM L;have:=z i<|KW.mpr d;rw[Kf,Kj d] at this;simpa[e] using this
   .intro z i d;have f:=KW.mp d;rw[Kf,Kj f];exact z _<|Lj f
  rw[e]
  exact⟨.bl<|bs.all id,H,I.kept (λb o w=>k b o (λN=>by
   have:b=s.heap.objs.size:=by simpa using N
   exact QL (this ▸ Heap.lt_size w)<|Lp _)<|Heap.get?_push_of_some _ w),rfl,q⟩
inductive Th where
 |non|bl (b:QJ)|int (i:Int)|str (x:Str)|tup (ts:U Th)|lst (ts:U Th)
mutual
def Has (K:J2)(H:Hp):Th->V->Prop
|.non,v=>v=.non
|.bl b,v=>v=.bl b
|.int i,v=>v=.int i
|.str x,v=>v=.str x
|.tup ts,v=>∃a vs,v=.ref a/\SqT K H a vs/\HasL K H ts vs
|.lst ts,v=>∃a vs,v=.ref a/\H a=O (.lst vs)/\HasL K H ts vs
def HasL (K:J2)(H:Hp):U Th->U V->Prop
|[],vs=>vs=[]
|t::ts,vs=>∃v r,vs=v::r/\Has K H t v/\HasL K H ts r
end
noncomputable def Th.ty:Th->QZ
|.non=>"NoneType" |.bl _=>"bool" |.int _=>"int" |.str _=>"str" |.tup _=>"tuple" |.lst _=>"list"
def isI (c:QZ)(t:Th):QJ:=t.ty==c || (t.ty=="bool"&&c=="int")
theorem kit_type {K:J2}{A a:QZ}:Mp K (.type A) (.type a)=Mp [] (.type A) (.type a):=by unfold Mp PySem.W.kitCls P4;rfl
theorem D8:∀c∈["tuple","str","bool","int","list"],∀n∈["NoneType","bool","int","str","tuple","list"],Mp [] (.type n) (.type c)=O (n==c || (n=="bool"&&c=="int")):=by decide +kernel
theorem CO (t:Th):t.ty∈["NoneType","bool","int","str","tuple","list"]:=by cases t<;>simp[Th.ty]
theorem D4 {c:QZ}(a:c∈["tuple","str","bool","int","list"])(t:Th):Mp [] (.type t.ty) (.type c)=O (isI c t):=D8 c a t.ty<|CO t
theorem lx {H:Hp}{p:QF}(h:H p=J)(o:HO):Same H (upd H p o):=λb u q=>by rw[ae<|aM q h];exact q
def AX (K:J2):R2:=λx y H Q=>∃a b d f,x=.ref a/\y=.ref b/\SqT K H a d/\SqT K H b f/\d≠[]/\d.length+f.length<=sizeLine/\∀v e,Same H e->(∃c,v=.ref c/\SqT K e c (d++f))->Q v e
theorem Ah {X:Cx}:OpR X (K6 .Add) (AX X.K):=λc s l H x y v u Q I rx g h=>by obtain⟨a,b,i,k,e1,e2,d,e,hx,f,q⟩:=h;exact y9 c s l H x y v u Q I rx g ⟨a,b,i,k,e1,e2,d,e,hx,f,λz=>q _ _ (Same.refl _) ⟨a,rfl,by rw[z,KR];exact d⟩,λ_ p hp=>q _ _ (lx hp _) ⟨p,rfl,SqT.of au⟩⟩
theorem FV {X:Cx}{x:Str}{T:QZ}{pos:Pos}(b:Gl X x)(c:X.mg x=J)(e:L6 x=O (.type T))(d:x≠"__name__":=by decide)(a:(x==("__debug__":Str))=false:=by decide):PE X (.Name x pos) (tC<|.ty T):=Av (v:=.ty T) b c e rfl d a
theorem fK (a:U Int):∀k,k<=a.length->preSum (λi=>a.getD i 0) k=(a.take k).sum
|0,_=>rfl
|k+1,h=>by have b:=fK a k (by lia);show preSum (λi=>a.getD i 0) k+a.getD k 0=_;rw[b,List.take_succ,List.sum_append,Kf,Kj<|show k<a.length by lia];simp
theorem pU {X:Cx}(G:X.calm=JZ):bI X (.builtin "sum") (λD H Q=>∃(a:QF) (c:U Int),D=[.ref a]/\SqL X.K H a (c.map V.int)/\Q (.int c.sum) H):=by
 intro z s σ H D us Q I r h;obtain⟨a,c,rfl,F,q⟩:=h;obtain⟨u,rfl,N⟩:=cc r;cases N;obtain⟨d,w,p,hz⟩:=I.list F;have g:d.toArray.size=c.length:=by rw[Ko,<- w.length,J6]
 have l:a<s.heap.objs.size:=by obtain⟨o,e,_⟩:=p.isList;exact Heap.lt_size e
 refine call_sum_walkG<|MX p.isList ?_;refine⟨s.heap.objs.size,_,_,_,_,_,λi=>c.getD i 0,rfl,Walks.list (A:=X.A.in1) (show X.A.in1.handled=J from I.ok.hd G) s.heap.objs.size a (Km l) d.toArray,⟨⟨_,Heap.get?_push_size _ rfl,rfl,rfl⟩,p.isList.push _⟩,λb n=>?_,λi v M=>?_,λZ tk P k=>?_⟩
 .show b<(s.heap.push _).objs.size;rw[Heap.size_push];rcases Kg.mp n with rfl|n
  .exact M7 _
  .rw[KA.mp n];exact LK l
 .have m:d[i]?=O v:=by simpa using M
  have hi:i<d.length:=(Le.mp m).1;have f:i<c.length:=by have:=w.length;rw[J6] at this;lia
  obtain⟨w',e1,e2⟩:=w.get (i:=i) (x:=.int c[i]) (by rw[Kz,Kj f];rfl);rw[m] at e1;cases e1;obtain⟨t,rfl⟩:=e2;have e3:c.getD i 0=c[i]:=by rw[Kf,Kj f];rfl
  exact⟨t,by show Value.int c[i] t=Value.int (c.getD i 0) t;rw[e3]⟩
 .have e:preSum (fun i=>c.getD i 0) d.toArray.size=c.sum:=by rw[g,fK c _ (J9 _),PU]
  rw[e]
  exact⟨.int c.sum,H,I.kept (λb o y=>k b o (λL=>by
   have:b=s.heap.objs.size:=by simpa using L
   exact QL (this ▸ Heap.lt_size y)<|Lp _)<|Heap.get?_push_of_some _ y),⟨P,rfl⟩,q⟩
mutual
def toD:Th->PyData
|.non=>.none
|.bl b=>.bool b
|.int i=>.int i
|.str x=>.str x
|.tup ts=>.tuple<|eO ts
|.lst ts=>.list<|eO ts
def eO:U Th->U PyData
|[]=>[]
|t::ts=>toD t::eO ts
end
section
variable {X:Cx}{pins:U (QF×Obj)}{σ:L2.St}{H:Hp}{s:J0}
mutual
theorem Has.reads (I:Inv X pins σ H s):∀{t:Th} {v:V} {u:B},Has X.K H t v->RelV v u->∃as,Reads s.heap u (toD t) as
|.non,_,u,h,r=>by obtain rfl:_=V.non:=h;obtain rfl:u=Value.none:=r;exact⟨_,.none⟩
|.bl b,_,u,h,r=>by obtain rfl:_=V.bl b:=h;obtain rfl:u=Value.bool b:=r;exact⟨_,.bool b⟩
|.int i,_,u,h,r=>by obtain rfl:_=V.int i:=h;obtain⟨t,rfl⟩:∃t,u=Value.int i t:=r;exact⟨_,.int i t⟩
|.str x,_,u,h,r=>by obtain rfl:_=V.str x:=h;obtain⟨t,rfl⟩:∃t,u=Value.str x t:=r;exact⟨_,.str x t⟩
|.tup ts,_,u,⟨a,vs,e,hS,hL⟩,r=>by subst e;obtain rfl:u=Value.ref a:=r;obtain⟨its,rv,⟨o,h1,h2,n,h3⟩,_⟩:=I.tuple hS;obtain⟨as,ra⟩:=HasL.reads I hL rv;exact⟨_,.tuple h1 h2 h3<|by simpa using ra⟩
|.lst ts,_,u,⟨a,vs,e,hS,hL⟩,r=>by subst e;obtain rfl:u=Value.ref a:=r;obtain⟨its,rv,⟨o,n,h1,h2,_,h3⟩,_⟩:=I.list<|SqL.of hS;obtain⟨as,ra⟩:=HasL.reads I hL rv;exact⟨_,.list h1 h2 h3<|by simpa using ra⟩
theorem HasL.reads (I:Inv X pins σ H s):∀{ts:U Th} {vs:U V} {us:U B},HasL X.K H ts vs->Vals vs us->∃as,ReadsAll s.heap us (eO ts) as
|[],vs,us,h,r=>by obtain rfl:vs=[]:=h;cases r;exact⟨_,.nil⟩
| t::ts,vs,us,⟨v,w',e,h1,h2⟩,r=>by
 subst e;cases r with
 |cons r1 r2=>obtain⟨as,ra⟩:=Has.reads I h1 r1;obtain⟨bs,rb⟩:=HasL.reads I h2 r2;exact⟨_,.cons ra rb⟩
end
end
abbrev j6 (t:Th):Prop:=SeqAt.shaped (toD t)=JZ
theorem pe {X:Cx}(e:X.A.units+64<Rw):OpR X (Lh .Eq) (λx y H Q=>∃t a,Has X.K H t x/\Has X.K H a y/\j6 t/\j6 a/\Q (.bl<|PyData.eqv (toD t)<|toD a) H):=by intro b s m H x y v u Q I rx l h;obtain⟨t,a,c,d,f,g,q⟩:=h;obtain⟨as,i⟩:=Has.reads I c rx;obtain⟨bs,k⟩:=Has.reads I d l;exact Qz i k f g e ⟨.bl _,H,I,rfl,q⟩
theorem oQ {X:Cx}(e:X.A.units+64<Rw):OpR X (Lh .NotEq) (λx y H Q=>∃t a,Has X.K H t x/\Has X.K H a y/\j6 t/\j6 a/\Q (.bl<|!PyData.eqv (toD t) (toD a)) H):=by intro b s m H x y v u Q I rx l h;obtain⟨t,a,c,d,f,g,q⟩:=h;obtain⟨as,i⟩:=Has.reads I c rx;obtain⟨bs,k⟩:=Has.reads I d l;exact Qy i k f g e ⟨.bl _,H,I,rfl,q⟩
section
variable {prog:QN}{w:J8}{A:Kq}{E:B->J0->Prop}{s:J0}
theorem eF {t i:QF}{a:QT B}{m n:B}{lo d:j Int}{Q:B->J0->Prop}(b:RG s.heap t a)(k:s.heap.IsSliceOf i m n .none)(p:LB m lo)(r:LB n d)
  (l:HT.sIx a.size 0 lo=0/\HT.sIx a.size a.size d=a.size) (h:Q (.ref t) s):QK (J4 prog w) A (LC (.ref t)<|.ref i) Q E s:=by
 obtain⟨os,g,f,o⟩:=id k;have e:s.TypeIs (.ref i) "slice":=⟨os,g,f⟩;unfold LC
 try with_reducible refine K2 ?_
 first|refine J1 (J7 ?_)|skip
 refine J1<|wpAny_sequenceKey b.typeIs (by decide) ?_
 refine J1 (MT (name:=Str.ofString "__getitem__") b.typeIs MN
  (L4 MN b.typeIs entry_tuple_getitem ?_<|args_tuple_getitem _ _))
 show QK _ _ (Builtin.Tuple.tupleItemsOf (.ref t) >>= _) _ _ s;refine J1<|tupleItemsOf_ b ?_;refine J1<|Mv e ?_;rw[QG<|by decide];refine J1<|HT.sliceApplied_gen k p r ?_;have c:(((HT.sIx a.size 0 lo:Y):Int)==0&&(1:Int)==1&&(HT.sIx a.size a.size d-HT.sIx a.size 0 lo)==a.size)=true:=by rw[l.1,l.2];simp
 show QK _ _ (if(((HT.sIx a.size 0 lo:Y):Int)==0&&(1:Int)==1&&(HT.sIx a.size a.size d-HT.sIx a.size 0 lo)==a.size)=JZ then _ else _) _ _ s;rw[QG c];unfold Builtin.Tuple.tupleIsExact;refine J1<|J1<|Mv b.typeIs<|J7 ?_;rw[QG<|by decide]
 first
  |exact J1<|Mu<|J7 ⟨_,rfl,J7 h⟩
  |exact J1<|Mu<|J1<|J7<|J7 ⟨_,rfl,J7 h⟩
end
section
variable {X:Cx}
def yF (K:J2):V->j Int->j Int->Hp->VK->Prop:=λx lo e H Q=>∃a d,x=.ref a/\SqT K H a d/\∀v b,Same H b->(∃c,v=.ref c/\SqT K b c (eG d lo e))->Q v b
theorem n0:SlR X (yF X.K):=by
 intro d s w H x v t u lo g o Q I rx k m n h;obtain⟨a,b,rfl,hx,q⟩:=h;by_cases f:HT.sIx b.length 0 lo=0/\HT.sIx b.length b.length g=b.length
 .cases rx;obtain⟨i,r,l,y⟩:=I.tuple hx;have c:i.toArray.size=b.length:=by rw[Ko];exact r.length.symm
  refine⟨"tuple",_,MN.lookup,l.typeIs,?_⟩;refine eF l k m n (by rw[c];exact f) ⟨.ref a,H,I,rfl,q _ _ (Same.refl H) ⟨a,rfl,?_⟩⟩;have e:eG b lo g=b:=by unfold eG;rw[f.1,f.2];simp
  rw[e];exact hx
 .exact C6 d s w H _ v t u lo g o Q I rx k m n ⟨a,b,rfl,hx,f,λp hp=>q _ _ (lx hp _) ⟨p,rfl,SqT.of au⟩⟩
end
def Jh (K:J2):R2:=λx y H Q=>∃p a i v,x=.ref p/\y=.int i/\(SqL K H p a\/SqT K H p a)/\atI a i=O v/\Q v H
theorem ix_any {X:Cx}:IxR X (Jh X.K):=λb a c s l H x y v u Q I rx g h f=>by
 obtain⟨p,k,i,z,e1,e2,d,e,q⟩:=h;rcases d with d|d
 .exact yG b a c s l H x y v u Q I rx g ⟨p,k,i,z,e1,e2,d,e,q⟩ f
 .exact Ej b a c s l H x y v u Q I rx g ⟨p,k,i,z,e1,e2,d,e,q⟩ f
end L3


namespace L3
open PySem PySem.Spec PyProof.Rows L2
def ItO (h:QS):QJ->QF->QF->Y->Prop
|true,b,a,n=>h.IsTupleIter b a n
|false,b,a,n=>h.IsListIter b a n
section
variable {X:Cx}{pins:U (QF×Obj)}{σ:L2.St}{H:Hp}{s:J0}
theorem gk {d:QS}{ch:U QF}(I:Inv X pins σ H s)(g:∀b∈ch,H b=J)(k:∀b o,b ∉ ch->s.heap.get? b=O o->d.get? b=O o):HOk X.prog X.w H d:=λb u e=>by
 have a:∀b u,H b=O u->b ∉ ch:=λb u e z=>by rw[g b z] at e;cases e
 refine(I.hok b u e).stay (λc v f q=>k c v ?_ q) (λ_ q=>q) λ_ _ q=>q;rcases f with z|z
 .rw[z];exact a b u e
 .exact a c _ z
theorem mC {f:QS}{t':Y}{ch:U QF}(I:Inv X pins σ H s)(c:∀b∈ch,iy X pins H b)(k:∀b o,b ∉ ch->s.heap.get? b=O o->f.get? b=O o):Inv X pins σ H {s with heap:=f,toks:=t'}:=by
 refine I.step (g':=s.gens) (d':=s.drawn) (ch:=ch) (λb a=>⟨(c b a).2.2.2.1,(c b a).2.1,(c b a).2.2.2.2.1,(c b a).2.2.2.2.2⟩) (λb o _ _ d e _=>k b o d e) (λb o _ _ d e _=>⟨o.slots,k b o d e⟩) (λ_ _ _ _ n=>n)
  (λb o d e=>⟨o,k b o d e⟩) (λ_ _ e=>e) (λ_ _ _ e=>e) (λb i e=>⟨#[],by rw[e];simp⟩) (λm h=>?_) (gk I (λb a=>(c b a).1) k) I.bare
 obtain⟨o,g,ep,ho,r⟩:=h;exact⟨o,g,ep,k _ o (λz=>(c _ z).2.1 rfl) ho,r⟩
theorem gG {h:QS}{t':Y}{ch:U QF}{a:QF}{i:U V}{c:U B}(I:Inv X pins σ H s)(f:∀b∈ch,iy X pins H b)(k:∀b o,b ∉ ch->s.heap.get? b=O o->h.get? b=O o)
  (l:s.heap.objs.size<=a) (x:i.length<=sizeLine) (w:Vals i c) (v:RG h a c.toArray):Inv X pins σ (upd H a<|.tup i) {s with heap:=h,toks:=t'}:=by
 have fr:H a=none:=I.hok.fresh l;have y:∀b o,s.heap.get? b=O o->b≠a:=λb o e=>Km<|KL (Heap.lt_size e) l
 refine I.step (g':=s.gens) (d':=s.drawn) (ch:=ch) (λb d=>⟨(f b d).2.2.2.1,(f b d).2.1,(f b d).2.2.2.2.1,(f b d).2.2.2.2.2⟩) (λb o _ _ g e _=>k b o g e) (λb o _ _ g e _=>⟨o.slots,k b o g e⟩) (λb o _ e n=>by rw[ae<|y b o e];exact n)
  (λb o g e=>⟨o,k b o g e⟩) (λb u e=>by rw[ae<|aM e fr];exact e) (λb o u e=>by rw[ae<|aM e fr];exact e) (λb A e=>⟨#[],by rw[ae<|aM e fr,e];simp⟩) (λm t=>?_)
  (je (gk I (λb d=>(f b d).1) k) fr ⟨x,c,w,v⟩) I.bare
 obtain⟨o,p,ep,ho,r⟩:=t;exact⟨o,p,ep,k _ o (λz=>(f _ z).2.1 rfl) ho,r⟩
end
structure aB (pre ys:U Str)(scope:Q2):Prop where
 kind:scope.kind=.function
 cell:∀y∈scope.names,y.2≠.cell
 nm:∀y∈scope.names,y.2=.local->scope.names.lookup y.1=O .local
 loc:∀x∈pre,scope.names.lookup x=O .local
 nd:(pre++ys).Nodup
theorem tj {pre:U Str}{c:L2.St}{a:Y}{v:V}(e:(Kb pre.length J++c)[a]?=O (O v)):∃i,a=pre.length+i/\c[i]?=O (O v):=by
 by_cases b:a<pre.length
 .rw [Mr<|by rw [K4]; exact b,Mt,QG b] at e;cases KH e
 .refine ⟨a-pre.length,by lia,?_⟩;rw[L9<|by rw[K4];lia,K4] at e;exact e
theorem qd {X:Cx}{t:U<|QF×Obj}{σ:L2.St}{H:Hp}{s:J0}{pre D:U Str}{is:U Y}{g:Q2}{A:U<|Str×QF}{Q:U QF}{C:QF}{Z:QS}{t1:Y}{m1:Str->j B}
  (I:Inv X t σ H s) (M:∀b∈Q,iy X t H b) (hfo:∀b∈Q,b<s.heap.objs.size) (S:aB pre D g) (h:Clo X A)
  (hfr:(g.names.all λp=>p.2 != .free || (A.lookup p.1).isSome)=JZ) (fr:Frees X g A D is)
  (L:s.heap.objs.size<=C) (m:∀b o,s.heap.get? b=O o->Z.get? b=O o) (hn:Z.Ns C m1):
  Inv (ak X (pre++D) g A C s H Q) t (Kb pre.length J++bC σ is) H {s with heap:=Z,toks:=t1}:=by
 have G:∀b,b≠X.env.locals->b ∉ X.fs->b ∉ frs X.stack:=λb q1 q2 w=>(Kg.mp<|I.stkSub b w).elim q1 q2
 have F:∀a k,(Mb g X.env).names.lookup a=O k->(k=.cell\/k=.free)->∃c,A.lookup a=O c:=λa k e hk=>by
  have hm:=MH e;obtain⟨⟨n,k0⟩,hp,ep⟩:=Kl.mp hm
  have hk0:k0=.free/\n=a:=by
   dsimp only at ep;split at ep
   .rename_i hc;simp only[Kt] at hc;exact⟨eq_of_beq hc.1.1,(O0 ep).1⟩
   .obtain ⟨e1,e2⟩:=O0 ep;subst e2;rcases hk with z|z
    .exact QL z (S.cell _ hp)
    .exact⟨z,e1⟩
  obtain⟨z1,z2⟩:=hk0;subst z1 z2;have q:=KI.mp hfr _ hp;have q2:(A.lookup n).isSome=true:=by simpa using q
  exact Qm.mp q2
 refine⟨⟨I.ok.mod,S.kind,I.ok.glob,I.ok.blt,L,λa b c e1 e2=>I.ok.inj a b c (h.get e1)<|h.get e2,λa ha=>?_,λa c e=>QL e Kv,I.ok.hd,I.ok.frames,.inl rfl,
   λb w=>⟨Km<|KL (hfo b w) L,λa c e=>(M b w).2.2.2.2.1 a c<|h.get e⟩,I.bs,Ky I.ok.bsz I.sz,λb o e w=>?_,λb w=>G b (M b w).2.1 (M b w).2.2.1,I.stack,I.stkFree⟩,
  rfl,I.bare,Un.kept m,⟨m1,hn,λf y v e1 e2 e3=>?_⟩,λa c e=>?_,I.hok.fresh L,λa c e=>I.freeC a c<|h.get e,λp hp=>?_,I.hok.kept m,?_⟩
 .rcases ha with e | e
  .exact F a _ e (.inl rfl)
  .exact F a _ e (.inr rfl)
 .rcases (M b w).2.2.2.1 with z | z
  .exact I.ok.noex b o e z
  .exact QL (KL (Heap.lt_size (I.ok.bs b o e).1) z) (Lp _)
 .obtain ⟨k,rfl,P⟩:=tj e2;have N:D[k]?=O y:=by have x:(pre++D)[pre.length+k]?=O y:=e1;rw[L9 (by lia),Nat.add_sub_cancel_left] at x;exact x
  obtain⟨i,c,g1,g2,g3,g4,g5,g6,g7⟩:=fr.get (σ:=σ) N P;obtain⟨m0,hn0,hl0⟩:=I.loc;obtain⟨u,r,l⟩:=hl0 i y v g1 g2 g3;rcases l with⟨k,_⟩|⟨_,c',e',z⟩
  .rcases g4 with q | q
   .rw[k] at q;cases q
   .rw[k] at q;cases q
  .rw [g5] at e';cases e';obtain⟨o,ho,hd⟩:=z;exact⟨u,r,.inr ⟨g7,c,g6,⟨o,m _ _ ho,hd⟩⟩⟩
 .obtain ⟨v,o,ho,hd⟩:=I.cell a c<|h.get e;exact⟨v,o,m _ _ ho,hd⟩
 .obtain ⟨e,n,ne,nf,d⟩:=I.pin p hp;exact⟨m _ _ e,n,Km<|KL (Heap.lt_size e) L,G _ ne nf,d⟩
 .show (Kb pre.length J++bC σ is).length=(pre++D).length;unfold bC;rw[Kk,Kk,K4,J6,fr.len]
section
variable {X:Cx}
theorem nX {lo:Int}{b:QT B}{n:Y}(h:ItemsOf (λ(i:Y) (v:B)=>∃t,v=Value.int (lo+(i:Int) * 1) t) b n):Vals ((Kc n).map λ(k:Y)=>V.int<|lo+(k:Int)) b.toList:=by
 have d:∀(l:U B) (m:Y),l.length+m=n->(∀a v,l[a]?=O v->∃t,v=Value.int (lo+((m+a:Y):Int)) t)->Vals ((List.range' m l.length).map λ(k:Y)=>V.int (lo+(k:Int))) l:=by
  intro l;induction l with
  |nil=>intro m _ _;exact .nil
  |cons v l r=>intro m p f;obtain⟨t,e⟩:=f 0 v rfl;rw[Ki,List.range'_succ,Ku];refine .cons ⟨t,by rw[e];rfl⟩<|r (m+1) (by rw[Ki] at p;lia) λa u c=>?_;obtain⟨s,g⟩:=f (a+1) u c;exact⟨s,by rw[g,show m+(a+1)=m+1+a by lia]⟩
 have o:b.toList.length=n:=by rw[KD];exact h.1
 have:=d b.toList 0 (by lia) λa v c=>by obtain⟨t,e⟩:=h.2 a v (by simpa using c);exact⟨t,by rw[e,Int.mul_one,LD]⟩
 rw[o] at this;rw[List.range_eq_range'];exact this
theorem mz (A:X.calm=JZ):bI X (.type "list") (λm H Q=>∃p i a,m=[.ref p]/\H p=O (.rng i a)/\(-(2 ^ 62)<=i/\i<2 ^ 62/\-(2 ^ 62)<=a/\a<2 ^ 62)/\(a-i).toNat<=sizeLine/\∀l,H l=J->Q (.ref l) (upd H l<|.lst<|(Kc (a-i).toNat).map λ(k:Y)=>V.int<|i+(k:Int))):=by intro g s M H m L Q I r h;obtain⟨p,i,a,rfl,hp,⟨o,w,x,y⟩,f,q⟩:=h;obtain⟨u,rfl,F⟩:=cc r;cases F;obtain⟨t,u,v,e⟩:=I.hok p _ hp;refine call_list_range (I.ok.hd A) e (small_one o w x y) (n:=(a-i).toNat) (by rw[rangeSize_one];split<;>lia) (Ky f<|by decide) λG tk b z hk d c=>?_;have D:=nX c;refine⟨.ref s.heap.objs.size,upd H s.heap.objs.size<|.lst<|(Kc (a-i).toNat).map λ(k:Y)=>V.int<|i+(k:Int),I.laid (t':=tk) hk (J9 _) ⟨?_,b.toList,z,D,by rw[d,NO]⟩,rfl,q _ I.fresh⟩;rw[J6,KY];exact f
end
def Ite (K:J2)(a:QF):It:=
 ⟨fun i H=>∃ b x,SqL K H a b/\b[i]?=O x,
  λi H v c=>∃p x,v=.ref p/\H p=J/\c=upd H p (.tup [.int (i:Int),x])/\∀b,SqL K H a b->b[i]?=O x,
  λi H=>∃b,SqL K H a b/\b.length<=i⟩
theorem qx {P:QN}{w:J8}{K:J2}{es:U QQ}{kt:Y}{pt:Pos}{e n a:QF}(r:e≠n):sF P w K (.Tuple es kt pt) (Ite K a) [e,n] e (λi h=>(∃f,IsEnum h e n (i:Int) f)/\h.IsListIter n a i) where
 mem:=by simp
 obj:=λi h l b c=>by
  obtain⟨⟨f,g⟩,m⟩:=l;simp only[Kg,LH,Q3] at c;rcases c with rfl|rfl
  .exact⟨_,g,λv y=>by cases y⟩
  .obtain ⟨o,F,_,d⟩:=m;exact⟨o,F,λv y=>by rw[d] at y;cases y⟩
 keep:=λi h u l k=>by obtain⟨⟨f,g⟩,m⟩:=l;exact⟨⟨f,k e (by simp) _ g⟩,m.at λo z=>k n (by simp) o z⟩
 item:=by
  intro X M Q L hc i t s σ H E I A l N;subst M Q L;obtain⟨xs,x,D,hx⟩:=N;obtain⟨⟨f,g⟩,m⟩:=l;obtain⟨Z,v1,o1,z1⟩:=I.list D;obtain⟨u1,e1,r1⟩:=v1.get hx
  have lt:∀b∈[e,n],b<s.heap.objs.size:=λb c=>by
   simp only[Kg,LH,Q3] at c;rcases c with rfl|rfl
   .exact Heap.lt_size g
   .obtain⟨o,F,_⟩:=m;exact Heap.lt_size F
  refine wpAny_pyNext_enum_item g m o1.isList (x:=u1) (by simpa using e1) r λu y1 y2 y3 y4 y5=>⟨_,rfl,?_⟩;refine wpAny_letOwnedTupleGo_enum (s:={s with heap:=u,toks:=s.toks+1}) y1 λG w1 sb=>?_;have p:Heap.SameBut e u G:=sb;have nz:s.heap.objs.size≠e:=LF (lt e<|by simp);have kk:∀b o,b ∉ [e,n]->s.heap.get? b=O o->G.get? b=O o:=λb o c z=>by simp only[Kg,LH,Q3,not_or] at c;exact(p.2 b c.1).trans<|y5 b o c.1 c.2 z
  have tp:RG G s.heap.objs.size [.int (i:Int) s.toks,u1].toArray:=⟨_,(p.2 _ nz).trans y3,rfl,_,rfl⟩
  refine⟨.ref s.heap.objs.size,upd H s.heap.objs.size<|.tup [.int (i:Int),x],gG (s:=s) (t':=s.toks+1) I A kk (J9 _) (by show 2<=sizeLine;decide) (.cons ⟨_,rfl⟩<|.cons r1 .nil) tp,rfl,
   ⟨_,x,rfl,I.fresh,rfl,λzs hz=>by rw[I.list_inj hz D];exact hx⟩,?_,λb c=>?_⟩
  .exact⟨⟨_,w1⟩,y2.at λo z=>(p.2 _<|KS r).trans z⟩
  .rw[ae<|Km<|lt b c];exact(A b c).1
 done:=by intro X M Q L hc i t s σ H E I A l N;subst M Q L;obtain⟨xs,D,hl⟩:=N;obtain⟨⟨f,g⟩,m⟩:=l;obtain⟨Z,v1,o1,z1⟩:=I.list D;have l1:=v1.length;refine wpAny_pyNext_enum_end (I.ok.hd hc) g m o1.isList (by simp;lia) λu eb=>⟨rfl,mC (t':=s.toks) I A λb o c z=>eb b o (λy=>c<|by simp[y]) z⟩
 self:=λ_ _ _ _ _ l h=>by obtain⟨⟨f,g⟩,_⟩:=l;exact wpAny_pyIter_enum g h
section
variable {X:Cx}
def AL (K:J2)(c:TA):TI:=λf H R=>c f H λd b=>∃a,d=[.ref a]/\(∃e,SqL K b a e)/\R (Ite K a) b
theorem zq {a:QQ}{l:TA}{p pos pt:Pos}{n:U QQ}{z:Y}(u:Gl X "enumerate")(v:X.mg "enumerate"=J)(t:PA X [a] l)(w:J5 [a] X.env=[(JY,QY a X.env)]:=by rfl):
  PI X (.Tuple n z pt) (.Call (.Name "enumerate" p) [a] [] pos) (AL X.K l):=by
 intro d s L H R I h;refine Call_<|cU I u v boot_enumerate<|MO (thn (t pos d s L H _ I h) λM g ⟨P,m,I1,F,f⟩=>?_) w rfl;obtain⟨a,rfl,⟨Q,i⟩,q⟩:=f;cases F with
 | cons r G =>
  cases G;cases r;obtain⟨x,N,A,Z⟩:=I1.list i;refine call_enumerate_list A.isList λo f D _ y=>?_;refine wpAny_pyIter_enum (s:={g with heap:=o}) f ?_;refine⟨_,_,_,_,m,rfl,I1.kept (t':=g.toks) y,qx<|Nat.succ_ne_self _,⟨⟨_,f⟩,D⟩,λb k=>?_,q⟩;have c:g.heap.objs.size<=b:=by simp only[Kg,LH,Q3] at k;rcases k with e|e<;>(rw[e];first|exact Nat.le_add_right _ _|exact J9 _)
  exact I1.fpOk c<|I1.hok.fresh c
end
section
variable {prog:QN}{w:J8}{A:Kq}{R:Rq->J0->Prop}{s:J0}
theorem lP {D M k f:QQ}{c:Q2}{pos:Pos}{L u:B}{b:Env}(a:Y->J0->Prop)
  (turn:∀ n s,a n s->QK (J4 prog w) A (LL L) (fun r d=>match r with
   |none=>R (.ok .next) d
   | some v=>QK (J4 prog w) A (My M L v) (fun _ l=>QK (J4 prog w) A (Ln M b v) (fun _ o=>QK (J4 prog w) A (RH f b (QY f b)) (fun ok e=>if ok=JZ then
     QK (J4 prog w) A (QY D b) (λy p=>QK (J4 prog w) A (call (.builtin "list.append") [u,y]) (λ_ t=>∃m,m<n/\a m t) noX p) noX e else∃m,m<n/\a m e) noX o) noX l) noX d) noX s)
  (n:Y) (h:a n s):KZ (J4 prog w) A (.compLoop (.ListComp D [⟨M,k,[f],0⟩] c pos) 0 L u b) R s:=by
 refine codeAny_loop rfl a (λn s N=>?_) n h;show QK _ A ((compTurn (.ListComp D [⟨M,k,[f],0⟩] c pos) 0 L u b).onRaise (λx=>do noteFrame x b;theTreesLotGoes x)) _ _ s;refine wpAny_noted ?_;rw[compTurn_list];refine J1<|Nh<|J1<|KG (turn n s N) (λr d g=>?_) λ_ _ z=>z.elim;cases r with
 |none=>exact J7 g
 |some v=>
  refine J1<|KG g (λ_ l F=>?_) λ_ _ z=>z.elim;refine J1<|KG F (λ_ o G=>?_) λ_ _ z=>z.elim;refine J1<|wpAny_tests_one<|KG G (λok e i=>?_) λ_ _ z=>z.elim;cases ok with
  |true=>exact J1<|J1<|KG i (λy p H=>J1<|KG H (λ_ t I=>J7<|J7 ⟨rfl,I⟩) λ_ _ z=>z.elim) λ_ _ z=>z.elim
  |false=>exact J1<|J7<|J7 ⟨rfl,i⟩
end
end L3

namespace L3
open PySem PySem.Spec PyProof.Rows L2
def y7 (n:Y)(a:It)(g:TG)(r:TT)(s:TE)(c:L2.St)(k:Hp)(Q:VK):Prop:=∃W:Y->Y->U V->Hp->Prop,(∃m,W 0 m [] k)/\∀i m d H,W i m d H ->
 (a.stop i H/\d.length<=sizeLine/\∀p,H p=J->Q (.ref p) (upd H p<|.lst d)) \/
 (a.go i H/\d.length<sizeLine/\∀x f,a.yld i H x f->g x (Kb n J++c) f λb l=>(b.length=n+c.length/\b.drop n=c)/\r b l λok h=>if ok=JZ then s b h λy o=>∃e,e<m/\W (i+1) e (d++[y]) o else∃e,e<m/\W (i+1) e d h)
def xi (n:Y)(a:It)(g:TG)(o:TE)(b:L2.St)(h:Hp)(Q:VK):Prop:=∃W:Y->Y->U V->Hp->Prop,(∃m,W 0 m [] h)/\∀i m d H,W i m d H ->
 (a.stop i H/\d.length<=sizeLine/\∀p,H p=J->Q (.ref p) (upd H p<|.lst d)) \/
 (a.go i H/\d.length<sizeLine/\∀x e,a.yld i H x e->g x (Kb n J++b) e λc k=>(c.length=n+b.length/\c.drop n=b)/\o c k λy l=>∃f,f<m/\W (i+1) f (d++[y]) l)
def dy (n:Y)(h:TI)(d:U Y)(g:TG)(e:TT)(f:TE):TE:=λb H Q=>h b H λa c=>y7 n a g e f (bC b d) c Q
def jJ (n:Y)(f:TI)(d:U Y)(g:TG)(e:TE):TE:=λb H Q=>f b H λa c=>xi n a g e (bC b d) c Q
theorem uR {n:Y}{c b:L2.St}(h:c.drop n=b){a:Y}{w:V}(e:(Kb n J++b)[a]?=O (O w)):c[a]?=O (O w):=by
 by_cases d:a<n
 .rw [Mr<|by simpa using d,Mt,QG d] at e;cases KH e
 .rw [L9<|by simpa using d,K4,<- h,List.getElem?_drop,Nat.add_sub_cancel'<|by lia] at e;exact e
def CW (X:Cx)(a:U QQ)(k:QJ->J0->Prop)(s:J0):Prop:=match a with
|[]=>k JZ s
|[c]=>QK (J4 X.prog X.w) X.A (RH c X.env<|QY c X.env) k noX s
|_=>QX
def PC (X:Cx)(d:U QQ)(f:TT):Prop:=∀(a:U<|QF×Obj) (s:J0) (b:L2.St) (H:Hp) (Q:QJ->Hp->Prop),Inv X a b H s->f b H Q->CW X d (λok e=>∃c,Inv X a b c e/\Q ok c) s
theorem CW.mono {X:Cx}{a:U QQ}{k d:QJ->J0->Prop}{s:J0}(h:CW X a k s)(w:∀b s,k b s->d b s):CW X a d s:=by
 match a,h with
 |[],h=>exact w _ _ h
 |[c],h=>exact KG h w λ_ _ z=>z
theorem lr {X:Cx}{g z i:QQ}{t:U QQ}{e:Q2}{pos:Pos}{x f:B}{R:Rq->J0->Prop}{s:J0}(a:Y->J0->Prop)
  (turn:∀ n s,a n s->QK (J4 X.prog X.w) X.A (LL x) (fun r b=>match r with
   |none=>R (.ok .next) b
   | some v=>QK (J4 X.prog X.w) X.A (My z x v) (fun _ k=>QK (J4 X.prog X.w) X.A (Ln z X.env v) (fun _ l=>CW X t (fun ok d=>if ok=JZ then
     QK (J4 X.prog X.w) X.A (QY g X.env) (λy o=>QK (J4 X.prog X.w) X.A (call (.builtin "list.append") [f,y]) (λ_ p=>∃m,m<n/\a m p) noX o) noX d else∃m,m<n/\a m d) l) noX k) noX b) noX s)
  (n:Y) (h:a n s) (u:t.length<=1):KZ (J4 X.prog X.w) X.A (.compLoop (.ListComp g [⟨z,i,t,0⟩] e pos) 0 x f X.env) R s:=by
 match t,u with
 |[],_=>exact nG a turn n h
 |[c],_=>exact lP a turn n h
theorem ky {X:Cx}{elt P tg:QQ}{cs:U QQ}{pre:U Str}{pos:Pos}{k:Q2}{N:U<|Str×QF}{Z:U Str}{is:U Y}{wi:TI}{g:TG}{te:TE}{tc:TT}{use:j<|B->Sem Unit}{Q:VK}{Qp:B->J0->Prop}{m:U<|QF×Obj}{s:J0}{σ:L2.St}{H:Hp}{ip:Pos}
  (hc:X.calm=JZ) (hi:PI X tg P wi) (hg:∀C s H F,PG (ak X (pre++Z) k N C s H F) tg g) (he:∀C s H F,PE (ak X (pre++Z) k N C s H F) elt te) (hcd:∀C s H F,PC (ak X (pre++Z) k N C s H F) cs tc) (hcs:cs.length<=1)
  (hclos:Lk k X.env=pure N) (S:aB pre Z k) (hcl:Clo X N) (hfr:(k.names.all λp=>p.2 != .free || (N.lookup p.1).isSome)=JZ) (fr:Frees X k N Z is) (hs:∀v,K7 P X.env v=pure v)
  (fin:∀(s4:J0) (Hn:Hp) (D L:QF) (m4:Str->j B),Inv X m σ Hn s4->s4.heap.Ns L m4->L≠X.env.locals->(∀a c,X.env.cells.lookup a=O c->c≠L)->Hn L=J->X.s₀.heap.objs.size<=L->(∀p∈X.pn++m,p.1≠L)->Q (.ref D) Hn->compPost (J4 X.prog X.w) X.A X.xe use Qp (.ref D) L (.ok .next) s4)
  (I:Inv X m σ H s) (h:dy pre.length wi is g tc te σ H Q):
  QK (J4 X.prog X.w) X.A (Rp (.ListComp elt [⟨tg,P,cs,0⟩] k pos) k X.env ip (newList []) JY (QY P X.env) use) Qp X.xe s:=by
 refine wpAny_comprehension_free (use:=use) rfl hs hclos S.kind S.nm (thn (hi m s σ H _ I h) λxv s1 h1=>thn h1 λitv l h2=>?_);obtain⟨it,F,tn,d,M,rfl,I2,T,st2,f2,W,⟨m0,w0⟩,turn⟩:=h2;have fpo:∀b∈F,b<l.heap.objs.size:=λb t=>by obtain⟨o,e,_⟩:=T.obj _ _ st2 b t;exact Heap.lt_size e
 refine Ly<|wpAny_newFunctionEnv S.cell (λy hy=>by cases hy) (λg' hns hsb=>?_) S.kind;dsimp only at hns hsb ⊢;generalize hP2:l.heap.push {cls:=.type "list",dict:=J,data:=.seq ([]:U B).toArray}=P2 at hns hsb ⊢;have hCs:P2.objs.size=l.heap.objs.size+1:=by rw[<- hP2,Heap.size_push]
 have hDC:l.heap.objs.size≠P2.objs.size:=by lia
 have hle:l.heap.objs.size<=P2.objs.size:=by lia
 have nc:∀b o,l.heap.get? b=O o->b≠P2.objs.size:=λb o e=>Km<|KL (Heap.lt_size e) hle;have nd:∀b o,l.heap.get? b=O o->b≠l.heap.objs.size:=λb o e=>Km<|Heap.lt_size e;have ndH:∀b u,M b=O u->b≠l.heap.objs.size:=λb u e=>Km<|I2.hok.lt e;have old:∀b o,l.heap.get? b=O o->g'.get? b=O o:=λb o e=>hsb.extBut b o (nc b o e)<|Heap.get?_push_of_some _<|hP2 ▸ Heap.get?_push_of_some _ e;have accD:g'.get? l.heap.objs.size=O (jW []):=hsb.extBut _ _ hDC<|Heap.get?_push_of_some _<|hP2 ▸ Heap.get?_push_size _ rfl;have stkD:l.heap.objs.size ∉ frs X.stack:=λt=>(Kg.mp<|I2.stkSub _ t).elim (λz=>QL z<|LF I2.lt)<|I2.nofs<|J9 _;generalize hσ':bC σ is=σ' at turn;have I3:Inv (ak X (pre++Z) k N P2.objs.size l M F) m (Kb pre.length J++σ') M {l with heap:=g',toks:=l.toks+([]:U<|Str×B).length}:=by rw[<- hσ'];exact qd (pre:=pre) I2 f2 fpo S hcl hfr fr hle old hns
 have stat:∀{H':Hp} {o:Obj},(∀b∈F,H' b=J)->∀b∈F,iy (ak X (pre++Z) k N P2.objs.size l M F) (m++[(l.heap.objs.size,o)]) H' b:=λ{H' o} hn b t=>by
  refine⟨hn b t,Km<|KL (fpo b t) hle,λz=>(Kg.mp<|I2.stkSub _ z).elim (f2 b t).2.1 (f2 b t).2.2.1,.inl t,λa c e=>(f2 b t).2.2.2.2.1 a c<|hcl.get e,λp hp=>?_⟩;rcases KP.mp hp with z|z
  .exact(f2 b t).2.2.2.2.2 p<|LV _ z
  .rcases KP.mp z with z | z
   .exact(f2 b t).2.2.2.2.2 p<|KJ _ z
   .rw [KA.mp z];exact LF<|fpo b t
 have loop:KZ (J4 X.prog X.w) X.A (.compLoop (.ListComp elt [⟨tg,P,cs,0⟩] k pos) 0 (.ref it) (.ref l.heap.objs.size) (compEnvC k N P2.objs.size X.env))
   (compPost (J4 X.prog X.w) X.A X.xe use Qp (.ref l.heap.objs.size) P2.objs.size) {l with heap:=g',toks:=l.toks+([]:U<|Str×B).length}:=by
  refine lr (X:=ak X (pre++Z) k N P2.objs.size l M F) (λn s'=>∃i zs x H',Inv (ak X (pre++Z) k N P2.objs.size l M F) m (Kb pre.length J++σ') H' s'/\tn i s'.heap/\(∀b∈F,H' b=J)/\s'.heap.get? l.heap.objs.size=O (jW x)/\Vals zs x/\H' l.heap.objs.size=J/\W i n zs H')
   ?_ m0 ⟨0,[],[],M,I3,T.keep _ _ _ st2 λb _ o e=>old b o e,λb t=>(f2 b t).1,accD,.nil,I2.hok.fresh<|J9 _,w0⟩ hcs
  rintro n s3 ⟨i,zs,x,H3,J3,st3,fr3,d3,rv3,nd3,w3⟩;have hzl:=rv3.length
  have J3':Inv (ak X (pre++Z) k N P2.objs.size l M F) (m++[(l.heap.objs.size,jW x)]) (Kb pre.length J++σ') H3 s3:=J3.pins_of λp hp=>by
   rcases KP.mp hp with z|z
   .exact J3.pin p (KJ _ z)
   .rw [KA.mp z];exact⟨d3,nd3,hDC,stkD,λv q=>by cases q⟩
  rcases turn i n zs H3 w3 with⟨stop,hz,q⟩|⟨go,hz,step⟩
  .refine KG (T.done (ak X (pre++Z) k N P2.objs.size l M F) rfl rfl rfl hc i _ s3 _ H3 noX J3' (stat fr3) st3 stop) (fun r s4 h4=>?_) fun _ _ z=>z.elim;obtain⟨hr,I4⟩:=h4;subst hr;obtain⟨m4,hn4,_⟩:=id I4.loc;have f4:H3 P2.objs.size=none:=I4.free;have d4:s4.heap.get? l.heap.objs.size=O (jW x):=(I4.pin (l.heap.objs.size,jW x) (KJ _ (KJ _ (KA.mpr rfl)))).1;have u4:Un (frs X.stack) F M H3 l.heap s4.heap:=I4.base
   have un:Un (frs X.stack) F M (upd H3 l.heap.objs.size (.lst zs)) l.heap s4.heap:=
    ⟨u4.keep,u4.slot,fun b o e n hx=>by rw [ae (nd b o e)]; exact u4.free b o e n hx,u4.there,
     λb xs q=>by rw[ae<|ndH b _ q];exact u4.tups b xs q,λb o u q=>by rw[ae<|ndH b _ q];exact u4.frzs b o u q,λb ps q=>by rw[ae<|ndH b _ q];exact u4.tbls b ps q⟩
   have IX:Inv X m σ (upd H3 l.heap.objs.size (.lst zs)) s4:=I2.call' (s':=s4) (ch:=F) I4.os un (je I4.hok nd3 ⟨hz,x,x.length,rv3,d4⟩) I4.bare
    (λb t=>⟨(f2 b t).2.2.2.1,(f2 b t).2.1,(f2 b t).2.2.2.2.1,(f2 b t).2.2.2.2.2⟩)
   have cL:P2.objs.size≠X.env.locals:=LF<|KL I2.lt hle;have cC:∀a c,X.env.cells.lookup a=O c->c≠P2.objs.size:=λa c e=>by obtain⟨v',o',ho',_⟩:=I2.cell a c e;exact nc c o' ho'
   exact fin s4 _ l.heap.objs.size P2.objs.size m4 IX hn4 cL cC (by rw[ae<|KS hDC];exact f4) (Ky I2.sz hle) (λp hp=>nc p.1 _ (I2.pin p hp).1)<|q _ nd3
  .refine KG (T.item (ak X (pre++Z) k N P2.objs.size l M F) rfl rfl rfl hc i _ s3 _ H3 noX J3' (stat fr3) st3 go) (fun r s4 h4=>?_) fun _ _ z=>z.elim;obtain⟨u,hr,h4⟩:=h4;subst hr;refine KG h4 (λ_ s5 h5=>?_) λ_ _ z=>z.elim;obtain⟨v,H5,I5,r5,y5,st5,fr5⟩:=h5;have I5':=I5.pinned (stat fr5) (T.obj _ _ st5);refine KG (hg P2.objs.size l M F _ s5 _ H5 v u _ I5' r5 (step v H5 y5)) (λ_ s6 h6=>?_) λ_ _ z=>z.elim;obtain⟨σ6,H6,I6,⟨hl6,hd6⟩,step'⟩:=h6;have back:∀{H7:Hp} {s7:J0},Inv (ak X (pre++Z) k N P2.objs.size l M F) ((m++[(l.heap.objs.size,jW x)])++hU F s5.heap) σ6 H7 s7->Inv (ak X (pre++Z) k N P2.objs.size l M F) m (Kb pre.length J++σ') H7 s7:=λI7=>I7.unpinned.unpinned.weak (by rw[hl6,Kk,K4]) λf w' e=>uR hd6 e;refine CW.mono (hcd P2.objs.size l M F _ s6 _ H6 _ I6 step') λok s6' h6'=>?_;obtain⟨H6',I6',q6⟩:=h6';cases ok with
   | false =>
    rw[QH Kv] at q6;obtain⟨m',hm',w7⟩:=q6;have G:=I6'.pin (l.heap.objs.size,jW x)<|KJ _<|LV _<|KJ _<|KA.mpr rfl;rw[QH Kv];refine⟨m',hm',i+1,zs,x,H6',back I6',T.keep _ _ _ st5 λb t o e=>?_,λb t=>?_,G.1,rv3,G.2.1,w7⟩
    .exact(I6'.pin (b,o)<|KJ _<|KJ _<|bD t e).1
    .obtain ⟨o,e,_⟩:=T.obj _ _ st5 b t;exact(I6'.pin (b,o)<|KJ _<|KJ _<|bD t e).2.1
   | true =>
    rw[QG rfl] at q6 ⊢;refine KG (he P2.objs.size l M F _ s6' _ H6' _ I6' q6) (λyv s7 h7=>?_) λ_ _ z=>z.elim;obtain⟨y',H7,I7,r7,m',hm',w7⟩:=h7;have G:=I7.pin (l.heap.objs.size,jW x)<|KJ _<|LV _<|KJ _<|KA.mpr rfl;refine append_at (hsz:=by show x.toArray.size<=sizeLine;rw[Ko];lia) G.1 λh8 sb8 hD8=>?_
    have I8:Inv (ak X (pre++Z) k N P2.objs.size l M F) m (Kb pre.length J++σ') H7 {s7 with heap:=h8}:=(back I7).turned (t':=s7.toks) (it:=l.heap.objs.size) (λb o t e=>(sb8.2 b t).trans e) G.2.1 hDC (.inr<|J9 _)
     (fun a c e z=>by
      obtain⟨v',o',ho',_⟩:=I2.cell a c<|hcl.get e;exact nd c o' ho' z)
     (λp hp=>nd p.1 _ (I2.pin p hp).1)
    refine⟨m',hm',i+1,zs++[y'],x++[yv],H7,I8,T.keep _ _ _ st5 λb t o e=>?_,λb t=>?_,?_,rv3.append<|.cons r7 .nil,G.2.1,w7⟩
    .exact(sb8.2 b<|Km<|fpo b t).trans (I7.pin (b,o)<|KJ _<|KJ _<|bD t e).1
    .obtain ⟨o,e,_⟩:=T.obj _ _ st5 b t;exact(I7.pin (b,o)<|KJ _<|KJ _<|bD t e).2.1
    .show h8.get? l.heap.objs.size=_;rw[hD8];simp[jW]
 exact codeAny_compStart_list loop<|T.self X.A 0 _ _ _ (T.keep _ _ _ st2 λb _ o e=>old b o e) loop
section
variable {X:Cx}{elt iter tg cnd:QQ}{pre:U Str}{pos spos pz:Pos}{z:Str}{jz:Y}{scope:Q2}{cl:U (Str×QF)}{ys:U Str}{is:U Y}{wi:TI}{g:TG}{te:TE}{tc:TT}
theorem pcF (h:PT X cnd tc)(hx:∀v s,X.xe v s->QX):PC X [cnd] tc:=λa s b H Q I q=>KG (h a s b H Q I q) (λ_ _ z=>z) λv s z=>hx v s z
def tT:TT:=λ_ H Q=>Q JZ H
theorem pcN:PC X [] tT:=λa s b H Q I q=>⟨H,I,q⟩
theorem goN {n:Y}{a:L2.St}{H:Hp}{Q:VK}(h:jJ n wi is g te a H Q):dy n wi is g tT te a H Q:=h
theorem kI {d:U QQ}(x:X.calm=JZ)(F:PI X tg iter wi)(A:∀C s H c,PG (ak X (pre++ys) scope cl C s H c) tg g)(y:∀C s H c,PE (ak X (pre++ys) scope cl C s H c) elt te)(f:∀C s H c,PC (ak X (pre++ys) scope cl C s H c) d tc)(k:d.length<=1)
  (a:Lk scope X.env=pure cl) (S:aB pre ys scope) (i:Clo X cl) (l:(scope.names.all λp=>p.2 != .free || (cl.lookup p.1).isSome)=JZ) (fr:Frees X scope cl ys is) (M:∀v,K7 iter X.env v=pure v):
  PE X (.ListComp elt [⟨tg,iter,d,0⟩] scope pos) (dy pre.length wi is g tc te):=by
 intro m s σ H Q I h;rw[eval_ListComp];show QK _ _ (Rp _ scope X.env _ (newList []) JY (QY iter X.env) J) _ _ s;refine ky x F A y f k a S i l fr M (λZ Hn D L P n G t r u N hp q=>?_) I h;exact⟨P,G,λh' sb=>⟨.ref D,_,n.turned (t':=Z.toks) (it:=L) (λb o w e=>(sb.2 b w).trans e) u t (.inr N) r hp,rfl,q⟩⟩
theorem k9 {f:U QQ}(hN:X.N.Nodup)(hj:X.N[jz]?=O z)(c:Loc X.env.scope z)(w:Lg (.ListComp elt [⟨tg,iter,f,0⟩] scope pos) (O<|.Name z pz) spos.line X.env=pure JZ)(hc:X.calm=JZ)(hi:PI X tg iter wi)(hg:∀C s H i,PG (ak X (pre++ys) scope cl C s H i) tg g)(he:∀C s H i,PE (ak X (pre++ys) scope cl C s H i) elt te)(m:∀C s H i,PC (ak X (pre++ys) scope cl C s H i) f tc)(r:f.length<=1)
  (a:Lk scope X.env=pure cl) (S:aB pre ys scope) (n:Clo X cl) (u:(scope.names.all λp=>p.2 != .free || (cl.lookup p.1).isSome)=JZ) (fr:Frees X scope cl ys is) (hs:∀v,K7 iter X.env v=pure v) (t:X.fn z=JZ\/X.env.scope.names.lookup z=O .local):
  PS X (.Assign [.Name z pz] (.ListComp elt [⟨tg,iter,f,0⟩] scope pos) spos) (nq (dy pre.length wi is g tc te)<|cu jz):=by
 intro k s σ H D I h;rw[exec_Assign_Name_used _ _ _ _ w];refine J1<|Nh<|J1 ?_;show QK _ _ (do let _ <- Rp (.ListComp elt [⟨tg,iter,f,0⟩] scope pos) scope X.env _ (newList []) JY (QY iter X.env) (O (Ln (.Name z pz) X.env))) _ _ s;refine J1<|thn (ky (use:=O<|Ln (.Name z pz) X.env) (Qp:=λ_ F=>SP X k D .next F) hc hi hg he m r a S n u fr hs (λs4 Hn d L m4 M hn A y Z hz hp q=>?_) I h) λ_ F hq=>J7<|J7 hq;show QK _ _ (Ln (.Name z pz) X.env<|.ref d) _ _ s4;refine wpAny_assign_Name<|iR M hN hj c (v:=.ref d) rfl (λs5 G Q=>?_) t;obtain⟨P,x,l⟩:=Q;have na:L≠P:=l.elim (λe=>by rw[e];exact A) λe=>KS<|y _ _ e;exact⟨m4,hn.sameBut x na,λh' sb=>⟨_,_,G.turned (t':=s5.toks) (it:=L) (λb o hb e=>(sb.2 b hb).trans e) Z A (.inr hz) y hp,q⟩⟩
theorem qM (f:X.calm=JZ)(l:PI X tg iter wi)(k:∀C s H c,PG (ak X (pre++ys) scope cl C s H c) tg g)(i:∀C s H c,PE (ak X (pre++ys) scope cl C s H c) elt te)
  (a:Lk scope X.env=pure cl) (S:aB pre ys scope) (d:Clo X cl) (e:(scope.names.all λp=>p.2 != .free || (cl.lookup p.1).isSome)=JZ) (fr:Frees X scope cl ys is) (m:∀v,K7 iter X.env v=pure v:=by intro _;rfl):
  PE X (.ListComp elt [⟨tg,iter,[],0⟩] scope pos) (jJ pre.length wi is g te):=λb s n H Q I h=>kI f l k i (λ_ _ _ _=>pcN) (Kx _) a S d e fr m b s n H Q I<|goN h
theorem iO (f:X.calm=JZ)(k:PI X tg iter wi)(i:∀C s H b,PG (ak X (pre++ys) scope cl C s H b) tg g)(h:∀C s H b,PE (ak X (pre++ys) scope cl C s H b) elt te)(c:∀C s H b,PT (ak X (pre++ys) scope cl C s H b) cnd tc)
  (a:Lk scope X.env=pure cl) (S:aB pre ys scope) (d:Clo X cl) (e:(scope.names.all λp=>p.2 != .free || (cl.lookup p.1).isSome)=JZ) (fr:Frees X scope cl ys is) (l:∀v,K7 iter X.env v=pure v:=by intro _;rfl):
  PE X (.ListComp elt [⟨tg,iter,[cnd],0⟩] scope pos) (dy pre.length wi is g tc te):=kI f k i h (λ_ _ _ _=>pcF (c _ _ _ _) λ_ _ z=>z) (J9 _) a S d e fr l
theorem pY (l:X.N.Nodup)(t:X.N[jz]?=O z)(b:Loc X.env.scope z)(k:Lg (.ListComp elt [⟨tg,iter,[],0⟩] scope pos) (O<|.Name z pz) spos.line X.env=pure JZ)(m:X.calm=JZ)(r:PI X tg iter wi)(o:∀C s H d,PG (ak X (pre++ys) scope cl C s H d) tg g)(n:∀C s H d,PE (ak X (pre++ys) scope cl C s H d) elt te)
  (a:Lk scope X.env=pure cl) (S:aB pre ys scope) (e:Clo X cl) (i:(scope.names.all λp=>p.2 != .free || (cl.lookup p.1).isSome)=JZ) (fr:Frees X scope cl ys is) (u:∀v,K7 iter X.env v=pure v:=by intro _;rfl) (f:X.fn z=JZ\/X.env.scope.names.lookup z=O .local:=by first|exact .inl rfl|exact .inr rfl|assumption):
  PS X (.Assign [.Name z pz] (.ListComp elt [⟨tg,iter,[],0⟩] scope pos) spos) (nq (jJ pre.length wi is g te)<|cu jz):=λc s w H D I h=>k9 l t b k m r o n (λ_ _ _ _=>pcN) (Kx _) a S e i fr u f c s w H D I<|goN h
theorem pK (k:X.N.Nodup)(r:X.N[jz]?=O z)(b:Loc X.env.scope z)(i:Lg (.ListComp elt [⟨tg,iter,[cnd],0⟩] scope pos) (O<|.Name z pz) spos.line X.env=pure JZ)(l:X.calm=JZ)(o:PI X tg iter wi)(n:∀C s H c,PG (ak X (pre++ys) scope cl C s H c) tg g)(m:∀C s H c,PE (ak X (pre++ys) scope cl C s H c) elt te)(d:∀C s H c,PT (ak X (pre++ys) scope cl C s H c) cnd tc)
  (a:Lk scope X.env=pure cl) (S:aB pre ys scope) (e:Clo X cl) (h:(scope.names.all λp=>p.2 != .free || (cl.lookup p.1).isSome)=JZ) (fr:Frees X scope cl ys is) (t:∀v,K7 iter X.env v=pure v:=by intro _;rfl) (f:X.fn z=JZ\/X.env.scope.names.lookup z=O .local:=by first|exact .inl rfl|exact .inr rfl|assumption):
  PS X (.Assign [.Name z pz] (.ListComp elt [⟨tg,iter,[cnd],0⟩] scope pos) spos) (nq (dy pre.length wi is g tc te)<|cu jz):=k9 k r b i l o n m (λ_ _ _ _=>pcF (d _ _ _ _) λ_ _ z=>z) (J9 _) a S e h fr t f
end
end L3

namespace L3
open PySem PySem.Spec PyProof.Rows L2
abbrev iC (a:U B)(c:Y):Obj:={cls:=.type "list",data:=.seq a.toArray c}
def Kp (S:QF)(h a:QS):Prop:=∀b o,b≠S->h.get? b=O o->a.get? b=O o
section
variable {prog:QN}{w:J8}{A:Kq}{E:B->J0->Prop}{s:J0}{S it:QF}{xs:U B}{c:Y}
theorem Ck {f:QT B->QT B}{Q:Unit->J0->Prop}(b:s.heap.get? S=O (iC xs c))(g:xs.length<=sizeLine)(h:(f xs.toArray).size<=sizeLine+1)
  (q:∀a d,a.get? S=O (iC (f xs.toArray).toList d)->Kp S s.heap a->Q () {s with heap:=a}):QK (J4 prog w) A (updateSeq S f) Q E s:=
 NV b rfl (q _ _ (Heap.get?_update_self (Obj.mapSeq f) b rfl) λ_ _ i e=>by rw[Heap.get?_update_other _ _ i.symm];exact e) g h
theorem B6 {T:QZ}{room:QJ}{Q:B->J0->Prop}(H:s.TypeIs (.ref it) T)(I:(Value.type T==Value.type "list")=JY)(L:(Value.type T==Value.type "tuple")=JY)
  (self:∀(h:QS) (Q:B->J0->Prop) (E:B->J0->Prop),(∀o,s.heap.get? it=O o->h.get? it=O o)->Q (.ref it) {s with heap:=h}->QK (J4 prog w) A.in1.in1 (RI<|.ref it) Q E {s with heap:=h})
  (look:∀(h:QS) (Q:QJ->J0->Prop) (E:B->J0->Prop),(∀o,s.heap.get? it=O o->h.get? it=O o)->Q room {s with heap:=h}->QK (J4 prog w) A.in1.in1 (Builtin.List.listLengthHint<|.ref it) Q E {s with heap:=h})
  (go:∀ (h:QS) (c:Y),(∀ b o,s.heap.get? b=O o->h.get? b=O o)->h.get? s.heap.objs.size=O (iC [] c) ->
   KZ (J4 prog w) A.in1 (.builtin "list.extend.loop" ⟨[.ref s.heap.objs.size,.ref it,.none],[]⟩) (Rh (λr a=>r=.none/\Q (.ref s.heap.objs.size) a) E) {s with heap:=h}):
  QK (J4 prog w) A (call (.type "list") [.ref it]) Q E s:=by
 obtain⟨oi,t,z⟩:=H;have lt:it<s.heap.objs.size:=Heap.lt_size t;apply callType_codes (Q₁:=λv a=>v=.ref s.heap.objs.size/\a={s with heap:=s.heap.push<|iC [] 0}) PySem.F.called_list (PySem.F.typeCall_list_1 _) PySem.F.entry_list_init (code_list_new _ ⟨rfl,rfl⟩);rintro _ _ ⟨rfl,rfl⟩;have i:(s.heap.push (iC [] 0)).get? s.heap.objs.size=O (iC [] 0):=Heap.get?_push_size _ rfl;have l:∀b o,s.heap.get? b=O o->(s.heap.push (iC [] 0)).get? b=O o:=λb o e=>Heap.get?_push_of_some _ e;refine⟨⟨_,i,rfl⟩,PySem.F.args_list_init_2 _ _,J1<|J1<|wpAny_seqItems i rfl (J7 ?_)⟩;refine J1<|Ck (s:={s with heap:=s.heap.push<|iC [] 0}) (f:=λ_=>#[]) i (Kx _) (Kx _) λg x u M=>J1<|wpAny_letGo ?_;have d:∀b o,s.heap.get? b=O o->g.get? b=O o:=λb o e=>M b o (Km<|Heap.lt_size e)<|l b o e;refine J1<|Mv (T:=T) ⟨oi,d _ _ t,z⟩ ?_;rw[QH<|by simp[Builtin.List.listSameRef,I,L];exactλe=>QL e<|LF lt];refine J1<|self g _ _ (d it)<|J1<|K2<|look g _ _ (d it) ?_
 have Ap:∀h c,Kp s.heap.objs.size g h->h.get? s.heap.objs.size=O (iC [] c)->KZ (J4 prog w) A.in1 (.builtin "list.extend.loop" ⟨[.ref s.heap.objs.size,.ref it,.none],[]⟩) (Rh (λr a=>r=.none/\Q (.ref s.heap.objs.size) a) E) {s with heap:=h}:=
  λh c k n=>go h c (λb o e=>k b o (Km<|Heap.lt_size e)<|d b o e) n
 have fin:∀h c,Kp s.heap.objs.size g h->h.get? s.heap.objs.size=O (iC [] c)->QK (J4 prog w) A.in1.in1 (again<|.builtin "list.extend.loop" ⟨[.ref s.heap.objs.size,.ref it,.none],[]⟩)
   (λfin a=>match fin with | .done f=>Rh (λr a=>r=.none/\Q (.ref s.heap.objs.size) a) E (.ok f) a | .again m=>m.quiet=JZ/\KZ (J4 prog w) A.in1 m (Rh (λr a=>r=.none/\Q (.ref s.heap.objs.size) a) E) a)
   (λe a=>Rh (λr a=>r=.none/\Q (.ref s.heap.objs.size) a) E (.error e) a) {s with heap:=h}:=λh c k n=>J7 ⟨MY OS _,Ap h c k n⟩
 refine NU (λ_=>J1<|Mu<|J1<|J1<|Ck (s:={s with heap:=g}) (f:=(·.push .none)) u (Kx _) (by simp) λD c2 Z N=>?_) λ_=>fin g x (λ_ _ _ e=>e) u;refine Ck (s:={s with heap:=D}) (f:=(·.pop)) Z (show 1<=sizeLine by decide) (by simp) λG y n3 P=>?_;exact fin G y (λb o p e=>P b o p<|N b o p e) n3
end
end L3

namespace L3
open PySem PySem.Spec PyProof.Rows L2
theorem qE {X:Cx}(M:X.calm=JZ):bI X (.builtin "any") (λD H Q=>∃(a:QF) (bs:U QJ),D=[.ref a]/\SqL X.K H a (bs.map V.bl)/\Q (.bl<|bs.any id) H):=by
 intro y s σ H D us Q I r h;obtain⟨a,bs,rfl,G,q⟩:=h;obtain⟨u,rfl,Z⟩:=cc r;cases Z;obtain⟨c,t,p,hz⟩:=I.list G;have l:c.toArray.size=bs.length:=by rw[Ko,<- t.length,J6]
 have n:a<s.heap.objs.size:=by obtain⟨o,e,_⟩:=p.isList;exact Heap.lt_size e
 refine call_any_walk<|MX p.isList ?_;refine⟨s.heap.objs.size,_,_,_,_,_,λi=>bs.getD i JY,rfl,Walks.list (A:=X.A.in1) (show X.A.in1.handled=J from I.ok.hd M) s.heap.objs.size a (Km n) c.toArray,⟨⟨_,Heap.get?_push_size _ rfl,rfl,rfl⟩,p.isList.push _⟩,λi v s' Q' E' P F=>?_,λh' tk k=>?_⟩
 .have m:c[i]?=O v:=by simpa using P
  have d:i<c.length:=(Le.mp m).1;have g:i<bs.length:=by have:=t.length;rw[J6] at this;lia
  obtain⟨w',e1,e2⟩:=t.get (i:=i) (x:=.bl bs[i]) (by rw[Kz,Kj g];rfl);rw[m] at e1;cases e1;cases e2;refine MW ?_;have e3:bs.getD i JY=bs[i]:=by rw[Kf,Kj g];rfl
  rw[<- e3];exact F
 .have e:(Kc c.toArray.size).any (fun i=>bs.getD i JY)=bs.any id:=by
   rw[l,OJ,PR,PR];constructor
   .rintro ⟨i,d,z⟩;have f:=KW.mp d;rw[Kf,Kj f] at z;exact⟨_,Lj f,z⟩
   .rintro ⟨b,L,z⟩;obtain⟨i,d,e⟩:=NM L;refine⟨i,KW.mpr d,?_⟩;rw[Kf,Kj d];simpa[e] using z
  rw[e]
  exact⟨.bl<|bs.any id,H,I.kept (λb o w=>k b o (λN=>by
   have:b=s.heap.objs.size:=by simpa using N
   exact QL (this ▸ Heap.lt_size w)<|Lp _)<|Heap.get?_push_of_some _ w),rfl,q⟩
theorem bU:∀{a:U Int} {b:U B},Vals (a.map V.int) b->Q5 b a
|[],_,.nil=>.nil
|n::a,_,.cons ⟨t,e⟩ r=>by cases e;exact .cons n t<|bU r
abbrev AM (h:QS)(T:QF)(a b c:B):Prop:=h.get? T=O {cls:=.type "tuple",data:=.seq #[a,b,c]}
def Z3 (n d e f:Y)(i:Y)(h:QS):Prop:=
 IsZip h (n+5) (n+3) (n+4) .none/\AM h (n+3) (.ref n) (.ref<|n+1) (.ref<|n+2)/\(∃a b c,AM h (n+4) a b c)/\ItO h JY n d i/\ItO h JY (n+1) e i/\ItO h JY (n+2) f i
end L3

namespace L3
open PySem PySem.Spec PyProof.Rows L2
noncomputable abbrev VE:U B:=[.type "ValueError",.type "Exception",.type "BaseException",.type "object"]
structure JK (h:QS)(C N:QF)(up:U B)(names:Str->j B):Prop where
 obj:∃nm q bs hd sn sub ab col dd k0 k1 k2 k3 k5,h.get? C=O (excClassObj nm q C N bs up hd sn sub ab col dd k0 k1 k2 k3 k5 "ValueError.__new__")
 ns:h.Ns N names
section
variable {prog:QN}{w:J8}{h:QS}{A:Kq}{g:QT Rv}{d:Drawn}{t:Y}{os:Ry}{E:B->J0->Prop}
def Bj:U B->QJ
|.ref _::r=>Bj r
|l=>l==VE
end
def XOk (a C:QF)(c:j QF)(n:QJ)(h:QS):Prop:=∃o b d,h.get? a=O o/\o.cls=.ref C/\o.dict=c/\o.data=.fields b/\b[0]?=O (.ref d)/\1<b.size/\(n=JZ->b[1]?=O .none)
abbrev XO (a C:QF)(b:j QF)(n:QJ):HO:=.ext<|XOk a C b n
def Tr (lo:Y)(H:Hp)(h:QS)(a:QF):Prop:=∃d b,h.get? a=O d/\d.data=.fields b /\
 (b[1]?=O .none\/∃T c e,b[1]?=O (.ref T)/\T≠a/\h.get? T=O c/\c.data=.fields e/\e[3]?=O .none/\lo<=T/\H T=J)
structure XC (K:J2)(C f:QF)(up:U B):Prop where
 ok:∀h,K.In h->∃N names,JK h C N up names/\OwnTail h VE up/\names "__init__"=O (.ref f)
 fn:∀h,K.In h->∃o,h.get? f=O o/\o.cls=.type "function"
 kp:MK K (.ref C)=JZ
 sa:ML K (.ref C) "__setattr__"=O (O (.builtin "object.__setattr__"))
 po:(PySem.W.clsIn K C).any (λcd=>Bj cd.mro)=JZ
 hd:OH K C=JZ
def xw (X:Cx)(d:L2.St):VK:=λv H=>∀(b:U<|QF×Obj) (s:J0) (a C:QF) (c:j QF),v=.ref a->H a=O (XO a C c JY)->Inv X b d H s->Tr X.s₀.heap.objs.size H s.heap a->X.xe (.ref a) s
noncomputable abbrev hx (X:Cx)(a:QF):Cx:={X with A:=X.A.mark<|O<|.ref a,calm:=JY,xe:=λ_ _=>QX}
abbrev tx (X:Cx)(E:B->J0->Prop)(pn:U<|QF×Obj):Cx:={X with xe:=E,pn:=pn}
section
variable {prog:QN}{w:J8}{A:Kq}{E:B->J0->Prop}{s:J0}{K:J2}
structure XG (K:J2)(C:QF):Prop where
 ga:ML K (.ref C) "__getattribute__"=O (O (.builtin "BaseException.__getattribute__"))
 hk:ML K (.ref C) "__getattr__"=O J
 sub:P4 K (.ref C) (.type "BaseException")=O JZ
end
structure XF (K:J2)(C:QF):Prop where
 xc:∃f up,XC K C f up/\Bj up=JZ
 xg:XG K C
 hd:OH K C=JZ
 ca:ML K (.ref C) "__class__"=O (O (.builtin "object.__class__"))
 cg:Pj K (.builtin "object.__class__") "__get__"=O (O (.builtin "getset_descriptor.__get__"))
 ct:PH K (.builtin "object.__class__")=O JZ
 mo:P7 K C (.type "object")=O JZ
def XNm (K:J2)(c:Y)(C:QF):Prop:=c=C/\XF K C
end L3

namespace M
open PySem (Str)
inductive T where
 |non|bl (b:QJ)|int (i:Int)|str (x:Str)|tup (ts:U T)|lst (ts:U T)|dct (ks:U (Int ⊕ Str)) (vs:U T)|ins (c:Y) (fs:U Str) (vs:U T)
 |scr (ns:U Int)
 |gone
 deriving Q6
inductive Md where
 |s|d|o (m:Md)
 deriving Q7,Q6
noncomputable def Md.kid:Md->Md
|.s=>.s | .d=>.d | .o m=>m
def Md.up:Md->Md
|.d=>.d|m=>.o m
noncomputable def Md.meet:Md->Md->Md
|.s,_=>.s | .d,m=>m | .o _,.s=>.s | .o a,.d=>.o a | .o a,.o b=>.o<|a.meet b
noncomputable def Md.le:Md->Md->QJ
|.s,_=>JZ
|.o a,.o b=>a.le b
|.o _,.d=>JZ
|.d,.d=>JZ
|_,_=>JY
abbrev W:=Md×T
abbrev Env:=U<|j W
noncomputable def LIM:Y:=16777215
noncomputable def T.leaf:T->QJ
|.non | .bl _ | .int _ | .str _ | .scr _=>JZ
|_=>JY
def T.isG:T->QJ
|.gone=>JZ
|.dct _ _=>JZ
|_=>JY
noncomputable def T.isH:T->QJ
|.gone=>JZ
|.dct _ _=>JZ
|.ins _ _ _=>JZ
|_=>JY
def T.isN:T->QJ
|.non=>JZ
|_=>JY
def leaves (a:U T):QJ:=a.all T.leaf
inductive Op where
 |add|sub|mul|fdiv|mod|pow|neg|eq|ne|lt|le|gt|ge|is|isnot|notin|ix|sl|sl1|sl2
 |len|isI (cs:U QZ)|count|fdivN|modN|list|tuple|sum|all|any|max|min|int|str|rng|sorted|join|split|abs|dict|get|isnB|lower|dnew|repr|ixD|revL
 |sortedSet|sortedP
 |att (fld:Str)|mk (c:Y) (fld:Str) (fk:Y)
  deriving Q7,Q6
inductive Ik where
 |seq|rng|enm|sq2|zip3
 deriving Q7,Q6
inductive E where
 |var (i:Y)|mv (i:Y)|io (i:Y)|cst (t:T)
 |tup (es:U E)|lst (h:QJ) (es:U E)|op (o:Op) (h:QJ) (es:U E)
 |and (a b:E)|or (a b:E)|not (a:E)|ifx (c a b:E)|chain (o p:Op) (a b c:E)
 |call (f:Y) (es:U E)|comp (h:QJ) (k:Ik) (src:U E) (tg:U Y) (cnd:j E) (elt:E)
 |lenV (i:Y)|popN (i:Y) (e:E)|compV (h:QJ) (i t:Y) (c e:E)
 deriving Q6
inductive X where
 |q (vs ls:U Y)|l (vs:U Y)
 deriving Q6
inductive S where
 |asg (x:X) (i:Y) (e:E)|asgT (x:X) (is:U Y) (e:E)|setI (x:X) (i:Y) (k e:E)|setS (x:X) (i:Y) (k e:E)|apN (i k l:Y)
 |app (x:X) (i:Y) (e:E)|ext (x:X) (i:Y) (e:E)
 |ret (vs:U Y) (e:E)|ite (x:X) (c:E) (a b:U S)
 |forS (vs ls:U Y) (k:Ik) (src:U E) (tg:U Y) (body:U S)|whl (x:X) (c:E) (body:U S)
 |brk|pas|stop
 |raise (c:Y) (fld:Str) (fk:Y) (x:X) (e:E)
 deriving Q6
structure Fn where
 ps:Y
 ns:Y
 io:U Y
 body:U S
inductive Res (α:Type) where
 |ok (a:α)|ex (t:T)|no
def Res.bind {b c:Type}:Res b->(b->Res c)->Res c
|.ok a,f=>f a
|.ex t,_=>.ex t
|.no,_=>.no
def ofO {b:Type}:j b->Res b
|some a=>.ok a
|none=>.no
inductive Fl where
 |nx (η:Env)|rt (w:W) (η:Env)|bk (η:Env)|ex (t:T) (η:Env)|no
noncomputable def truth:T->j QJ
|.non=>O JY | .bl b=>O b | .int i=>O (i != 0) | .str x=>O (x.cps.size != 0) | .tup a=>O (!a.isEmpty) | .lst a=>O (!a.isEmpty) | .dct _ _=>J | .ins ..=>J | .scr c=>O (!c.isEmpty) | .gone=>J
noncomputable def b2i:QJ->Int
|true=>1|false=>0
mutual
def eqT:T->T->QJ
|.non,.non=>JZ
|.bl a,.bl b=>a==b
|.bl a,.int i=>b2i a==i
|.int i,.bl a=>i==b2i a
|.int i,.int j=>i==j
|.str x,.str y=>x==y
|.tup ts,.tup us=>eqTs ts us
|.lst ts,.lst us=>eqTs ts us
|_,_=>JY
def eqTs:U T->U T->QJ
|[],[]=>JZ
|t::ts,u::us=>eqT t u&&eqTs ts us
|_,_=>JY
end
mutual
def dp:T->Y
|.tup ts=>dps ts+1
|.lst ts=>dps ts+1
|.scr _=>1000
|.dct _ _=>1000
|.ins _ _ _=>1000
|.gone=>1000
|_=>0
def dps:U T->Y
|[]=>0
|t::ts=>max (dp t)<|dps ts
end
def sOk (x:Str):QJ:=x.cps.all (· < 0x110000)&&decide (x.cps.size<=LIM)
def kOk:Int ⊕ Str->QJ
|.inl _=>JZ
|.inr x=>sOk x
noncomputable def keyT:T->j (Int ⊕ Str)
|.int n=>O<|.inl n
|.str x=>O<|.inr x
|_=>J
def lookD (q:Int ⊕ Str):U (Int ⊕ Str)->U T->j T
|y::b,v::a=>if y=q then O v else lookD q b a
|_,_=>J
noncomputable def ixN (n:Y)(i:Int):j Y:=if 0<=i then(if i<n then O i.toNat else J) else if -(n:Int)<=i then O (i+n).toNat else J
def atI {c:Type}(b:U c)(i:Int):j c:=(ixN b.length i).bind λa=>b[a]?
noncomputable def sIx (n d:Y):j Int->Y
|none=>d
|some i=>if i<0 then(i+n).toNat else min i.toNat n
def cut {b:Type}(a:U b)(lo c:j Int):U b:=(a.drop<|sIx a.length 0 lo).take<|sIx a.length a.length c-sIx a.length 0 lo
noncomputable def T.ty:T->QZ
|.non=>"NoneType" |.bl _=>"bool" |.int _=>"int" |.str _=>"str" |.tup _=>"tuple" |.lst _=>"list" |.dct ..=>"dict" |.ins ..=>"object" |.scr _=>"list" |.gone=>"gone"
def isOne (c:QZ)(t:T):QJ:=t.ty==c || (t.ty=="bool"&&c=="int")
noncomputable def intsOf:U T->j (U Int)
|[]=>O []
|.int i::a=>(intsOf a).map (i::·)
|_::_=>J
noncomputable def boolsOf:U T->j (U QJ)
|[]=>O []
|.bl b::a=>(boolsOf a).map (b::·)
|_::_=>J
def FQ:W->j (U T)
|(_,.tup a)=>O a
|(_,.lst a)=>O a
|_=>J
def uy:T->QJ
|.non | .bl _ | .int _ | .str _=>JZ
|_=>JY
def HU (c:Y):Y:=if 65<=c/\c<=90 then c+32 else c
noncomputable def insI (x:Int):U Int->U Int
|[]=>[x]
|y::a=>if x<=y then x::y::a else y::insI x a
def sortI:U Int->U Int
|[]=>[]
|x::a=>insI x<|sortI a
noncomputable def addZ (a:U Int)(n:Int):U Int:=if n∈a then a else a++[n]
noncomputable def ltP (a b:Int×Int):QJ:=if a.1=b.1 then decide (a.2<b.2) else decide (a.1<b.1)
def evK {c:Type}(lt:Y->Y->QJ):PySem.W.KasT c->c
|.ret a=>a
|.ask i b k=>evK lt<|k<|lt i b
def ordN (b:U<|Int×Int):U Y:=if b.length<2 then Kc b.length else(evK (λi a=>ltP (b.getD i (0,0))<|b.getD a (0,0))<|PySem.W.kas_sort b.length).toList.take b.length
def sortP (a:U<|Int×Int):U (Int×Int):=(ordN a).map λi=>a.getD i (0,0)
noncomputable def prsOf:U T->j (U<|Int×Int)
|[]=>O []
|.tup [.int a,.int b]::c=>(prsOf c).map ((a,b)::·)
|_::_=>J
noncomputable def uY:U T->j (U Str)
|[]=>O []
|.str x::a=>(uY a).map (x::·)
|_::_=>J
noncomputable def spl (c:Y):U Y->U Y->U (U Y)
|a,[]=>[a]
|a,x::b=>if x=c then a::spl c [] b else spl c (a++[x]) b
def HD (x:Str):U Str:=(spl 32 [] x.cps.toList).map λl=>⟨l.toArray⟩
noncomputable def strI (i:Int):Str:=Str.ofString<|toString i
def newL (h:QJ)(m:Md)(a:U T):j W:=if h then(if leaves a then O (.d,.lst a) else J) else O (m.up,.lst a)
def fits (n:Y):QJ:=decide (n<=LIM)
mutual
def datT:T->O6
|.bl b=>.bool b
|.int i=>.int i
|.str x=>.str x
|.tup ts=>.tuple<|datTs ts
|.lst ts=>.list<|datTs ts
|_=>.none
def datTs:U T->U O6
|[]=>[]
|t::ts=>datT t::datTs ts
end
mutual
def rOk:T->QJ
|.non | .bl _=>JZ
|.int i=>decide (i.natAbs<10000000000000000000)
|.str x=>decide ((NJ x).length<=100)&&sOk (NJ x)
|.tup ts=>rOks ts
|.lst ts=>rOks ts
|_=>JY
def rOks:U T->QJ
|[]=>JZ
|t::ts=>rOk t&&rOks ts
end
mutual
def szR:T->Y
|.tup ts=>szRs ts+4
|.lst ts=>szRs ts+4
|_=>100
def szRs:U T->Y
|[]=>0
|t::ts=>szR t+2+szRs ts
end
def rJ:Y->Md->T->QJ
|0,_,.int n=>decide (n.natAbs.log2<1920)
|1,.s,.tup a=>decide (dp (.tup a)<=64)&&rOk (.tup a)&&decide (szR (.tup a)<=1000000)
|2,_,.str _=>JZ
|_,_,_=>JY
def lfM (t:T):Md:=if t.leaf=JZ then .d else .s
def oSem:Op->QJ->U W->j W
|.add,h,[(m,a),(n,b)]=>match a,b with
 |.int i,.int e=>O (.d,.int<|i+e)
 |.str x,.str y=>if fits (x.cps.size+y.cps.size) then O (.d,.str<|x++y) else J
 |.lst f,.lst r=>if fits (f.length+r.length) then newL h (m.kid.meet n.kid) (f++r) else J
 |.tup f,.tup r=>if fits (f.length+r.length)&&!f.isEmpty then O (.s,.tup<|f++r) else J
 |_,_=>J
|.sub,_,[(_,.int i),(_,.int e)]=>O (.d,.int<|i-e)
|.mul,h,[(m,a),(_,b)]=>match a,b with
 |.int i,.int e=>if(decide (i.natAbs<18446744073709551616)) || (decide (e.natAbs<18446744073709551616)) then O (.d,.int<|i * e) else J
 |.lst f,.int k=>if decide (k.natAbs<4611686018427387904)&&fits (f.length * k.toNat) then newL h .s (Kb k.toNat f).flatten else J
 |_,_=>J
|.fdiv,_,[(_,.int i),(_,.int e)]=>if decide (0<e)&&decide (e<1073741824) then O (.d,.int<|i / e) else J
|.mod,_,[(_,.int i),(_,.int e)]=>if decide (0<e) then O (.d,.int<|i % e) else J
|.pow,_,[(_,.int i),(_,.int e)]=>if decide (0<=e)&&decide (e<=1000000)&&decide (i.natAbs<18446744073709551616) then O (.d,.int<|i ^ e.toNat) else J
|.fdivN,_,[(_,.int i),(_,.int e)]=>if(e != 0)&&decide (e.natAbs<18446744073709551616) then O (.d,.int<|i.fdiv e) else J
|.modN,_,[(_,.int i),(_,.int e)]=>if e != 0 then O (.d,.int<|i.fmod e) else J
|.neg,_,[(_,.int i)]=>O (.d,.int (-i))
|.eq,_,[(_,a),(_,b)]=>if decide (dp a<=64)&&decide (dp b<=64) then O (.d,.bl<|eqT a b) else J
|.ne,_,[(_,a),(_,b)]=>if decide (dp a<=64)&&decide (dp b<=64) then O (.d,.bl<|!eqT a b) else J
|.lt,_,[(_,.int i),(_,.int e)]=>O (.d,.bl<|decide (i<e))
|.le,_,[(_,.int i),(_,.int e)]=>O (.d,.bl<|decide (i<=e))
|.gt,_,[(_,.int i),(_,.int e)]=>O (.d,.bl<|decide (e<i))
|.ge,_,[(_,.int i),(_,.int e)]=>O (.d,.bl<|decide (e<=i))
|.is,_,[(_,a),(_,.non)]=>if a.isG then J else O (.d,.bl a.isN)
|.isnot,_,[(_,a),(_,.non)]=>if a.isG then J else O (.d,.bl<|!a.isN)
|.ix,_,[(m,a),(_,.int i)]=>match a with
 |.lst f=>(atI f i).map λt=>(m.kid,t)
 |.tup f=>(atI f i).map λt=>(m.kid,t)
 |.str x=>(atI x.cps.toList i).map λc=>(.d,.str ⟨#[c]⟩)
 |.scr l=>(atI l i).map λn=>(.d,.int n)
 |_=>J
|.sl,h,[(m,.lst f)]=>newL h m.kid f
|.sl1,h,[(m,.lst f),(_,.int i)]=>newL h m.kid<|cut f (O i) J
|.sl2,h,[(m,.lst f),(_,.int i)]=>newL h m.kid<|cut f J<|O i
|.sl2,_,[(_,.scr l),(_,.int i)]=>O (.d,.lst<|(cut l J<|O i).map T.int)
|.sl1,_,[(_,.scr l),(_,.int i)]=>O (.d,.lst<|(cut l (O i) J).map T.int)
|.sl,_,[(_,.scr l)]=>O (.d,.lst<|l.map T.int)
|.sl1,_,[(_,.tup f),(_,.int i)]=>O (.s,.tup<|cut f (O i) J)
|.sl2,_,[(_,.tup f),(_,.int i)]=>O (.s,.tup<|cut f J<|O i)
|.len,_,[(_,a)]=>match a with
 |.lst f=>O (.d,.int f.length)
 |.tup f=>O (.d,.int f.length)
 |.str x=>O (.d,.int x.cps.size)
 |.scr l=>O (.d,.int l.length)
 |_=>J
|.att fld,_,[(_,.ins _ [g] [t])]=>if(g==fld)=JZ then O (lfM t,t) else J
|.mk c fld A,_,[(m,t)]=>if rJ A m t=JZ then O (.s,.ins c [fld] [t]) else J
|.isI w,_,[(_,a)]=>if a.isH then J else O (.d,.bl<|w.any λc=>isOne c a)
|.list,h,[(m,a)]=>match a with
 |.lst f=>newL h m.kid f
 |.tup f=>newL h m.kid f
 |.scr l=>O (.d,.lst<|l.map T.int)
 |_=>J
|.tuple,_,[(m,a)]=>match a with
 |.lst f=>O (m.kid.up,.tup f)
 |.tup f=>O (m,.tup f)
 |_=>J
|.sum,_,[(_,.lst f)]=>(intsOf f).map λl=>(.d,.int l.sum)
|.all,_,[(_,.lst f)]=>(boolsOf f).map λbs=>(.d,.bl<|bs.all id)
|.any,_,[(_,.lst f)]=>(boolsOf f).map λbs=>(.d,.bl<|bs.any id)
|.max,_,[(_,.int i),(_,.int e)]=>O (.d,.int<|if e>i then e else i)
|.min,_,[(_,.int i),(_,.int e)]=>O (.d,.int<|if e<i then e else i)
|.rng,_,[(_,.int i),(_,.int e)]=>if decide (i.natAbs<4611686018427387904)&&decide (e.natAbs<4611686018427387904)&&fits (e-i).toNat then O (.d,.lst<|(Kc (e-i).toNat).map λ(k:Y)=>T.int<|i+k) else J
|.notin,_,[(_,a),(n,b)]=>(FQ (n,b)).bind λf=>if uy a&&f.all uy then O (.d,.bl<|!f.any λt=>eqT t a) else J
|.int,_,[(_,.int i)]=>O (.d,.int i)
|.int,_,[(_,.bl b)]=>O (.d,.int<|b2i b)
|.abs,_,[(_,.int i)]=>O (.d,.int i.natAbs)
|.sorted,_,[(_,.lst f)]=>(intsOf f).bind λl=>if decide (l.length<64) then O (.d,.lst<|(sortI l).map T.int) else J
|.sortedSet,_,[(_,.lst f)]=>(intsOf f).bind λl=>if decide (l.length<64) then O (.d,.lst<|(sortI<|l.foldl addZ []).map T.int) else J
|.sortedP,_,[(_,.lst f)]=>(prsOf f).bind λv=>if decide (v.length<64) then O (.o .s,.lst<|(sortP v).map λp=>T.tup [.int p.1,.int p.2]) else J
|.str,_,[(_,.int i)]=>if decide (i.natAbs<10000000000000000000) then O (.d,.str<|strI i) else J
|.join,_,[(_,.str z),(_,.lst f)]=>(uY f).bind λu=>if sOk (Str.join z u)&&decide ((u.map λs=>s.cps.size+z.cps.size).sum<=LIM) then O (.d,.str<|Str.join z u) else J
|.split,_,[(_,.str z),(_,.str y)]=>if(y==Str.ofString " ")&&decide (z.cps.size+2<=LIM)&&(HD z).all sOk then O (.d,.lst<|(HD z).map T.str) else J
|.count,_,[(_,.lst f),(_,.bl b)]=>(boolsOf f).map λbs=>(.d,.int<|bs.count b)
|.lower,_,[(_,.str x)]=>if x.cps.toList.all (λc=>decide (c<128)) then O (.d,.str ⟨x.cps.map HU⟩) else J
|.dnew,_,[]=>O (.d,.dct [] [])
|.ixD,_,[(.s,.dct D F),(_,k)]=>(keyT k).bind λq=>(lookD q D F).map λt=>(.s,t)
|.revL,_,[(.s,.lst f)]=>O (.o .s,.lst f.reverse)
|.repr,_,[(_,t)]=>if decide (dp t<=64)&&rOk t&&fits (szR t) then O (.d,.str (datT t).shown) else J
|.isnB,_,[(_,.bl a),(_,.bl b)]=>O (.d,.bl<|!(a==b))
|_,_,_=>J
noncomputable def rd:Env->Y->j W
|[],_=>J
|o::_,0=>o
|_::a,i+1=>rd a i
noncomputable def wr:Env->Y->j W->Env
|[],_,_=>[]
|_::a,0,w=>w::a
|o::a,i+1,w=>o::wr a i w
abbrev put (a:Env)(i:Y)(w:W):Env:=wr a i<|O w
abbrev del (a:Env)(i:Y):Env:=wr a i J
def look:W->j W
|(.s,t)=>O (.s,t)
|(_,t)=>if t.leaf=JZ then O (.d,t) else J
def toS:j W->j W
|some (_,t)=>O (.s,t)
|none=>J
def share:U Y->Env->Env
|[],a=>a
|i::b,a=>share b<|wr a i<|toS<|rd a i
def lfO:j W->j W
|some (_,t)=>if t.leaf=JZ then O (.d,t) else J
|none=>J
def gX:Env->Env
|[]=>[]
|_::a=>none::gX a
def my:U Y->Env->Env->Env
|[],_,b=>b
|i::c,a,b=>my c a<|wr b i<|toS<|rd a i
def fZ:U Y->Env->Env->Env
|[],_,b=>b
|i::c,a,b=>fZ c a<|wr b i<|lfO<|rd a i
def fh (c b:U Y)(a:Env):Env:=fZ b a<|my c a<|gX a
def after (m:Md)(b:U Y)(a:Env):Env:=match m with
|.d=>a
|_=>share b a
def aJ:U Y->U W->Env->j Env
|[],[],a=>O a
|i::b,w::c,a=>aJ b c<|put a i w
|_,_,_=>J
noncomputable def c6 (m:Md):Y->U T->U (U W)
|_,[]=>[]
|i,t::a=>[(.d,.int i),(m,t)]::c6 m (i+1) a
noncomputable def bO:U T->j (U<|U W)
|[]=>O []
|.tup [x,y]::a=>(bO a).map ([(.s,x),(.s,y)]::·)
|_::_=>J
noncomputable def uQ:U T->U T->U T->U (U W)
|t::a,u::b,v::c=>[(.s,t),(.s,u),(.s,v)]::uQ a b c
|_,_,_=>[]
def bV:Ik->U W->j (U<|U W)
|.seq,[(_,.lst b)]=>O<|b.map λt=>[(.s,t)]
|.seq,[(_,.tup b)]=>O<|b.map λt=>[(.s,t)]
|.seq,[(_,.scr e)]=>O<|e.map λn=>[(.d,.int n)]
|.rng,[(_,.int n)]=>if decide (n.natAbs<4611686018427387904)&&fits n.toNat then O ((Kc n.toNat).map λ(k:Y)=>[(.d,.int k)]) else J
|.rng,[(_,.int i),(_,.int a)]=>if decide (i.natAbs<4611686018427387904)&&decide (a.natAbs<4611686018427387904)&&fits (a-i).toNat then O ((Kc (a-i).toNat).map λ(k:Y)=>[(.d,.int<|i+k)]) else J
|.rng,[(_,.int i),(_,.int a),(_,.int c)]=>if decide (i.natAbs<4611686018427387904)&&decide (a.natAbs<4611686018427387904)&&decide (c=-1)&&fits (i-a).toNat then O ((Kc (i-a).toNat).map λ(k:Y)=>[(.d,.int<|i-k)]) else J
|.enm,[(_,.lst b)]=>O<|c6 .s 0 b
|.sq2,[(_,.lst b)]=>bO b
|.zip3,[(_,.lst b),(_,.lst f),(_,.lst g)]=>O<|uQ b f g
|_,_=>J
abbrev Call:=Y->U W->Res (W×U W)
abbrev RE:=Res<|W×Env
def lf (m:Md)(t:T):Md:=if t.leaf=JZ then .d else m
def gK:U W->Md
|[]=>.d
|w::a=>(lf w.1 w.2).meet<|gK a
def aO:U W->U T
|[]=>[]
|w::a=>w.2::aO a
def ag:U Y->Env->Env
|[],a=>a
|i::b,a=>ag b<|del a i
def ios:U E->U Y
|[]=>[]
|.io i::a=>i::ios a
|_::a=>ios a
def putAll:U Y->U W->Env->Env
|i::b,w::c,a=>putAll b c<|put a i w
|_,_,a=>a
def iA:W->W->j W
|(.s,_),_=>J
|(m,.lst a),(n,t)=>if a.length<LIM then O ((m.kid.meet<|lf n t).up,.lst<|a++[t]) else J
|_,_=>J
def DZ:W->W->j W
|(.s,_),_=>J
|(m,.lst a),(n,.lst b)=>if a.length+b.length<=LIM then O ((m.kid.meet n.kid).up,.lst<|a++b) else J
|_,_=>J
noncomputable def aR (k:Int ⊕ Str)(t:T):U (Int ⊕ Str)->U T->U (Int ⊕ Str)×U T
|[],_=>([k],[t])
|y::a,v::b=>if y=k then(y::a,t::b) else((y::(aR k t a b).1),(v::(aR k t a b).2))
|y::a,[]=>(y::a,[])
def Fi:W->W->W->j W
|(.s,_),_,_=>J
|(m,.dct a b),(_,k),(_,t)=>(keyT k).bind λq=>if decide (a.length<LIM)&&uy t then O (m,.dct (aR q t a b).1 (aR q t a b).2) else J
|_,_,_=>J
def eK:W->W->W->j W
|(.s,_),_,_=>J
|(m,.dct a b),(_,k),(_,t)=>(keyT k).bind λq=>if decide (a.length<LIM) then O (.o .s,.dct (aR q t a b).1 (aR q t a b).2) else J
|_,_,_=>J
def apU (b:U T)(q:Y)(t:T):j T->j W
|some (.lst a)=>if decide (a.length<LIM)&&t.leaf then O (.d,.lst<|b.set q<|.lst<|a++[t]) else J
|_=>J
def jT:j W->j W->j W->j W
|some (.d,.lst b),O (_,.int a),O (_,t)=>(ixN b.length a).bind λq=>apU b q t b[q]?
|_,_,_=>J
def iU:W->W->j (W×W)
|(.s,_),_=>J
|(m,.lst b),(_,.int a)=>if decide (0<=a)&&decide (a<1000)&&leaves b then(b[a.toNat]?).map λt=>((.d,t),(m,.lst<|b.eraseIdx a.toNat)) else J
|_,_=>J
def cJ:W->W->W->j W
|(.s,_),_,_=>J
|(m,.lst b),(_,.int a),(n,t)=>(ixN b.length a).map λk=>((m.kid.meet<|lf n t).up,.lst<|b.set k t)
|_,_,_=>J
def ib:j W->Res Unit
|some (_,.lst _)=>.ok ()
|_=>.no
def D1:W->j (U W)
|(m,.tup a)=>O<|a.map λt=>(m.kid,t)
|_=>J
def ret {b:Type}(c:Env)(o:j b):Res (b×Env):=match o with
|some a=>.ok (a,c)
|none=>.no
def onB {a:Type}:T->(Env->Res a)->(Env->Res a)->Env->Res a
|.bl JZ,f,_,b=>f b
|.bl JY,_,g,b=>g b
|_,_,_,_=>.no
def onT {a:Type}(f g:Env->Res a)(p:W×Env):Res a:=match truth p.1.2 with
|some JZ=>f p.2
|some JY=>g p.2
|none=>.no
def okW {b:Type}(a:b)(c:Env):Res (b×Env):=.ok (a,c)
def rA (p:U W×Env):RE:=.ok (((gK p.1).up,.tup<|aO p.1),p.2)
def va (h:QJ)(p:U W×Env):RE:=.ok ((if h then(gK p.1).up else .o .s,.lst<|aO p.1),p.2)
def kOp (o:Op)(h:QJ)(p:U W×Env):RE:=ret p.2<|oSem o h p.1
def qL (f:Env->RE)(p:W×Env):RE:=onT f (okW p.1) p
def kOr (f:Env->RE)(p:W×Env):RE:=onT (okW p.1) f p
def qo (p:W×Env):RE:=ret p.2<|(truth p.1.2).map λb=>(.d,.bl<|!b)
def kC3 (q:Op)(y:W)(z:W×Env):RE:=ret z.2<|oSem q JY [y,z.1]
def then' {a b:Type}(f:Env->Res (a×Env))(k:a×Env->Res b)(c:Env):Res b:=(f c).bind k
def kC2 (o q:Op)(a:Env->RE)(x:W)(y:W×Env):RE:=(ret y.2<|oSem o JY [x,y.1]).bind λk=>onB k.1.2 (then' a<|kC3 q y.1) (okW (.d,.bl JY)) k.2
def kC1 (o q:Op)(a b:Env->RE)(x:W×Env):RE:=(a x.2).bind<|kC2 o q b x.1
def oU (a:U Y)(b:Env)(r:W×U W):RE:=.ok (r.1,putAll a r.2 b)
def kZ (C:Call)(f:Y)(a:U Y)(p:U W×Env):RE:=(C f p.1).bind<|oU a p.2
noncomputable def c9 (p:W×Env):Res (j W×Env):=.ok (O p.1,p.2)
def bE (f:Env->RE)(a:Env):Res (j W×Env):=(f a).bind c9
def b8 (c f:Env->RE)(a:Env):Res (j W×Env):=(c a).bind<|onT (bE f)<|okW J
def az (b:U Y)(f:Env->Res (j W×Env)):U (U W)->Env->U W->Res (U W×Env)
|[],c,a=>.ok (a,c)
|e::r,c,a=>(ofO<|aJ b e c).bind λd=>(f d).bind λp=>az b f r (ag b p.2)<|a++p.1.toList
def okD (w:W):QJ:=w.1==.d || w.2.leaf
def iq (h:QJ)(q:U W×Env):RE:=ret q.2<|if h then(if q.1.all okD then O (.d,.lst<|aO q.1) else J) else O (.o .s,.lst<|aO q.1)
def ei (h:QJ)(k:Ik)(a:U Y)(f:Env->Res (j W×Env))(p:U W×Env):RE:=(ret (ag a p.2)<|bV k p.1).bind λt=>(az a f t.1 t.2 []).bind<|iq h
def vwT:j W->j (U T)
|some (.s,_)=>J
|some (_,.lst a)=>if leaves a then O a else J
|_=>J
def kV2 (i:Y)(w:j W)(p:W×Env):RE:=.ok (p.1,wr p.2 i w)
def kV1 (h:QJ)(i t:Y)(f:Env->Res (j W×Env))(a:Env)(b:U T):RE:=((az [t] f (b.map λu=>[(.s,u)]) (ag [t]<|del a i) []).bind<|iq h).bind<|kV2 i<|rd a i
noncomputable def f6 (f:Env->RE)(a:Env)(k:W×Env->RE)(_:Unit):RE:=(f a).bind k
def gj (i:Y)(p:W×Env):RE:=(ofO<|(rd p.2 i).bind λw=>iU w p.1).bind λr=>.ok (r.1,put p.2 i r.2)
def oP (w:W)(q:U W×Env):Res (U W×Env):=.ok (w::q.1,q.2)
def bo (f:Env->Res (U W×Env))(p:W×Env):Res (U W×Env):=(f p.2).bind<|oP p.1
def kIn (a:QJ)(b:U Str)(p:W×Env):RE:=match p.1.2 with
|.str x=>.ok ((.d,.bl<|b.contains x != a),p.2)
|_=>.no
def kX (a:U Y)(b:Env)(p:W×Env):RE:=.ok ((lf p.1.1 p.1.2,p.1.2),after (lf p.1.1 p.1.2) a b)
def kIo (i:Y)(p:U W×Env):Res (U W×Env):=(ofO<|rd p.2 i).bind λw=>.ok (w::p.1,del p.2 i)
section
variable (C:Call)
mutual
def evE:E->Env->RE
|.var i,η=>ret η<|(rd η i).bind look
|.mv i,η=>ret (del η i)<|rd η i
|.io i,η=>ret (del η i)<|rd η i
|.cst t,η=>.ok ((.d,t),η)
|.tup es,η=>(evL es η).bind rA
|.lst h es,η=>(evL es η).bind<|va h
|.op o h es,η=>(evL es η).bind<|kOp o h
|.and a b,η=>(evE a η).bind<|qL<|evE b
|.or a b,η=>(evE a η).bind<|kOr<|evE b
|.not a,η=>(evE a η).bind qo
|.ifx c a b,η=>(evE c η).bind<|onT (evE a)<|evE b
|.chain o q a b c,η=>(evE a η).bind<|kC1 o q (evE b)<|evE c
|.call f es,η=>(evA es η).bind<|kZ C f<|ios es
|.comp h k src tg J elt,η=>(evL src η).bind<|ei h k tg<|bE<|evE elt
|.comp h k src tg (O c) elt,η=>(evL src η).bind<|ei h k tg<|b8 (evE c)<|evE elt
|.lenV i,η=>ret η<|(rd η i).bind λw=>oSem .len JY [w]
|.compV h i t c e,η=>(ofO<|vwT<|rd η i).bind<|kV1 h i t (b8 (evE c)<|evE e) η
|.popN i e,η=>(ib<|rd η i).bind<|f6 (evE e) η<|gj i
def evL:U E->Env->Res (U W×Env)
|[],η=>.ok ([],η)
|e::es,η=>(evE e η).bind<|bo<|evL es
def evA:U E->Env->Res (U W×Env)
|[],η=>.ok ([],η)
|.io i::es,η=>(evA es η).bind<|kIo i
|e::es,η=>(evE e η).bind<|bo<|evA es
end
def kT (a:Env)(p:W×Env):Res (QJ×Env):=ret a<|truth p.1.2
def kT2 (p:W×Env):Res (QJ×Env):=ret p.2<|truth p.1.2
def evX:X->E->Env->RE
|.q a c,e,b=>(evE C e<|fh a c b).bind<|kX a b
|.l a,e,b=>evE C e<|share a b
def evT:X->E->Env->Res (QJ×Env)
|.q b c,e,a=>(evE C e<|fh b c a).bind<|kT a
|.l b,e,a=>(evE C e<|share b a).bind kT2
def Fl.of {b:Type}(c:Env):Res b->(b->Fl)->Fl
|.ok a,f=>f a
|.ex _,_=>.no
|.no,_=>.no
noncomputable def Fl.seq:Fl->(Env->Fl)->Fl
|.nx a,f=>f a
|z,_=>z
noncomputable def Fl.turn:Fl->(Env->Fl)->Fl
|.nx a,f=>f a
|.bk a,_=>.nx a
|z,_=>z
noncomputable def onF:QJ->(Env->Fl)->(Env->Fl)->Env->Fl
|true,f,_,a=>f a
|false,_,g,a=>g a
def aY (c:U Y)(f:Env->Fl):U (U W)->Env->Fl
|[],a=>.nx a
|d::r,a=>Fl.of a (ofO<|aJ c d a) λb=>Fl.turn (f b)<|aY c f r
def kIf (f g:Env->Fl)(p:QJ×Env):Fl:=onF p.1 f g p.2
def rF (f:Env->Fl)(g:Env->Fl)(a:Env):Fl:=Fl.turn (f a) g
def kH (c:Env->Res (QJ×Env))(f:Env->Fl):Y->Env->Fl
|0,_=>.no
|n+1,a=>Fl.of a (c a)<|kIf (rF f<|kH c f n) .nx
def uH:Y:=1000000000000
def nxO (a:Env):j Env->Fl
|some a=>.nx a
|none=>.no
def zl (i:Y)(p:W×Env):Fl:=.nx<|put p.2 i p.1
def n4 (a:U Y)(p:W×Env):Fl:=nxO p.2<|(D1 p.1).bind λb=>aJ a b p.2
def qZ (i:Y)(p:W×Env):Fl:=nxO p.2<|((rd p.2 i).bind λw=>iA w p.1).map λw=>put p.2 i w
def Ed (i:Y)(p:W×Env):Fl:=nxO p.2<|((rd p.2 i).bind λw=>DZ w p.1).map λw=>put p.2 i w
def tD (i:Y)(x:W)(q:W×Env):Fl:=nxO q.2<|((rd q.2 i).bind λw=>cJ w q.1 x).map λw=>put q.2 i w
def r8 (i:Y)(x:W)(q:W×Env):Fl:=nxO q.2<|((rd q.2 i).bind λw=>Fi w q.1 x).map λw=>put q.2 i w
def FJ (i:Y)(f:Env->RE)(a:Env)(p:W×Env):Fl:=Fl.of a (f p.2)<|r8 i p.1
def nr (i:Y)(x:W)(q:W×Env):Fl:=nxO q.2<|((rd q.2 i).bind λw=>eK w q.1 x).map λw=>put q.2 i w
def oY (i:Y)(f:Env->RE)(a:Env)(p:W×Env):Fl:=Fl.of a (f p.2)<|nr i p.1
def wK (i:Y)(f:Env->RE)(a:Env)(p:W×Env):Fl:=Fl.of a (f p.2)<|tD i p.1
noncomputable def qq (f:Env->RE)(a:Env)(k:W×Env->Fl)(_:Unit):Fl:=Fl.of a (f a) k
def kNx (p:W×Env):Fl:=.nx p.2
def kRt (p:W×Env):Fl:=.rt p.1 p.2
def tS (a:U Y)(f:Env->Fl)(t:U (U W)×Env):Fl:=aY a f t.1 t.2
def xo (c:U Y)(k:Ik)(b:U Y)(f:Env->Fl)(a:Env)(p:U W×Env):Fl:=Fl.of a (ret (share c a)<|bV k p.1)<|tS b f
def y0 (k:W->Env->Fl)(a:Env):Res (W×U W)->Fl
|.ok (w,[])=>k w a
|.ex t=>.ex t a
|_=>.no
def kC (f:Y)(k:W->Env->Fl)(p:U W×Env):Fl:=y0 k p.2<|C f p.1
def HW (i:Y)(w:W)(a:Env):Fl:=.nx<|put a i w
def HQ (_:W)(a:Env):Fl:=.nx a
def nR (c:Y)(fld:Str)(a:Y)(p:W×Env):Fl:=if rJ a p.1.1 p.1.2=JZ then .ex (.ins c [fld] [p.1.2]) p.2 else .no
def Fl.drop (i:Y):Fl->Fl
|.nx a=>.nx<|del a i
|.rt w a=>.rt w<|del a i
|_=>.no
def Fl.caught (a:U Y)(i:Y)(h:Env->Fl):Fl->Fl
|.ex (.ins c fs b) d=>if a.contains c=JZ then Fl.drop i (h<|put d i (.s,.ins c fs b)) else .no
|.ex _ _=>.no
|z=>z
mutual
def evS:S->Env->Fl
|.asg x i e,η=>Fl.of η (evX C x e η)<|zl i
|.asgT x is e,η=>Fl.of η (evX C x e η)<|n4 is
|.setI x i k e,η=>Fl.of η (evX C x e η)<|wK i (evX C x k) η
|.setS x i k e,η=>Fl.of η (evX C x e η)<|oY i (evX C x k) η
|.apN i k l,η=>nxO η<|(jT (rd η i) (rd η k)<|rd η l).map λw=>put η i w
|.app x i e,η=>Fl.of η (ib<|rd η i)<|qq (evX C x e) η<|qZ i
|.ext x i e,η=>Fl.of η (ib<|rd η i)<|qq (evX C x e) η<|Ed i
|.ret vs e,η=>Fl.of η (evE C e<|share vs η) kRt
|.ite x c a b,η=>Fl.of η (evT C x c η)<|kIf (evSs a)<|evSs b
|.forS vs ls k src tg body,η=>Fl.of η (evL C src<|fh vs ls η)<|xo vs k tg (evSs body) η
|.whl x c body,η=>kH (evT C x c) (evSs body) uH η
|.brk,η=>.bk η
|.pas,η=>.nx η
|.stop,_=>.no
|.raise c fld fk x e,η=>Fl.of η (evX C x e η)<|nR c fld fk
def evSs:U S->Env->Fl
|[],η=>.nx η
|s::r,η=>Fl.seq (evS s η)<|evSs r
end
end
def backs:U Y->Env->j (U W)
|[],_=>O []
|i::b,a=>(rd a i).bind λw=>(backs b a).bind λc=>O (w::c)
def qe (w:W)(b:U W):Res (W×U W):=.ok (w,b)
def Fl.out (b:U Y):Fl->Res (W×U W)
|.nx a=>(ofO<|backs b a).bind<|qe (.d,.non)
|.rt w a=>(ofO<|backs b a).bind<|qe w
|.ex t _=>.ex t
|_=>.no
def runF (C:Call)(f:Fn)(a:U W):Res (W×U W):=
 if a.length=f.ps then Fl.out f.io (evSs C f.body<|a.map O++Kb f.ns J) else .no
abbrev I0:=U Fn
def A7 (n:Y):U W->Res (W×U W)
|[(m,t)]=>if(lf m t==.d&&(decide (dp t<=n)&&decide (dp t<=64)))=JZ then .ok ((.d,.non),[]) else .no
|_=>.no
def AF:U Y->U T->U T
|[],_=>[]
|n::b,a=>.lst (a.take n)::AF b (a.drop n)
noncomputable def sr:U T->j (U Y)
|[]=>O []
|.int (.ofNat n)::a=>(sr a).map (n::·)
|_::_=>J
def Fd:U W->Res (W×U W)
|[(_,.lst a),(m,.lst c)]=>(ofO<|sr a).bind λb=>.ok ((m.kid.up.up,.lst<|AF b c),[])
|_=>.no
def callR (P:I0)(s r:Y):Y->Call
|0=>λ_ _=>.no
|n+1=>λf a=>if f=s then A7 n a else if f=r then Fd a else(ofO P[f]?).bind λd=>runF (callR P s r n) d a
abbrev zf:Fn:={ps:=0,ns:=0,io:=[],body:=[.stop]}
theorem BX (C:Call)(i:Y)(a:Env):evE C (.var i) a=ret a ((rd a i).bind look):=rfl
theorem D9 (C:Call)(i:Y)(a:Env):evE C (.mv i) a=ret (del a i) (rd a i):=rfl
theorem EE (C:Call)(i:Y)(a:Env):evE C (.io i) a=ret (del a i) (rd a i):=rfl
theorem B8 (C:Call)(t:T)(a:Env):evE C (.cst t) a=.ok ((.d,t),a):=rfl
theorem Eh (C:Call)(a:U E)(b:Env):evE C (.tup a) b=(evL C a b).bind rA:=rfl
theorem Ex (C:Call)(h:QJ)(a:U E)(b:Env):evE C (.lst h a) b=(evL C a b).bind (va h):=rfl
theorem Dk (C:Call)(o:Op)(h:QJ)(a:U E)(b:Env):evE C (.op o h a) b=(evL C a b).bind (kOp o h):=rfl
theorem y8 (C:Call)(a:E)(b:E)(c:Env):evE C (.and a b) c=(evE C a c).bind (qL<|evE C b):=rfl
theorem zw (C:Call)(a:E)(b:E)(c:Env):evE C (.or a b) c=(evE C a c).bind (kOr<|evE C b):=rfl
theorem xI (C:Call)(a:E)(b:Env):evE C (.not a) b=(evE C a b).bind qo:=rfl
theorem yQ (C:Call)(c:E)(a:E)(b:E)(d:Env):evE C (.ifx c a b) d=(evE C c d).bind (onT (evE C a)<|evE C b):=rfl
theorem xB (C:Call)(o:Op)(q:Op)(a:E)(b:E)(c:E)(d:Env):evE C (.chain o q a b c) d=(evE C a d).bind (kC1 o q (evE C b)<|evE C c):=rfl
theorem yt (C:Call)(f:Y)(a:U E)(b:Env):evE C (.call f a) b=(evA C a b).bind (kZ C f<|ios a):=rfl
theorem yz (C:Call)(h:QJ)(k:Ik)(b:U E)(c:U Y)(a:E)(d:Env):evE C (.comp h k b c J a) d=(evL C b d).bind (ei h k c<|bE<|evE C a):=rfl
theorem xP (C:Call)(h:QJ)(k:Ik)(b:U E)(d:U Y)(c:E)(a:E)(e:Env):evE C (.comp h k b d (O c) a) e=(evL C b e).bind (ei h k d<|b8 (evE C c)<|evE C a):=rfl
theorem CU (h:QJ)(m n:Md)(a:U T)(i:Int):oSem .sl2 h [(m,.lst a),(n,.int i)]=newL h m.kid (cut a J<|O i):=rfl
theorem Ee (h:QJ)(m n:Md)(a:U T)(i:Int):oSem .sl1 h [(m,.lst a),(n,.int i)]=newL h m.kid (cut a (O i) J):=rfl
theorem BM (h:QJ)(m n:Md)(a:U T)(k:Int):oSem .mul h [(m,.lst a),(n,.int k)]=if decide (k.natAbs<4611686018427387904)&&fits (a.length * k.toNat) then newL h .s (Kb k.toNat a).flatten else none:=rfl
theorem oE (h:QJ)(m:Md)(a:U T):oSem .any h [(m,.lst a)]=(boolsOf a).map λbs=>(.d,.bl<|bs.any id):=rfl
theorem Fy (h:QJ)(m n:Md)(i a:Int):oSem .min h [(m,.int i),(n,.int a)]=O (.d,.int<|if a<i then a else i):=rfl
theorem GF (h:QJ)(m n:Md)(i a:Int):oSem .max h [(m,.int i),(n,.int a)]=O (.d,.int<|if a>i then a else i):=rfl
theorem F7 (h:QJ)(m n:Md)(i a:Int):oSem .rng h [(m,.int i),(n,.int a)]=if decide (i.natAbs<4611686018427387904)&&decide (a.natAbs<4611686018427387904)&&fits (a-i).toNat then O (.d,.lst<|(Kc (a-i).toNat).map λ(k:Y)=>T.int<|i+k) else none:=rfl
theorem Hx (m:Md)(a:U T):bV .enm [(m,.lst a)]=O (c6 .s 0 a):=rfl
def lkM:Md->Md
|.s=>.s|_=>.d
theorem ID:lkM .s=.s:=rfl
theorem Iv:lkM .d=.d:=rfl
theorem JL (m:Md):lkM (.o m)=.d:=rfl
theorem Ih (m:Md)(i:Int):look (m,.int i)=O (lkM m,.int i):=by cases m<;>rfl
theorem Ff (m:Md)(b:QJ):look (m,.bl b)=O (lkM m,.bl b):=by cases m<;>rfl
theorem ER (m:Md)(x:Str):look (m,.str x)=O (lkM m,.str x):=by cases m<;>rfl
theorem EX (m:Md):look (m,.non)=O (lkM m,.non):=by cases m<;>rfl
theorem Bu (m n k:Md)(a b c:U T):bV .zip3 [(m,.lst a),(n,.lst b),(k,.lst c)]=O (uQ a b c):=rfl
theorem nH (C:Call)(i:Y)(a:Env):evE C (.lenV i) a=ret a ((rd a i).bind λw=>oSem .len JY [w]):=rfl
theorem mY (C:Call)(i:Y)(a:U E)(b:Env):evA C (.lenV i::a) b=(evE C (.lenV i) b).bind (bo<|evA C a):=rfl
theorem CT (C:Call)(a:Env):evA C [] a=.ok ([],a):=rfl
theorem CN (C:Call)(i:Y)(a:U E)(b:Env):evA C (.io i::a) b=(evA C a b).bind (kIo i):=rfl
theorem qA (C:Call)(i:Y)(a:U E)(b:Env):evA C (.var i::a) b=(evE C (.var i) b).bind (bo<|evA C a):=rfl
theorem rB (C:Call)(i:Y)(a:U E)(b:Env):evA C (.mv i::a) b=(evE C (.mv i) b).bind (bo<|evA C a):=rfl
theorem qk (C:Call)(t:T)(a:U E)(b:Env):evA C (.cst t::a) b=(evE C (.cst t) b).bind (bo<|evA C a):=rfl
theorem qt (C:Call)(l:U E)(a:U E)(b:Env):evA C (.tup l::a) b=(evE C (.tup l) b).bind (bo<|evA C a):=rfl
theorem pQ (C:Call)(h:QJ)(l:U E)(a:U E)(b:Env):evA C (.lst h l::a) b=(evE C (.lst h l) b).bind (bo<|evA C a):=rfl
theorem sy (C:Call)(o:Op)(h:QJ)(l:U E)(a:U E)(b:Env):evA C (.op o h l::a) b=(evE C (.op o h l) b).bind (bo<|evA C a):=rfl
theorem qm (C:Call)(a b:E)(c:U E)(d:Env):evA C (.and a b::c) d=(evE C (.and a b) d).bind (bo<|evA C c):=rfl
theorem tQ (C:Call)(a b:E)(c:U E)(d:Env):evA C (.or a b::c) d=(evE C (.or a b) d).bind (bo<|evA C c):=rfl
theorem qG (C:Call)(a:E)(b:U E)(c:Env):evA C (.not a::b) c=(evE C (.not a) c).bind (bo<|evA C b):=rfl
theorem qD (C:Call)(c a b:E)(d:U E)(e:Env):evA C (.ifx c a b::d) e=(evE C (.ifx c a b) e).bind (bo<|evA C d):=rfl
theorem km (C:Call)(o p:Op)(a b c:E)(d:U E)(e:Env):evA C (.chain o p a b c::d) e=(evE C (.chain o p a b c) e).bind (bo<|evA C d):=rfl
theorem ni (C:Call)(f:Y)(l:U E)(a:U E)(b:Env):evA C (.call f l::a) b=(evE C (.call f l) b).bind (bo<|evA C a):=rfl
theorem mV (C:Call)(h:QJ)(k:Ik)(c:U E)(e:U Y)(a:j E)(b:E)(d:U E)(f:Env):evA C (.comp h k c e a b::d) f=(evE C (.comp h k c e a b) f).bind (bo<|evA C d):=rfl
theorem C2 {C:Call}{e:E}{a:U E}{b:Env}(c:∀i,e≠.io i):evA C (e::a) b=(evE C e b).bind (bo<|evA C a):=by
 cases e with
 |io i=>exact QL rfl (c i)
 |_=>rfl
theorem xl (C:Call)(a:Env):evL C ([]) a=.ok ([],a):=rfl
theorem Ae (C:Call)(e:E)(a:U E)(b:Env):evL C (e::a) b=(evE C e b).bind (bo<|evL C a):=rfl
theorem Af (C:Call)(x:X)(i:Y)(e:E)(a:Env):evS C (.asg x i e) a=Fl.of a (evX C x e a) (zl i):=rfl
theorem yC (C:Call)(x:X)(b:U Y)(e:E)(a:Env):evS C (.asgT x b e) a=Fl.of a (evX C x e a) (n4 b):=rfl
theorem xq (C:Call)(x:X)(i:Y)(k:E)(e:E)(a:Env):evS C (.setI x i k e) a=Fl.of a (evX C x e a) (wK i (evX C x k) a):=rfl
theorem xF (C:Call)(x:X)(i:Y)(e:E)(a:Env):evS C (.app x i e) a=Fl.of a (ib<|rd a i) (qq (evX C x e) a<|qZ i):=rfl
theorem yE (C:Call)(x:X)(i:Y)(e:E)(a:Env):evS C (.ext x i e) a=Fl.of a (ib<|rd a i) (qq (evX C x e) a<|Ed i):=rfl
theorem Aq (C:Call)(b:U Y)(e:E)(a:Env):evS C (.ret b e) a=Fl.of a (evE C e<|share b a) kRt:=rfl
theorem zc (C:Call)(x:X)(c:E)(a:U S)(b:U S)(d:Env):evS C (.ite x c a b) d=Fl.of d (evT C x c d) (kIf (evSs C a)<|evSs C b):=rfl
theorem wY (C:Call)(d:U Y)(e:U Y)(k:Ik)(b:U E)(f:U Y)(a:U S)(c:Env):evS C (.forS d e k b f a) c=Fl.of c (evL C b<|fh d e c) (xo d k f (evSs C a) c):=rfl
theorem yM (C:Call)(x:X)(c:E)(a:U S)(b:Env):evS C (.whl x c a) b=kH (evT C x c) (evSs C a) uH b:=rfl
theorem yn (C:Call)(a:Env):evS C (.brk) a=.bk a:=rfl
theorem xQ (C:Call)(a:Env):evS C (.pas) a=.nx a:=rfl
theorem uW (C:Call)(a:Env):evSs C ([]) a=.nx a:=rfl
theorem qX (C:Call)(s:S)(r:U S)(a:Env):evSs C (s::r) a=Fl.seq (evS C s a) (evSs C r):=rfl
theorem yu (C:Call)(a:U Y)(c:U Y)(e:E)(b:Env):evX C (.q a c) e b=(evE C e<|fh a c b).bind (kX a b):=rfl
theorem Ax (C:Call)(a:U Y)(e:E)(b:Env):evX C (.l a) e b=evE C e (share a b):=rfl
theorem ya (C:Call)(c:U Y)(b:U Y)(e:E)(a:Env):evT C (.q c b) e a=(evE C e<|fh c b a).bind (kT a):=rfl
theorem yI (C:Call)(a:U Y)(e:E)(b:Env):evT C (.l a) e b=(evE C e<|share a b).bind kT2:=rfl
theorem Bd {b c:Type}(a:b)(f:b->Res c):(Res.ok a).bind f=f a:=rfl
theorem Iq {b:Type}(c:Env)(a:b)(f:b->Fl):Fl.of c (.ok a) f=f a:=rfl
theorem Bm (a:Env)(f:Env->Fl):Fl.seq (.nx a) f=f a:=rfl
theorem Ec (w:W)(a:Env)(f:Env->Fl):Fl.seq (.rt w a) f=.rt w a:=rfl
theorem C9 (a:Env)(f:Env->Fl):Fl.seq (.bk a) f=.bk a:=rfl
theorem yp (a:Env)(f:Env->Fl):Fl.turn (.nx a) f=f a:=rfl
theorem Ac (w:W)(a:Env)(f:Env->Fl):Fl.turn (.rt w a) f=.rt w a:=rfl
theorem yj (a:Env)(f:Env->Fl):Fl.turn (.bk a) f=.nx a:=rfl
theorem Bc {b:Type}(f g:Env->Res b)(a:Env):onB (.bl JZ) f g a=f a:=rfl
theorem Dp {b:Type}(f g:Env->Res b)(a:Env):onB (.bl JY) f g a=g a:=rfl
theorem DR {c:Type}(f g:Env->Res c)(m:Md)(b:QJ)(a:Env):onT f g ((m,.bl b),a)=onB (.bl b) f g a:=by cases b<;>rfl
theorem CM {b:Type}(f g:Env->Res b)(m:Md)(a:Env):onT f g ((m,.bl JZ),a)=f a:=rfl
theorem D3 {b:Type}(f g:Env->Res b)(m:Md)(a:Env):onT f g ((m,.bl JY),a)=g a:=rfl
theorem Dn (f g:Env->Fl)(a:Env):onF JZ f g a=f a:=rfl
theorem BQ (f g:Env->Fl)(a:Env):onF JY f g a=g a:=rfl
theorem Ge {b:Type}(a:b):ofO (O a)=.ok a:=rfl
theorem Fb {c:Type}(b:Env)(a:c):ret b (O a)=.ok (a,b):=rfl
theorem FZ (o:j W)(a:Env):rd (o::a) 0=o:=rfl
theorem Gw (o:j W)(a:Env)(i:Y):rd (o::a) (i+1)=rd a i:=rfl
theorem Fm (o w:j W)(a:Env):wr (o::a) 0 w=w::a:=rfl
theorem FH (o w:j W)(a:Env)(i:Y):wr (o::a) (i+1) w=o::wr a i w:=rfl
theorem xm (t:T):look (.s,t)=O (.s,t):=rfl
theorem yN (m:Md)(i:Int):(look (.d,.int i))=O (.d,.int i):=rfl
theorem wM (m:Md)(b:QJ):(look (.d,.bl b))=O (.d,.bl b):=rfl
theorem xA (x:Str):(look (.d,.str x))=O (.d,.str x):=rfl
theorem zY:(look (.d,.non))=O (.d,.non):=rfl
theorem Fv (m:Md)(t:T):toS (O (m,t))=O (.s,t):=rfl
theorem BC:toS J=none:=rfl
theorem tL (a:Env):share [] a=a:=rfl
theorem uz (i:Y)(b:U Y)(a:Env):share (i::b) a=share b (wr a i<|toS<|rd a i):=rfl
theorem ug:gX []=[]:=rfl
theorem wj (o:j W)(a:Env):gX (o::a)=none::gX a:=rfl
theorem CQ (c b:U Y)(a:Env):fh c b a=fZ b a (my c a<|gX a):=rfl
theorem wV (a b:Env):my [] a b=b:=rfl
theorem xD (i:Y)(b:U Y)(a c:Env):my (i::b) a c=my b a (wr c i<|toS<|rd a i):=rfl
theorem vI (a b:Env):fZ [] a b=b:=rfl
theorem uG (i:Y)(b:U Y)(a c:Env):fZ (i::b) a c=fZ b a (wr c i<|lfO<|rd a i):=rfl
theorem Hr (m:Md)(i:Int):lfO (O (m,.int i))=O (.d,.int i):=rfl
theorem GP (m:Md)(b:QJ):lfO (O (m,.bl b))=O (.d,.bl b):=rfl
theorem Fc (m:Md)(x:Str):lfO (O (m,.str x))=O (.d,.str x):=rfl
theorem HZ (m:Md):lfO (O (m,.non))=O (.d,.non):=rfl
theorem rE (b:U Y)(a:Env):after .d b a=a:=rfl
theorem ue (a:U Y)(b:Env):after .s a b=share a b:=rfl
theorem u7 (m:Md)(a:U Y)(b:Env):after (.o m) a b=share a b:=rfl
theorem Eu (m:Md)(i:Int):lf m (.int i)=.d:=rfl
theorem Dm (m:Md)(b:QJ):lf m (.bl b)=.d:=rfl
theorem Cp (m:Md)(x:Str):lf m (.str x)=.d:=rfl
theorem Es (m:Md):lf m .non=.d:=rfl
theorem Dd (m:Md)(a:U T):lf m (.lst a)=m:=rfl
theorem CI (m:Md)(a:U T):lf m (.tup a)=m:=rfl
theorem Ez (t:T):lf .d t=.d:=by unfold lf;split<;>rfl
theorem Co (m:Md):Md.s.le m=true:=by cases m<;>rfl
theorem Am:Md.d.le .d=true:=rfl
theorem As (m:Md):(Md.o m).le .d=true:=rfl
theorem zM (m n:Md):(Md.o m).le (.o n)=m.le n:=rfl
theorem C7 (h:QJ)(m n:Md)(i a:Int):oSem .add h [(m,.int i),(n,.int a)]=O (.d,.int<|i+a):=rfl
theorem v5 (h:QJ)(m n:Md)(a b:U T):oSem .add h [(m,.lst a),(n,.lst b)]=if fits (a.length+b.length) then newL h (m.kid.meet n.kid) (a++b) else none:=rfl
theorem ui (h:QJ)(m n:Md)(x y:Str):oSem .add h [(m,.str x),(n,.str y)]=if fits (x.cps.size+y.cps.size) then O (.d,.str<|x++y) else none:=rfl
theorem sP (h:QJ)(m n:Md)(a b:U T):oSem .add h [(m,.tup a),(n,.tup b)]=if fits (a.length+b.length)&&!a.isEmpty then O (.s,.tup<|a++b) else none:=rfl
theorem GQ (h:QJ)(m n:Md)(i a:Int):oSem .sub h [(m,.int i),(n,.int a)]=O (.d,.int<|i-a):=rfl
theorem tJ (h:QJ)(m n:Md)(i a:Int):oSem .mul h [(m,.int i),(n,.int a)]=if(decide (i.natAbs<18446744073709551616)) || (decide (a.natAbs<18446744073709551616)) then O (.d,.int<|i * a) else none:=rfl
theorem vO (h:QJ)(m n:Md)(i a:Int):oSem .fdiv h [(m,.int i),(n,.int a)]=if decide (0<a)&&decide (a<1073741824) then O (.d,.int<|i / a) else none:=rfl
theorem Az (h:QJ)(m n:Md)(i a:Int):oSem .mod h [(m,.int i),(n,.int a)]=if decide (0<a) then O (.d,.int<|i % a) else none:=rfl
theorem Gk (h:QJ)(m n:Md)(i a:Int):oSem .pow h [(m,.int i),(n,.int a)]=if decide (0<=a)&&decide (a<=1000000)&&decide (i.natAbs<18446744073709551616) then O (.d,.int<|i ^ a.toNat) else none:=rfl
theorem Gz (h:QJ)(m:Md)(i:Int):oSem .neg h [(m,.int i)]=O (.d,.int (-i)):=rfl
theorem Dy (h:QJ)(m n:Md)(i a:Int):oSem .eq h [(m,.int i),(n,.int a)]=O (.d,.bl<|i==a):=rfl
theorem Dj (h:QJ)(m n:Md)(x y:Str):oSem .eq h [(m,.str x),(n,.str y)]=O (.d,.bl<|x==y):=rfl
theorem BV (h:QJ)(m n:Md)(a b:QJ):oSem .eq h [(m,.bl a),(n,.bl b)]=O (.d,.bl<|a==b):=rfl
theorem Bz (h:QJ)(m n:Md)(i a:Int):oSem .ne h [(m,.int i),(n,.int a)]=O (.d,.bl<|!(i==a)):=rfl
theorem Ei (h:QJ)(m n:Md)(x y:Str):oSem .ne h [(m,.str x),(n,.str y)]=O (.d,.bl<|!(x==y)):=rfl
theorem DA (h:QJ)(m n:Md)(a b:QJ):oSem .ne h [(m,.bl a),(n,.bl b)]=O (.d,.bl<|!(a==b)):=rfl
theorem IB (h:QJ)(m n:Md)(i a:Int):oSem .lt h [(m,.int i),(n,.int a)]=O (.d,.bl<|decide (i<a)):=rfl
theorem Jg (h:QJ)(m n:Md)(i a:Int):oSem .le h [(m,.int i),(n,.int a)]=O (.d,.bl<|decide (i<=a)):=rfl
theorem Jv (h:QJ)(m n:Md)(i a:Int):oSem .gt h [(m,.int i),(n,.int a)]=O (.d,.bl<|decide (a<i)):=rfl
theorem JU (h:QJ)(m n:Md)(i a:Int):oSem .ge h [(m,.int i),(n,.int a)]=O (.d,.bl<|decide (a<=i)):=rfl
theorem FT (h:QJ)(m n:Md)(a:U T)(i:Int):oSem .ix h [(m,.lst a),(n,.int i)]=(atI a i).map λt=>(m.kid,t):=rfl
theorem Gv (h:QJ)(m n:Md)(a:U T)(i:Int):oSem .ix h [(m,.tup a),(n,.int i)]=(atI a i).map λt=>(m.kid,t):=rfl
theorem Dv (h:QJ)(m:Md)(a:U T):oSem .len h [(m,.lst a)]=O (.d,.int a.length):=rfl
theorem CB (h:QJ)(m:Md)(a:U T):oSem .len h [(m,.tup a)]=O (.d,.int a.length):=rfl
theorem EN (h:QJ)(m:Md)(a:U Int):oSem .len h [(m,.scr a)]=O (.d,.int a.length):=rfl
theorem GH (h:QJ)(m n:Md)(a:U Int)(i:Int):oSem .ix h [(m,.scr a),(n,.int i)]=(atI a i).map λn=>(.d,.int n):=rfl
theorem FY (h:QJ)(m n:Md)(a:U Int)(i:Int):oSem .sl2 h [(m,.scr a),(n,.int i)]=O (.d,.lst<|(cut a J<|O i).map T.int):=rfl
theorem EL (m:Md)(a:U Int):lf m (.scr a)=.d:=rfl
theorem GS (m:Md)(a:U Int):lfO (O (m,.scr a))=O (.d,.scr a):=rfl
theorem xW (a:U Int):look (.d,.scr a)=O (.d,.scr a):=rfl
theorem EF (h:QJ)(m:Md)(x:Str):oSem .len h [(m,.str x)]=O (.d,.int x.cps.size):=rfl
theorem Ds (fld g:Str)(c:Y)(h:QJ)(m:Md)(a:U T):oSem (.att fld) h [(m,.ins c [g] [.tup a])]=if(g==fld)=JZ then O (.s,.tup a) else none:=rfl
theorem BA (fld g:Str)(c:Y)(h:QJ)(m:Md)(x:Str):oSem (.att fld) h [(m,.ins c [g] [.str x])]=if(g==fld)=JZ then O (.d,.str x) else none:=rfl
theorem JN (c:Y)(fld:Str)(a:Y)(h:QJ)(m:Md)(t:T):oSem (.mk c fld a) h [(m,t)]=if rJ a m t=JZ then O (.s,.ins c [fld] [t]) else none:=rfl
theorem Gn (fld g:Str)(c:Y)(h:QJ)(m:Md)(n:Int):oSem (.att fld) h [(m,.ins c [g] [.int n])]=if(g==fld)=JZ then O (.d,.int n) else none:=rfl
theorem HH (b:U QZ)(h:QJ)(m:Md)(a:T):oSem (.isI b) h [(m,a)]=if a.isH then J else O (.d,.bl<|b.any λc=>isOne c a):=rfl
theorem Hy (c:Y)(fs:U Str)(a:U T):T.isG (.ins c fs a)=false:=rfl
theorem Hl (c:Y)(fs:U Str)(a:U T):T.isN (.ins c fs a)=false:=rfl
theorem F5:T.isH .non=false:=rfl
theorem IW (b:QJ):T.isH (.bl b)=false:=rfl
theorem GK (i:Int):T.isH (.int i)=false:=rfl
theorem Gq (x:Str):T.isH (.str x)=false:=rfl
theorem FE (a:U T):T.isH (.tup a)=false:=rfl
theorem F9 (a:U T):T.isH (.lst a)=false:=rfl
theorem GZ (a:U Int):T.isH (.scr a)=false:=rfl
theorem Ho:T.isG .non=false:=rfl
theorem Jc (b:QJ):T.isG (.bl b)=false:=rfl
theorem Fq (i:Int):T.isG (.int i)=false:=rfl
theorem Gs (x:Str):T.isG (.str x)=false:=rfl
theorem Hb (a:U T):T.isG (.tup a)=false:=rfl
theorem Ia (a:U T):T.isG (.lst a)=false:=rfl
theorem GD (a:U Int):T.isG (.scr a)=false:=rfl
theorem E5:T.isN .non=true:=rfl
theorem Ja (b:QJ):T.isN (.bl b)=false:=rfl
theorem GG (i:Int):T.isN (.int i)=false:=rfl
theorem HJ (x:Str):T.isN (.str x)=false:=rfl
theorem Hh (a:U T):T.isN (.tup a)=false:=rfl
theorem Hq (a:U T):T.isN (.lst a)=false:=rfl
theorem yX (h:QJ)(m:Md)(a:U T):oSem .list h [(m,.lst a)]=newL h m.kid a:=rfl
theorem wG (h:QJ)(m:Md)(a:U T):oSem .list h [(m,.tup a)]=newL h m.kid a:=rfl
theorem xk (h:QJ)(m:Md)(x:Str):oSem .lower h [(m,.str x)]=if x.cps.toList.all (λc=>decide (c<128)) then O (.d,.str ⟨x.cps.map HU⟩) else none:=rfl
theorem Ct (h:QJ)(m:Md)(t:T):oSem .repr h [(m,t)]=if decide (dp t<=64)&&rOk t&&fits (szR t) then O (.d,.str (datT t).shown) else none:=rfl
theorem Ft (h:QJ)(n:Md)(a:U<|Int ⊕ Str)(b:U T)(k:T):oSem .ixD h [(.s,.dct a b),(n,k)]=(keyT k).bind λq=>(lookD q a b).map λt=>(.s,t):=rfl
theorem BU (h:QJ)(a:U T):oSem .revL h [(.s,.lst a)]=O (.o .s,.lst a.reverse):=rfl
theorem mn (C:Call)(h:QJ)(i t:Y)(c e:E)(a:Env):evE C (.compV h i t c e) a=(ofO<|vwT<|rd a i).bind (kV1 h i t (b8 (evE C c)<|evE C e) a):=rfl
theorem k7 (C:Call)(h:QJ)(i t:Y)(c e:E)(a:U E)(b:Env):evA C (.compV h i t c e::a) b=(evE C (.compV h i t c e) b).bind (bo<|evA C a):=rfl
theorem mG (C:Call)(i:Y)(e:E)(a:Env):evE C (.popN i e) a=(ib<|rd a i).bind (f6 (evE C e) a<|gj i):=rfl
theorem mT (C:Call)(i:Y)(e:E)(a:U E)(b:Env):evA C (.popN i e::a) b=(evE C (.popN i e) b).bind (bo<|evA C a):=rfl
theorem nF (C:Call)(x:X)(i:Y)(k e:E)(a:Env):evS C (.setS x i k e) a=Fl.of a (evX C x e a) (oY i (evX C x k) a):=rfl
theorem pL (C:Call)(i k l:Y)(a:Env):evS C (.apN i k l) a=nxO a ((jT (rd a i) (rd a k)<|rd a l).map λw=>put a i w):=rfl
theorem sE (m n:Md)(b:U T)(a:Int)(t:T):jT (O (.d,.lst b)) (O (m,.int a)) (O (n,t))=(ixN b.length a).bind λq=>apU b q t b[q]?:=rfl
theorem Bl (h:QJ):oSem .dnew h []=O (.d,.dct [] []):=rfl
theorem tR (h:QJ)(m:Md)(b:U T):oSem .sorted h [(m,.lst b)]=(intsOf b).bind λa=>if decide (a.length<64) then O (.d,.lst<|(sortI a).map T.int) else none:=rfl
theorem dh (h:QJ)(m:Md)(b:U T):oSem .sortedSet h [(m,.lst b)]=(intsOf b).bind λa=>if decide (a.length<64) then O (.d,.lst<|(sortI<|a.foldl addZ []).map T.int) else none:=rfl
theorem i5 (h:QJ)(m:Md)(b:U T):oSem .sortedP h [(m,.lst b)]=(prsOf b).bind λa=>if decide (a.length<64) then O (.o .s,.lst<|(sortP a).map λp=>T.tup [.int p.1,.int p.2]) else none:=rfl
theorem Dz (h:QJ)(m:Md)(i:Int):oSem .str h [(m,.int i)]=if decide (i.natAbs<10000000000000000000) then O (.d,.str<|strI i) else none:=rfl
theorem kU (C:Call)(c:Y)(fld:Str)(b:Y)(x:X)(e:E)(a:Env):evS C (.raise c fld b x e) a=Fl.of a (evX C x e a) (nR c fld b):=rfl
theorem IC (C:Call)(f:Y)(k:W->Env->Fl)(a:U W)(b:Env):kC C f k (a,b)=y0 k b (C f a):=rfl
theorem D5 (k:W->Env->Fl)(a:Env)(w:W):y0 k a (.ok (w,[]))=k w a:=rfl
theorem D2 (k:W->Env->Fl)(a:Env)(t:T):y0 k a (.ex t)=.ex t a:=rfl
theorem wU (i:Y)(w:W)(a:Env):HW i w a=.nx (put a i w):=rfl
theorem zx (w:W)(a:Env):HQ w a=.nx a:=rfl
theorem uN (c:Y)(fld:Str)(m:Md)(n:Int)(a:Env):nR c fld 0 ((m,.int n),a)=if decide (n.natAbs.log2<1920)=JZ then .ex (.ins c [fld] [.int n]) a else .no:=rfl
theorem vN (a:U Y)(i:Y)(h:Env->Fl)(c:Y)(fs:U Str)(b:U T)(d:Env):Fl.caught a i h (.ex (.ins c fs b) d)=if a.contains c=JZ then Fl.drop i (h<|put d i (.s,.ins c fs b)) else .no:=rfl
theorem qv (b:U Y)(i:Y)(h:Env->Fl)(a:Env):Fl.caught b i h (.nx a)=.nx a:=rfl
theorem qR (b:U Y)(i:Y)(h:Env->Fl)(w:W)(a:Env):Fl.caught b i h (.rt w a)=.rt w a:=rfl
theorem Dh (i:Y)(a:Env):Fl.drop i (.nx a)=.nx (del a i):=rfl
theorem zZ (i:Y)(w:W)(a:Env):Fl.drop i (.rt w a)=.rt w (del a i):=rfl
theorem yT (h:QJ)(m n:Md)(i a:Int):oSem .fdivN h [(m,.int i),(n,.int a)]=if(a != 0)&&decide (a.natAbs<18446744073709551616) then O (.d,.int<|i.fdiv a) else none:=rfl
theorem A9 (h:QJ)(m n:Md)(i a:Int):oSem .modN h [(m,.int i),(n,.int a)]=if a != 0 then O (.d,.int<|i.fmod a) else none:=rfl
theorem rn (h:QJ)(m n:Md)(a b:QJ):oSem .isnB h [(m,.bl a),(n,.bl b)]=O (.d,.bl<|!(a==b)):=rfl
theorem AA (m:Md)(a:U T):bV .sq2 [(m,.lst a)]=bO a:=rfl
theorem DF (h:QJ)(m:Md)(a:U T):oSem .tuple h [(m,.lst a)]=O (m.kid.up,.tup a):=rfl
theorem Gy (h:QJ)(m:Md)(a:U T):oSem .sum h [(m,.lst a)]=(intsOf a).map λb=>(.d,.int b.sum):=rfl
theorem Gx (h:QJ)(m:Md)(a:U T):oSem .all h [(m,.lst a)]=(boolsOf a).map λbs=>(.d,.bl<|bs.all id):=rfl
theorem CP (m:Md)(a:U T):newL JZ m a=if leaves a then O (.d,.lst a) else none:=rfl
theorem BF (m:Md)(a:U T):newL JY m a=O (m.up,.lst a):=rfl
theorem CG (m:Md)(a:U T):bV .seq [(m,.lst a)]=O (a.map λt=>[(.s,t)]):=rfl
theorem Dg (m:Md)(a:U T):bV .seq [(m,.tup a)]=O (a.map λt=>[(.s,t)]):=rfl
theorem CA (m n o:Md)(i a c:Int):bV .rng [(m,.int i),(n,.int a),(o,.int c)]=if decide (i.natAbs<4611686018427387904)&&decide (a.natAbs<4611686018427387904)&&decide (c=-1)&&fits (i-a).toNat then O ((Kc (i-a).toNat).map λ(k:Y)=>[(.d,.int<|i-k)]) else none:=rfl
theorem rN (m:Md)(n:Int):bV .rng [(m,.int n)]=if decide (n.natAbs<4611686018427387904)&&fits n.toNat then O ((Kc n.toNat).map λ(k:Y)=>[(.d,.int k)]) else none:=rfl
theorem vt (a:Env):aJ [] [] a=O a:=rfl
theorem tV (i:Y)(a:U Y)(w:W)(b:U W)(c:Env):aJ (i::a) (w::b) c=aJ a b (put c i w):=rfl
theorem E9 {b c:Type}(f:b->c)(a:b):(O a).map f=O (f a):=rfl
theorem uK (b:QJ):truth (.bl b)=O b:=rfl
theorem tK (i:Int):truth (.int i)=O (i != 0):=rfl
theorem yZ {b c:Type}(a:b)(f:b->j c):(O a).bind f=f a:=rfl
theorem yf:Md.s.kid=.s:=rfl
theorem xy:Md.d.kid=.d:=rfl
theorem yB (m:Md):(Md.o m).kid=m:=rfl
theorem DC:Md.s.up=.o .s:=rfl
theorem BW:Md.d.up=.d:=rfl
theorem BS (m:Md):(Md.o m).up=.o (.o m):=rfl
theorem s9 (m:Md):Md.s.meet m=.s:=by cases m<;>rfl
theorem eA (m:Md):Md.d.meet m=m:=by cases m<;>rfl
theorem pI (m:Md):(Md.o m).meet .s=.s:=rfl
theorem pT (m:Md):(Md.o m).meet .d=.o m:=rfl
theorem qQ (m n:Md):(Md.o m).meet (.o n)=.o (m.meet n):=rfl
theorem BD (n:Md)(a:U T)(t:T):iA (.d,.lst a) (n,t)=if a.length<LIM then O ((lf n t).up,.lst<|a++[t]) else none:=by show(if _ then O ((Md.d.meet _).up,_) else J)=_;rw[eA]
theorem DJ (m n:Md)(a:U T)(t:T):iA (.o m,.lst a) (n,t)=if a.length<LIM then O ((m.meet<|lf n t).up,.lst<|a++[t]) else none:=rfl
theorem Cy (n:Md)(a b:U T):DZ (.d,.lst a) (n,.lst b)=if a.length+b.length<=LIM then O (n.kid.up,.lst<|a++b) else none:=by show(if _ then O ((Md.d.meet _).up,_) else J)=_;rw[eA]
theorem Ci (m n:Md)(a b:U T):DZ (.o m,.lst a) (n,.lst b)=if a.length+b.length<=LIM then O ((m.meet n.kid).up,.lst<|a++b) else none:=rfl
theorem Cu (l n:Md)(b:U T)(t:T)(a:Int):cJ (.d,.lst b) (l,.int a) (n,t)=(ixN b.length a).map λk=>((lf n t).up,.lst<|b.set k t):=by show((ixN b.length a).map λk=>((Md.d.meet _).up,_))=_;rw[eA]
theorem C8 (m l n:Md)(b:U T)(t:T)(a:Int):cJ (.o m,.lst b) (l,.int a) (n,t)=(ixN b.length a).map λk=>((m.meet<|lf n t).up,.lst<|b.set k t):=rfl
theorem CJ (m:Md)(a:U T):ib (O (m,.lst a))=.ok ():=rfl
theorem BE (m:Md)(a:U T):D1 (m,.tup a)=O (a.map λt=>(m.kid,t)):=rfl
theorem Fx (b a:Env):nxO b (O a)=.nx a:=rfl
theorem qY (a:Env):backs [] a=O []:=rfl
theorem tf (i:Y)(b:U Y)(a:Env):backs (i::b) a=(rd a i).bind λw=>(backs b a).bind λc=>O (w::c):=rfl
theorem DP (a:U Y)(b:Env):Fl.out a (.nx b)=(ofO<|backs a b).bind (qe (.d,.non)):=rfl
theorem BP (a:U Y)(w:W)(b:Env):Fl.out a (.rt w b)=(ofO<|backs a b).bind (qe w):=rfl
theorem x_run (C:Call)(f:Fn)(a:U W)(h:a.length=f.ps):runF C f a=Fl.out f.io (evSs C f.body<|a.map O++Kb f.ns J):=QG h
theorem at0 {b:Type}(a:b)(l:U b):atI (a::l) 0=O a:=by simp[atI,ixN]
theorem atN {c:Type}{b:U c}{i:Int}{n:Y}{a:c}(d:i=n)(h:b[n]?=O a):atI b i=O a:=by subst d;have:=(Le.mp h).1;rw[atI,ixN,QG<|by lia,QG<|by lia];exact h
theorem at1 {c:Type}(a b:c)(l:U c):atI (a::b::l) 1=O b:=atN (n:=1) rfl rfl
theorem at2 {d:Type}(a b c:d)(l:U d):atI (a::b::c::l) 2=O c:=atN (n:=2) rfl rfl
theorem at3 {e:Type}(a b c d:e)(l:U e):atI (a::b::c::d::l) 3=O d:=atN (n:=3) rfl rfl
theorem at4 {f:Type}(a b c d e:f)(l:U f):atI (a::b::c::d::e::l) 4=O e:=atN (n:=4) rfl rfl
theorem aF {k:Type}{d:U Y}{f:Env->Res (j W×Env)}{i:Env}{g:k->U W}(w:k->W):∀(e:U k) (a:U W),(∀x∈e,∃b c,aJ d (g x) i=O b/\f b=.ok (O<|w x,c)/\ag d c=i) ->
 az d f (e.map g) i a=.ok (a++e.map w,i)
|[],a,_=>by rw[MD,MD,KR];rfl
|x::e,a,h=>by obtain⟨b,c,l,m,n⟩:=h x Ka;rw[Ku,Ku];show(ofO<|aJ d (g x) i).bind _=_;rw[l];show(f b).bind _=_;rw[m];show az d f (e.map g) (ag d c) (a++[w x])=_;rw[n,aF w e _ λy o=>h y<|Ke _ o,Lr];rfl
theorem oF {a:Type}(g:a->T)(b:U a):(b.map λx=>((Md.d,g x):W)).all okD=true:=by rw[O5,KI];intro x _;rfl
end M

namespace MR
open L2 L3 M
open PySem (Addr Str sizeLine)
abbrev Fp:=QF->Prop
def ScrR (K:J2)(H:Hp)(a:QF)(b:U Int):Prop:=(∃o,H a=O (.frz o<|.lst<|b.map V.int))\/SqL K (λ_=>J) a (b.map V.int)
theorem ScrR.sq {K:J2}{H:Hp}{a:QF}{b:U Int}(h:ScrR K H a b):SqL K H a (b.map V.int):=by
 rcases h with⟨o,h⟩|((h|⟨o,h⟩)|h)
 .exact .inl (.inr ⟨o,h⟩)
 .cases h
 .cases h
 .exact .inr h
theorem ScrR.keep {K:J2}{H b:Hp}{a:QF}{c:U Int}(s:∀a o u,H a=O (.frz o u)->b a=O (.frz o u))(h:ScrR K H a c):ScrR K b a c:=h.imp (λ⟨o,e⟩=>⟨o,s a o _ e⟩) id
def LstR (K:J2)(Z:Fp)(H:Hp)(G:Fp)(a:QF)(b:U V):Md->Prop
|.s=>Z a/\H a=O (.lst b)
|_=>G a/\H a=O (.lst b)
def mkD (a:U<|Int ⊕ Str)(b:U V):U (Key×V):=a.zip b
def DctR (Z:Fp)(H:Hp)(G:Fp)(a:QF)(o:HO):Md->Prop
|.s=>Z a/\H a=O o
|_=>G a/\H a=O o
def dmd:Md->Md
|.d=>.d
|_=>.s
mutual
def Rep (K:J2)(Z:Fp)(H:Hp):Md->T->V->Fp->Prop
|_,.non,v,_=>v=.non
|_,.bl b,v,_=>v=.bl b
|_,.int i,v,_=>v=.int i
|_,.str x,v,_=>v=.str x/\sOk x=JZ
|m,.tup ts,v,G=>∃a xs,v=.ref a/\SqT K H a xs/\xs.length<=LIM/\RepL K Z H m.kid ts xs G
|m,.lst ts,v,G=>∃a xs,v=.ref a/\xs.length<=LIM/\LstR K Z H G a xs m/\RepL K Z H m.kid ts xs (λb=>G b/\b≠a)
|m,.dct ks vs,v,G=>∃a xs,v=.ref a/\ks.length<=LIM/\DctR Z H G a (.dK<|mkD ks xs) m/\(ks.Nodup/\∀k∈ks,kOk k=JZ)/\vs.length=ks.length/\RepL K Z H (dmd m) vs xs (λ_=>QX)
|m,.ins c fs vs,v,_=>m≠.d/\∃a dx C xs,v=.ref a/\Z a/\Z dx/\H a=O (XO a C (O dx) JY)/\H dx=O (.xd<|fs.zip xs)/\fs.length=vs.length/\XNm K c C/\RepL K Z H .s vs xs (λ_=>QX)
|_,.gone,_,_=>Ra
|_,.scr ns,v,_=>∃a,v=.ref a/\ns.length<=LIM/\ScrR K H a ns
def RepL (K:J2)(Z:Fp)(H:Hp):Md->U T->U V->Fp->Prop
|_,[],xs,_=>xs=[]
|m,t::ts,xs,G=>∃x r G1 G2,xs=x::r/\(∀a,G1 a->G a)/\(∀a,G2 a->G a)/\(∀a,G1 a->¬G2 a)/\Rep K Z H m t x G1/\RepL K Z H m ts r G2
end
section
variable {K:J2}{Z Z':Fp}{H H':Hp}{m:Md}{t:T}{ts:U T}{v:V}{xs:U V}{G G':Fp}
theorem LstR.mono {a:QF}(w:∀a,G a->G' a)(h:LstR K Z H G a xs m):LstR K Z H G' a xs m:=by
 cases m with
 |s=>exact h
 |d=>exact⟨w _ h.1,h.2⟩
 |o m=>exact⟨w _ h.1,h.2⟩
theorem DctR.mono {a:QF}{o:HO}(w:∀a,G a->G' a)(h:DctR Z H G a o m):DctR Z H G' a o m:=by
 cases m with
 |s=>exact h
 |d=>exact⟨w _ h.1,h.2⟩
 |o m=>exact⟨w _ h.1,h.2⟩
mutual
theorem Rep.mono:∀{m:Md} {t:T} {v:V} {G G':Fp},(∀a,G a->G' a)->Rep K Z H m t v G->Rep K Z H m t v G'
|_,.non,_,_,_,_,h=>h
|_,.bl _,_,_,_,_,h=>h
|_,.int _,_,_,_,_,h=>h
|_,.str _,_,_,_,_,h=>h
|m,.tup ts,v,G,G',w,⟨a,xs,e,q,l,r⟩=>⟨a,xs,e,q,l,RepL.mono w r⟩
|m,.lst ts,v,G,G',w,⟨a,xs,e,l,q,r⟩=>⟨a,xs,e,l,q.mono w,RepL.mono (λb hb=>⟨w b hb.1,hb.2⟩) r⟩
|m,.dct ks vs,v,G,G',w,⟨a,xs,e,l,q,n,hl,r⟩=>⟨a,xs,e,l,q.mono w,n,hl,r⟩
|_,.ins _ _ _,_,_,_,_,h=>h
|_,.gone,_,_,_,_,h=>h
|_,.scr _,_,_,_,_,h=>h
theorem RepL.mono:∀{m:Md} {ts:U T} {xs:U V} {G G':Fp},(∀a,G a->G' a)->RepL K Z H m ts xs G->RepL K Z H m ts xs G'
|_,[],_,_,_,_,h=>h
|m,t::ts,xs,G,G',w,⟨x,r,G1,G2,e,h1,h2,hd,p,q⟩=>⟨x,r,G1,G2,e,λa ha=>w a<|h1 a ha,λa ha=>w a<|h2 a ha,hd,p,q⟩
end
def Stay (Z:Fp)(H H':Hp):Prop:=(∀a o,Z a->H a=O o->H' a=O o)/\(∀a xs,Rd H a (.tup xs)->Rd H' a (.tup xs))/\∀a o u,H a=O (.frz o u)->H' a=O (.frz o u)
theorem Stay.sqt (s:Stay Z H H'){a:QF}(h:SqT K H a xs):SqT K H' a xs:=by
 rcases h with h|h
 .exact .inl (s.2.1 a xs h)
 .exact .inr h
theorem LstR.keep {a:QF}(s:Stay Z H H')(z:∀a,Z a->Z' a)(g:∀a o,G a->H a=O o->H' a=O o)(h:LstR K Z H G a xs m):LstR K Z' H' G a xs m:=by
 cases m with
 |s=>exact⟨z _ h.1,s.1 _ _ h.1 h.2⟩
 |d=>exact⟨h.1,g _ _ h.1 h.2⟩
 |o m=>exact⟨h.1,g _ _ h.1 h.2⟩
theorem DctR.keep {a:QF}{o:HO}(s:Stay Z H H')(z:∀a,Z a->Z' a)(g:∀a o,G a->H a=O o->H' a=O o)(h:DctR Z H G a o m):DctR Z' H' G a o m:=by
 cases m with
 |s=>exact⟨z _ h.1,s.1 _ _ h.1 h.2⟩
 |d=>exact⟨h.1,g _ _ h.1 h.2⟩
 |o m=>exact⟨h.1,g _ _ h.1 h.2⟩
mutual
theorem Rep.keep (s:Stay Z H H')(z:∀a,Z a->Z' a):∀{m:Md} {t:T} {v:V} {G:Fp},(∀a o,G a->H a=O o->H' a=O o)->Rep K Z H m t v G->Rep K Z' H' m t v G
|_,.non,_,_,_,h=>h
|_,.bl _,_,_,_,h=>h
|_,.int _,_,_,_,h=>h
|_,.str _,_,_,_,h=>h
|m,.tup ts,v,G,g,⟨a,xs,e,q,l,r⟩=>⟨a,xs,e,s.sqt q,l,RepL.keep s z g r⟩
|m,.lst ts,v,G,g,⟨a,xs,e,l,q,r⟩=>⟨a,xs,e,l,q.keep s z g,RepL.keep s z (λb o hb=>g b o hb.1) r⟩
|m,.dct ks vs,v,G,g,⟨a,xs,e,l,q,n,hl,r⟩=>⟨a,xs,e,l,q.keep s z g,n,hl,RepL.keep s z (λ_ _ hb=>hb.elim) r⟩
|_,.ins _ _ _,_,_,_,⟨ne,a,dx,C,xs,e,z1,z2,h1,h2,l,n,r⟩=>⟨ne,a,dx,C,xs,e,z _ z1,z _ z2,s.1 _ _ z1 h1,s.1 _ _ z2 h2,l,n,RepL.keep s z (λ_ _ hb=>hb.elim) r⟩
|_,.gone,_,_,_,h=>h
|_,.scr _,_,_,_,⟨a,e,l,q⟩=>⟨a,e,l,q.keep s.2.2⟩
theorem RepL.keep (s:Stay Z H H')(z:∀a,Z a->Z' a):∀{m:Md} {ts:U T} {xs:U V} {G:Fp},(∀a o,G a->H a=O o->H' a=O o)->RepL K Z H m ts xs G->RepL K Z' H' m ts xs G
|_,[],_,_,_,h=>h
|m,t::ts,xs,G,g,⟨x,r,G1,G2,e,h1,h2,hd,p,q⟩=>⟨x,r,G1,G2,e,h1,h2,hd,Rep.keep s z (λa o ha=>g a o<|h1 a ha) p,RepL.keep s z (λa o ha=>g a o<|h2 a ha) q⟩
end
theorem iJ (Z:Fp)(H:Hp):Stay Z H H:=⟨λ_ _ _ h=>h,λ_ _ h=>h,λ_ _ _ h=>h⟩
theorem Rep.zmono (z:∀a,Z a->Z' a)(h:Rep K Z H m t v G):Rep K Z' H m t v G:=h.keep (iJ Z H) z λ_ _ _ q=>q
theorem RepL.zmono (z:∀a,Z a->Z' a)(h:RepL K Z H m ts xs G):RepL K Z' H m ts xs G:=h.keep (iJ Z H) z λ_ _ _ q=>q
theorem RepL.length:∀{ts:U T} {xs:U V} {G:Fp},RepL K Z H m ts xs G->xs.length=ts.length
|[],_,_,h=>by rw[show _=[] from h];rfl
|_::_,_,_,⟨x,r,a,b,e,_,_,_,_,q⟩=>by rw[e,Ki,Ki,RepL.length q]
theorem RepL.get:∀{ts:U T} {xs:U V} {G:Fp} {i:Y} {t:T},RepL K Z H m ts xs G->ts[i]?=O t->∃x,xs[i]?=O x/\Rep K Z H m t x G
|[],_,_,_,_,_,e=>by simp at e
|_::_,_,_,0,_,⟨x,r,a,b,e,c,_,_,p,_⟩,e2=>by rw[M6] at e2;cases e2;exact⟨x,by rw[e];rfl,p.mono c⟩
|_::_,_,_,i+1,_,⟨x,r,a,b,e,_,d,_,_,q⟩,e2=>by rw[Ld] at e2;obtain⟨y,f,p⟩:=RepL.get q e2;exact⟨y,by rw[e,Ld];exact f,p.mono d⟩
theorem RepL.append:∀{ts g:U T} {xs f:U V} {G1 G2 G:Fp},(∀a,G1 a->G a)->(∀a,G2 a->G a)->(∀a,G1 a->¬G2 a)->RepL K Z H m ts xs G1->RepL K Z H m g f G2->RepL K Z H m (ts++g) (xs++f) G
|[],g,xs,f,G1,G2,G,i,l,d,h,k=>by rw[show xs=[] from h];exact k.mono l
|t::ts,g,xs,f,G1,G2,G,i,l,d,⟨x,r,A,b,e,n,o,u,p,q⟩,k=>by rw[e];refine⟨x,r++f,A,λa=>b a\/G2 a,rfl,λa c=>i a<|n a c,λa c=>c.elim (λz=>i a<|o a z)<|l a,λa c s=>s.elim (u a c)<|d a<|n a c,p,?_⟩;exact RepL.append (λa z=>.inl z) (λa z=>.inr z) (λa c=>d a<|o a c) q k
theorem RepL.one {x:V}(p:Rep K Z H m t x G):RepL K Z H m [t] [x] G:=⟨x,[],G,λ_=>QX,rfl,λ_ h=>h,λ_ h=>h.elim,λ_ _ h=>h,p,rfl⟩
theorem RepL.take:∀{ts:U T} {xs:U V} {G:Fp} (n:Y),RepL K Z H m ts xs G->RepL K Z H m (ts.take n) (xs.take n) G
|[],_,_,n,h=>by rw[show _=[] from h,N2,N2];rfl
|_::_,_,_,0,h=>rfl
|_::_,_,_,n+1,⟨x,r,A,a,e,b,c,d,p,q⟩=>by rw[e];exact⟨x,r.take n,A,a,rfl,b,c,d,p,RepL.take n q⟩
theorem RepL.drop:∀{ts:U T} {xs:U V} {G:Fp} (n:Y),RepL K Z H m ts xs G->RepL K Z H m (ts.drop n) (xs.drop n) G
|[],_,_,n,h=>by rw[show _=[] from h,Pd,Pd];rfl
|_::_,_,_,0,h=>h
|_::_,_,_,n+1,⟨x,r,A,a,e,c,b,d,p,q⟩=>by rw[e];exact(RepL.drop n q).mono b
theorem Rep.leaf {m':Md}(c:∀a o u,H a=O (.frz o u)->H' a=O (.frz o u))(b:t.leaf=JZ)(h:Rep K Z H m t v G):Rep K Z' H' m' t v G':=by
 cases t with
 |non=>exact h
 |bl _=>exact h
 |int _=>exact h
 |str _=>exact h
 |scr _=>obtain⟨a,e,l,q⟩:=h;exact⟨a,e,l,q.keep c⟩
 |_=>cases b
theorem RepL.leaves {m':Md}(d:∀a o u,H a=O (.frz o u)->H' a=O (.frz o u)):∀{ts:U T} {xs:U V} {G G':Fp},leaves ts=JZ->RepL K Z H m ts xs G->RepL K Z' H' m' ts xs G'
|[],_,_,_,_,h=>h
|t::ts,_,_,G',f,⟨x,r,A,b,e,g,i,k,p,q⟩=>by have c:(t.leaf&&ts.all T.leaf)=true:=f;rw[Kt] at c;exact⟨x,r,λ_=>QX,λ_=>QX,e,λ_ z=>z.elim,λ_ z=>z.elim,λ_ z=>z.elim,p.leaf d c.1,RepL.leaves d c.2 q⟩
noncomputable def no:Fp:=λ_=>QX
mutual
theorem Rep.sh:∀{m:Md} {t:T} {v:V} {G:Fp},Rep K Z H m t v G->Rep K (λa=>Z a\/G a) H .s t v no
|_,.non,_,_,h=>h
|_,.bl _,_,_,h=>h
|_,.int _,_,_,h=>h
|_,.str _,_,_,h=>h
|m,.tup ts,v,G,⟨a,xs,e,q,l,r⟩=>⟨a,xs,e,q,l,RepL.sh r⟩
| m,.lst ts,v,G,⟨a,xs,e,l,q,r⟩=>⟨a,xs,e,l,by
  cases m with
  |s=>exact⟨.inl q.1,q.2⟩
  |d=>exact⟨.inr q.1,q.2⟩
  |o m=>exact⟨.inr q.1,q.2⟩,(RepL.zmono (λb hb=>hb.elim .inl λz=>.inr z.1)<|RepL.sh r).mono λ_ z=>z.elim⟩
| m,.dct ks vs,v,G,⟨a,xs,e,l,q,n,hl,r⟩=>⟨a,xs,e,l,by
  cases m with
  |s=>exact⟨.inl q.1,q.2⟩
  |d=>exact⟨.inr q.1,q.2⟩
  |o m=>exact⟨.inr q.1,q.2⟩,n,hl,RepL.zmono (λb hb=>hb.elim .inl λz=>z.elim)<|RepL.sh r⟩
|_,.ins _ _ _,_,_,⟨ne,a,dx,C,xs,e,z1,z2,h1,h2,l,n,r⟩=>⟨(λz=>by cases z),a,dx,C,xs,e,.inl z1,.inl z2,h1,h2,l,n,RepL.zmono (λb hb=>hb.elim .inl λz=>z.elim)<|RepL.sh r⟩
|_,.gone,_,_,h=>h
|_,.scr _,_,_,h=>h
theorem RepL.sh:∀{m:Md} {ts:U T} {xs:U V} {G:Fp},RepL K Z H m ts xs G->RepL K (λa=>Z a\/G a) H .s ts xs no
|_,[],_,_,h=>h
|m,t::ts,xs,G,⟨x,r,G1,G2,e,h1,h2,hd,p,q⟩=>⟨x,r,no,no,e,λ_ z=>z,λ_ z=>z,λ_ z _=>z,Rep.zmono (λb hb=>hb.imp id (h1 b))<|Rep.sh p,RepL.zmono (λb hb=>hb.imp id (h2 b))<|RepL.sh q⟩
end
theorem Jt:∀a:Md,a.le .d=JZ
|.s=>rfl | .d=>rfl | .o _=>rfl
theorem jy:∀a:Md,a.le a=JZ
|.s=>rfl | .d=>rfl | .o a=>jy a
theorem le_trans:∀{a b c:Md},a.le b=JZ->b.le c=JZ->a.le c=JZ
|.s,_,.s,_,_=>rfl
|.s,_,.d,_,_=>rfl
|.s,_,.o _,_,_=>rfl
|.o a,.o b,.o c,h,k=>le_trans (a:=a) (b:=b) (c:=c) h k
|.o a,.o b,.d,h,k=>rfl
|.o a,.d,.d,h,k=>rfl
|.d,.d,.d,_,_=>rfl
|.d,.s,_,h,_=>by cases h
|.d,.o _,_,h,_=>by cases h
|.o _,.s,_,h,_=>by cases h
|.o _,.o _,.s,_,k=>by cases k
|.o _,.d,.s,_,k=>by cases k
|.o _,.d,.o _,_,k=>by cases k
|.d,.d,.s,_,k=>by cases k
|.d,.d,.o _,_,k=>by cases k
theorem c5:∀a b:Md,(a.meet b).le a=JZ/\(a.meet b).le b=JZ
|.s,.s=>⟨rfl,rfl⟩
|.s,.d=>⟨rfl,rfl⟩
|.s,.o _=>⟨rfl,rfl⟩
|.d,.s=>⟨rfl,rfl⟩
|.d,.d=>⟨rfl,rfl⟩
|.d,.o b=>⟨rfl,jy b⟩
|.o _,.s=>⟨rfl,rfl⟩
|.o a,.d=>⟨jy a,rfl⟩
|.o a,.o b=>c5 a b
theorem uc:∀{a b:Md},a.le b=JZ->a.kid.le b.kid=JZ
|.s,.s,_=>rfl
|.s,.d,_=>rfl
|.s,.o _,_=>by first|rfl|exact(by cases ‹Md›<;>rfl)
|.o a,.o b,h=>h
|.o a,.d,_=>Jt a
|.d,.d,_=>rfl
|.d,.s,h=>by cases h
|.d,.o _,h=>by cases h
|.o _,.s,h=>by cases h
theorem fx:∀a:Md,a.up.kid=a
|.s=>rfl | .d=>rfl | .o _=>rfl
theorem dD (a:Md):a.up≠.s:=by cases a<;>intro h<;>cases h
theorem LstR.own {a:QF}(b:m≠.s):LstR K Z H G a xs m ↔ G a/\H a=O (.lst xs):=by
 cases m with
 |s=>exact QL rfl b
 |d=>exact Iff.rfl
 |o m=>exact Iff.rfl
abbrev cM (Z G G':Fp):Fp:=λa=>Z a\/(G a/\¬G' a)
mutual
theorem Rep.weak:∀{m m':Md} {t:T} {v:V} {G:Fp},m'.le m=JZ->Rep K Z H m t v G->∃G',(∀a,G' a->G a)/\Rep K (cM Z G G') H m' t v G'
|m,m',.non,_,G,_,h=>⟨G,λ_ z=>z,h⟩
|m,m',.bl _,_,G,_,h=>⟨G,λ_ z=>z,h⟩
|m,m',.int _,_,G,_,h=>⟨G,λ_ z=>z,h⟩
|m,m',.str _,_,G,_,h=>⟨G,λ_ z=>z,h⟩
|m,m',.scr _,_,G,_,h=>⟨G,λ_ z=>z,h⟩
|m,m',.tup ts,v,G,hm,⟨a,xs,e,q,l,r⟩=>by obtain⟨G',h1,h2⟩:=RepL.weak (uc hm) r;exact⟨G',h1,a,xs,e,q,l,h2⟩
| m,m',.lst ts,v,G,hm,h=>by
 cases m' with
 |s=>exact⟨no,λ_ z=>z.elim,(Rep.sh h).zmono λa ha=>ha.imp id λz=>⟨z,λq=>q⟩⟩
 |d=>
  cases m with
  |s=>cases hm
  |o _=>cases hm
  |d=>exact⟨G,λ_ z=>z,h.zmono λ_ z=>.inl z⟩
 |o k=>
  have hne:m≠.s:=by rintro rfl;cases hm
  obtain⟨a,xs,e,l,q,r⟩:=h;rw[LstR.own hne] at q;obtain⟨G',h1,h2⟩:=RepL.weak (uc hm) r;refine⟨λb=>G' b\/b=a,λb hb=>hb.elim (λz=>(h1 b z).1) λz=>z ▸ q.1,a,xs,e,l,⟨.inr rfl,q.2⟩,?_⟩;refine(h2.zmono λb hb=>?_).mono λb hb=>⟨.inl hb,(h1 b hb).2⟩;rcases hb with z|⟨⟨z1,z2⟩,z3⟩
  .exact .inl z
  .exact .inr ⟨z1,λq=>q.elim z3 z2⟩
| m,m',.dct ks vs,v,G,hm,h=>by
 cases m' with
 |s=>exact⟨no,λ_ z=>z.elim,(Rep.sh h).zmono λa ha=>ha.imp id λz=>⟨z,λq=>q⟩⟩
 |d=>
  cases m with
  |s=>cases hm
  |o _=>cases hm
  |d=>exact⟨G,λ_ z=>z,h.zmono λ_ z=>.inl z⟩
 |o k=>
  obtain⟨a,xs,e,l,q,n,hl,r⟩:=h;cases m with
  |s=>cases hm
  |d=>exact⟨G,λ_ z=>z,a,xs,e,l,q,n,hl,RepL.zmono (λb hb=>hb.elim .inl λz=>z.elim)<|RepL.sh r⟩
  |o k'=>exact⟨G,λ_ z=>z,a,xs,e,l,q,n,hl,RepL.zmono (λb hb=>.inl hb) r⟩
|m,m',.ins _ _ _,v,G,hm,⟨ne,a,dx,C,xs,e,z1,z2,h1,h2,l,n,r⟩=>⟨G,λ_ z=>z,(λz=>ne<|by subst z;cases m<;>first|rfl|cases hm),a,dx,C,xs,e,.inl z1,.inl z2,h1,h2,l,n,RepL.zmono (λb hb=>.inl hb) r⟩
|m,m',.gone,_,G,_,h=>⟨G,λ_ z=>z,h⟩
theorem RepL.weak:∀{m m':Md} {ts:U T} {xs:U V} {G:Fp},m'.le m=JZ->RepL K Z H m ts xs G->∃G',(∀a,G' a->G a)/\RepL K (cM Z G G') H m' ts xs G'
|m,m',[],_,G,_,h=>⟨G,λ_ z=>z,h⟩
|m,m',t::ts,xs,G,hm,⟨x,r,G1,G2,e,h1,h2,hd,p,q⟩=>by
 obtain⟨A,a1,a2⟩:=Rep.weak hm p;obtain⟨B,b1,b2⟩:=RepL.weak hm q;refine⟨λb=>A b\/B b,λb hb=>hb.elim (λz=>h1 b<|a1 b z) λz=>h2 b<|b1 b z,x,r,A,B,e,λ_ z=>.inl z,λ_ z=>.inr z,λb za zb=>hd b (a1 b za)<|b1 b zb,?_,?_⟩
 .refine a2.zmono λb hb=>hb.imp id λz=>⟨h1 b z.1,λq=>q.elim z.2 λw=>hd b z.1<|b1 b w⟩
 .refine b2.zmono λb hb=>hb.imp id λz=>⟨h2 b z.1,λq=>q.elim (λw=>hd b (a1 b w) z.1) z.2⟩
end
def RepW (K:J2)(Z:Fp)(H:Hp):U W->U V->Fp->Prop
|[],xs,_=>xs=[]
|w::d,xs,G=>∃x r b c,xs=x::r/\(∀a,b a->G a)/\(∀a,c a->G a)/\(∀a,b a->¬c a)/\Rep K Z H w.1 w.2 x b/\RepW K Z H d r c
theorem RepW.length:∀{a:U W} {xs:U V} {G:Fp},RepW K Z H a xs G->xs.length=a.length
|[],_,_,h=>by rw[show _=[] from h];rfl
|_::_,_,_,⟨x,r,b,c,e,_,_,_,_,q⟩=>by rw[e,Ki,Ki,RepW.length q]
theorem RepW.mono:∀{c:U W} {xs:U V} {G G':Fp},(∀a,G a->G' a)->RepW K Z H c xs G->RepW K Z H c xs G'
|[],_,_,_,_,h=>h
|_::_,_,_,_,w,⟨x,r,d,f,e,g,i,k,p,q⟩=>⟨x,r,d,f,e,λa b=>w a<|g a b,λa b=>w a<|i a b,k,p,q⟩
theorem RepW.keep (s:Stay Z H H')(z:∀a,Z a->Z' a):∀{f:U W} {xs:U V} {G:Fp},(∀a o,G a->H a=O o->H' a=O o)->RepW K Z H f xs G->RepW K Z' H' f xs G
|[],_,_,_,h=>h
|_::_,_,_,g,⟨x,r,i,k,e,c,d,l,p,q⟩=>⟨x,r,i,k,e,c,d,l,p.keep s z λa o b=>g a o<|c a b,RepW.keep s z (λa o b=>g a o<|d a b) q⟩
theorem RepW.append:∀{s g:U W} {xs f:U V} {G1 G2 G:Fp},(∀a,G1 a->G a)->(∀a,G2 a->G a)->(∀a,G1 a->¬G2 a)->RepW K Z H s xs G1->RepW K Z H g f G2->RepW K Z H (s++g) (xs++f) G
|[],g,xs,f,G1,G2,G,i,l,d,h,k=>by rw[show xs=[] from h];exact k.mono l
|t::ts,g,xs,f,G1,G2,G,i,l,d,⟨x,r,A,b,e,n,o,w,p,q⟩,k=>by rw[e];refine⟨x,r++f,A,λa=>b a\/G2 a,rfl,λa c=>i a<|n a c,λa c=>c.elim (λz=>i a<|o a z)<|l a,λa c u=>u.elim (w a c)<|d a<|n a c,p,?_⟩;exact RepW.append (λa z=>.inl z) (λa z=>.inr z) (λa c=>d a<|o a c) q k
theorem RepW.one {w:W}{x:V}(p:Rep K Z H w.1 w.2 x G):RepW K Z H [w] [x] G:=⟨x,[],G,no,rfl,λ_ h=>h,λ_ h=>h.elim,λ_ _ h=>h,p,rfl⟩
theorem gO:∀{a:U W} {w:W},w∈a->(gK a).le (lf w.1 w.2)=JZ
|u::a,w,h=>by
 rcases Kg.mp h with z|z
 .subst z;exact(c5 _ _).1
 .exact le_trans (c5 _ _).2 (gO z)
theorem Rep.lf (h:Rep K Z H m t v G):Rep K Z H (M.lf m t) t v G:=by
 unfold M.lf;split
 .rename_i a;exact h.leaf (λ_ _ _ q=>q) a
 .exact h
theorem RepW.to {N:Md}:∀{f:U W} {xs:U V} {G:Fp},(∀w∈f,N.le (M.lf w.1 w.2)=JZ)->RepW K Z H f xs G->∃G',(∀a,G' a->G a)/\RepL K (cM Z G G') H N (aO f) xs G'
|[],_,G,_,h=>⟨G,λ_ z=>z,h⟩
|w::f,xs,G,o,⟨x,r,L,P,e,l,n,k,p,q⟩=>by
 obtain⟨A,g,s⟩:=Rep.weak (o w Ka) p.lf;obtain⟨c,i,y⟩:=RepW.to (λu D=>o u<|Ke _ D) q;refine⟨λb=>A b\/c b,λb d=>d.elim (λz=>l b<|g b z) λz=>n b<|i b z,x,r,A,c,e,λ_ z=>.inl z,λ_ z=>.inr z,λb F I=>k b (g b F)<|i b I,?_,?_⟩
 .refine s.zmono λb d=>d.imp id λz=>⟨l b z.1,λq=>q.elim z.2 λw=>k b z.1<|i b w⟩
 .refine y.zmono λb d=>d.imp id λz=>⟨n b z.1,λq=>q.elim (λw=>k b (g b w) z.1) z.2⟩
end
noncomputable def OO:=U V ⊕ U (Key×V)
def OO.ho:OO->HO
|.inl b=>.lst b
|.inr a=>.dK a
def Own (Z:Fp)(H:Hp)(F:Fp):Prop:=∀a,F a->¬Z a/\∃b:OO,H a=O b.ho
theorem ke {b:U V}{a:OO}(e:O (HO.tup b)=O a.ho):QX:=by cases a<;>cases e
theorem d9 {o:PySem.Obj}{u:HO}{a:OO}(e:O (HO.frz o u)=O a.ho):QX:=by cases a<;>cases e
structure Step (Z:Fp)(H:Hp)(F:Fp)(Z':Fp)(H':Hp)(F':Fp):Prop where
 keep:∀a o,H a=O o->¬F a->H' a=O o
 zm:∀a,Z a->Z' a
 zn:∀a,Z' a->Z a\/F a\/H a=J
 fn:∀a,F' a->F a\/H a=J
 al:∀a,H a≠J->H' a≠J
 za:(∀a,Z a->H a≠J)->∀a,Z' a->H' a≠J
section
variable {K:J2}{Z Z1 Z2 Z':Fp}{H H1 H2 H':Hp}{F F1 F2 F' R G:Fp}
theorem Step.refl (Z:Fp)(H:Hp)(F:Fp):Step Z H F Z H F:=⟨λ_ _ h _=>h,λ_ h=>h,λ_ h=>.inl h,λ_ h=>.inl h,λ_ h=>h,λz=>z⟩
theorem Step.trans (s:Step Z H F Z1 H1 F1)(t:Step Z1 H1 F1 Z2 H2 F2):Step Z H F Z2 H2 F2 where
 keep:=λa o h n=>t.keep a o (s.keep a o h n) λq=>(s.fn a q).elim n λz=>by rw[h] at z;cases z
 zm:=λa h=>t.zm a<|s.zm a h
 zn:=λa h=>by
  rcases t.zn a h with q|q|q
  .exact s.zn a q
  .exact .inr (s.fn a q)
  .exact .inr (.inr (by
    cases e:H a with
    |none=>rfl
    |some o=>exact QL q<|s.al a<|by rw[e];simp))
 fn:=λa h=>by
  rcases t.fn a h with q|q
  .exact s.fn a q
  .exact .inr (by
    cases e:H a with
    |none=>rfl
    |some o=>exact QL q<|s.al a<|by rw[e];simp)
 al:=λa h=>t.al a<|s.al a h
 za:=λz=>t.za<|s.za z
theorem Step.frame (R:Fp)(s:Step Z H F Z' H' F'):Step Z H (λa=>F a\/R a) Z' H' (λa=>F' a\/R a) where
 keep:=λa o h n=>s.keep a o h λq=>n<|.inl q
 zm:=s.zm
 zn:=λa h=>(s.zn a h).imp id λq=>q.imp .inl id
 fn:=λa h=>h.elim (λq=>(s.fn a q).imp .inl id) λq=>.inl<|.inr q
 al:=s.al
 za:=s.za
theorem Step.mono (s:Step Z H F Z' H' F')(b:∀a,F a->F1 a)(c:∀a,F2 a->F' a):Step Z H F1 Z' H' F2 where
 keep:=λa o h n=>s.keep a o h λq=>n<|b a q
 zm:=s.zm
 zn:=λa h=>(s.zn a h).imp id λq=>q.imp (b a) id
 fn:=λa h=>(s.fn a<|c a h).imp (b a) id
 al:=s.al
 za:=s.za
theorem Own.stay (o:Own Z H F)(s:Step Z H F Z' H' F'):Stay Z H H':=by
 refine⟨λa u c h=>s.keep a u h λq=>(o a q).1 c,λa d h=>?_,λa u v h=>s.keep a _ h λq=>?_⟩
 .rcases h with h | ⟨u,h⟩
  .refine .inl (s.keep a _ h fun q=>?_);obtain⟨_,b,e⟩:=o a q;rw[h] at e;exact ke e
  .refine .inr ⟨u,s.keep a _ h fun q=>?_⟩;obtain⟨_,b,e⟩:=o a q;rw[h] at e;exact d9 e
 .obtain ⟨_,b,e⟩:=o a q;rw[h] at e;exact d9 e
theorem Rep.frame {m:Md}{t:T}{v:V}(o:Own Z H F)(s:Step Z H F Z' H' F')(d:∀a,G a->¬F a)(h:Rep K Z H m t v G):Rep K Z' H' m t v G:=h.keep (o.stay s) s.zm λa u b e=>s.keep a u e<|d a b
theorem RepW.frame {b:U W}{c:U V}(o:Own Z H F)(s:Step Z H F Z' H' F')(d:∀a,G a->¬F a)(h:RepW K Z H b c G):RepW K Z' H' b c G:=h.keep (o.stay s) s.zm λa u f e=>s.keep a u e<|d a f
theorem Own.frame (o:Own Z H G)(s:Step Z H F Z' H' F')(d:∀a,G a->¬F a):Own Z' H' G/\∀a,G a->¬F' a:=by
 refine⟨λa b=>?_,λa b q=>?_⟩
 .obtain ⟨c,f,e⟩:=o a b;refine⟨λq=>?_,f,s.keep a _ e (d a b)⟩;rcases s.zn a q with z|z|z
  .exact c z
  .exact d a b z
  .rw[e] at z;cases z
 .obtain ⟨c,f,e⟩:=o a b;rcases s.fn a q with z|z
  .exact d a b z
  .rw[e] at z;cases z
end
abbrev Fps:=Y->Fp
def tot (b:Fps):Fp:=λa=>∃i,b i a
structure Gd (Z:Fp)(H:Hp)(Fs:Fps):Prop where
 own:Own Z H (tot Fs)
 dis:∀i j a,Fs i a->Fs j a->i=j
 zal:∀a,Z a->H a≠J
structure Cf where
 sl:Y->j Y
 pv:Y->j V
def IE (K:J2)(b:Cf)(Z:Fp)(H:Hp)(d:Env)(e:L2.St)(c:Fps):Prop:=
 ∀i m t,rd d i=O (m,t)->∃v,Rep K Z H m t v (c i)/\(∀a,b.sl i=O a->e[a]?=O (O v))/\∀u,b.pv i=O u->v=u
structure At (K:J2)(sl:Cf)(σ:L2.St)(Z:Fp)(H:Hp)(Fs:Fps)(η:Env)(G:Fp):Prop where
 gd:Gd Z H Fs
 env:IE K sl Z H η σ Fs
 own:Own Z H G
 dis:∀a,G a->¬tot Fs a
 lk:∀i u j,sl.pv i=O u->sl.sl i=O j->σ[j]?=O (O u)
 ln:∀i j,sl.sl i=O j->j < σ.length
section
variable {K:J2}{sl:Cf}{σ:L2.St}{Z Z':Fp}{H H':Hp}{Fs Fs':Fps}{η η':Env}{G G' R:Fp}
theorem At.frame (a:At K sl σ Z H Fs η R)(b:At K sl σ Z' H' Fs' η' G)(s:Step Z H (tot Fs) Z' H' λc=>tot Fs' c\/G c):
  At K sl σ Z' H' Fs' η' (λc=>R c\/G c)/\Step Z H (λc=>tot Fs c\/R c) Z' H' (λc=>tot Fs' c\/(R c\/G c))/\∀c,R c->¬G c:=by
 have o:=a.own.frame s a.dis;refine⟨⟨b.gd,b.env,λc d=>d.elim (o.1 c)<|b.own c,λc d=>d.elim (λz q=>o.2 c z<|.inl q)<|b.dis c,b.lk,b.ln⟩,(s.frame R).mono (λ_ z=>z) λc d=>?_,λc z q=>o.2 c z<|.inr q⟩;rcases d with z|z|z
 .exact .inl (.inl z)
 .exact .inr z
 .exact .inl (.inr z)
end
section
variable {K:J2}{sl:Cf}{sf:Y->j Y}{C:Call}{σ:L2.St}{Z Z' Z1:Fp}{H H' H1:Hp}{Fs Fs' Fs1:Fps}{η η' η1:Env}{G G' R F:Fp}
theorem At.mono (a:At K sl σ Z H Fs η G)(h:∀c,G' c->G c):At K sl σ Z H Fs η G':=⟨a.gd,a.env,λc b=>a.own c<|h c b,λc b=>a.dis c<|h c b,a.lk,a.ln⟩
theorem At.bare (a:At K sl σ Z H Fs η G):At K sl σ Z H Fs η no:=a.mono λ_ z=>z.elim
def wE (K:J2)(sl:Y->j Y)(C:Call)(e:E):TE:=λσ H Q=>∃b Z Fs η w η',At K ⟨sl,b⟩ σ Z H Fs η no/\evE C e η=.ok (w,η') /\
 ∀v Z' H' Fs' G,At K ⟨sl,b⟩ σ Z' H' Fs' η' G->Rep K Z' H' w.1 w.2 v G->Step Z H (tot Fs) Z' H' (λa=>tot Fs' a\/G a)->Q v H'
def wL (K:J2)(sl:Y->j Y)(C:Call)(e:U E):TA:=λσ H Q=>∃b Z Fs η d η',At K ⟨sl,b⟩ σ Z H Fs η no/\evL C e η=.ok (d,η') /\
 ∀c Z' H' Fs' G,At K ⟨sl,b⟩ σ Z' H' Fs' η' G->RepW K Z' H' d c G->Step Z H (tot Fs) Z' H' (λa=>tot Fs' a\/G a)->Q c H'
theorem iB {e:E}{w:W}{Q:VK}(A:At K sl σ Z H Fs η R)(ev:evE C e η=.ok (w,η'))
  (k:∀ v Z' H' Fs' G,At K sl σ Z' H' Fs' η' (fun c=>R c\/G c)->Rep K Z' H' w.1 w.2 v G->(∀ c,R c->¬ G c)->Step Z H (tot Fs) Z' H' (fun a=>tot Fs' a\/G a) ->
   Step Z H (λc=>tot Fs c\/R c) Z' H' (λc=>tot Fs' c\/(R c\/G c))->Q v H'):wE K sl.sl C e σ H Q:=
 ⟨sl.pv,Z,Fs,η,w,η',A.bare,ev,fun v Z' H' Fs' G b r s=>by
  obtain⟨d,f,g⟩:=A.frame b s;exact k v Z' H' Fs' G d r g s f⟩
theorem IL {e:U E}{d:U W}{Q:U V->Hp->Prop}(A:At K sl σ Z H Fs η R)(ev:evL C e η=.ok (d,η'))
  (k:∀ f Z' H' Fs' G,At K sl σ Z' H' Fs' η' (fun c=>R c\/G c)->RepW K Z' H' d f G->(∀ c,R c->¬ G c)->Step Z H (tot Fs) Z' H' (fun a=>tot Fs' a\/G a) ->
   Step Z H (λc=>tot Fs c\/R c) Z' H' (λc=>tot Fs' c\/(R c\/G c))->Q f H'):wL K sl.sl C e σ H Q:=
 ⟨sl.pv,Z,Fs,η,d,η',A.bare,ev,fun v Z' H' Fs' G b r s=>by
  obtain⟨g,h,i⟩:=A.frame b s;exact k v Z' H' Fs' G g r i s h⟩
theorem aa {c d:Type}{r:Res c}{f:c->Res d}{b:d}(h:r.bind f=.ok b):∃a,r=.ok a/\f a=.ok b:=by
 cases r with
 |ok a=>exact⟨a,rfl,h⟩
 |ex t=>cases h
 |no=>cases h
theorem ay {c:Type}{η:Env}{o:j c}{b:c×Env}(h:ret η o=.ok b):∃a,o=O a/\b=(a,η):=by
 cases o with
 |none=>cases h
 |some a=>exact⟨a,rfl,by cases h;rfl⟩
theorem cZ {c:Type}{o:j c}{b:c}(h:ofO o=.ok b):o=O b:=by
 cases o with
 |none=>cases h
 |some a=>cases h;rfl
theorem aL {e:E}{a:U E}{c:U W}(h:evL C (e::a) η=.ok (c,η')):∃w η1 b,evE C e η=.ok (w,η1)/\evL C a η1=.ok (b,η')/\c=w::b:=by obtain⟨⟨w,η1⟩,d,f⟩:=aa<|show(evE C e η).bind (bo<|evL C a)=_ from h;obtain⟨⟨b,k⟩,g,i⟩:=aa<|show(evL C a η1).bind (oP w)=_ from f;cases i;exact⟨w,η1,b,d,g,rfl⟩
theorem gN {e:E}{b:U E}{c:U W}(l:∀i,e≠.io i)(h:evA C (e::b) η=.ok (c,η')):∃w η1 a,evE C e η=.ok (w,η1)/\evA C b η1=.ok (a,η')/\c=w::a:=by rw[C2 l] at h;obtain⟨⟨w,η1⟩,d,f⟩:=aa h;obtain⟨⟨a,m⟩,g,k⟩:=aa<|show(evA C b η1).bind (oP w)=_ from f;cases k;exact⟨w,η1,a,d,g,rfl⟩
theorem jC {i:Y}{b:U E}{c:U W}(h:evA C (.io i::b) η=.ok (c,η')):∃a η1 w,evA C b η=.ok (a,η1)/\rd η1 i=O w/\c=w::a/\η'=del η1 i:=by obtain⟨⟨a,η1⟩,d,e⟩:=aa<|show(evA C b η).bind (kIo i)=_ from h;obtain⟨w,f,g⟩:=aa<|show(ofO<|rd η1 i).bind (λw=>.ok (w::a,del η1 i))=_ from e;cases g;exact⟨a,η1,w,d,cZ f,rfl,rfl⟩
theorem Fg (e:E):(∃i,e=.io i)\/∀i,e≠.io i:=by
 cases e with
 |io i=>exact .inl ⟨i,rfl⟩
 |_=>exact .inr λ_ z=>by cases z
theorem zj {e:E}{f:U E}(σ:L2.St)(H:Hp)(Q:U V->Hp->Prop)(h:wL K sf C (e::f) σ H Q):pf (wE K sf C e) (wL K sf C f) σ H Q:=by obtain⟨D,Z,Fs,η,L,η',A,ev,k⟩:=h;obtain⟨w,η1,I,p,r,rfl⟩:=aL ev;refine iB A p λx Z1 H1 Fs1 d c s _ u _=>?_;have a:=c.mono (G':=d) λ_ z=>.inr z;refine IL a r λg n m b l i t o v y=>?_;refine k (x::g) n m b _ i ⟨x,g,d,l,rfl,λ_ z=>.inl z,λ_ z=>.inr z,o,s.frame c.gd.own v a.dis,t⟩ ?_;exact u.trans y
theorem B9 (σ:L2.St)(H:Hp)(Q:U V->Hp->Prop)(h:wL K sf C [] σ H Q):EA σ H Q:=by obtain⟨c,Z,Fs,η,d,η',A,ev,k⟩:=h;cases ev;exact k [] Z H Fs no A rfl ((Step.refl _ _ _).mono (λ_ z=>z) λa b=>b.elim id λz=>z.elim)
def Out (K:J2)(Z:Fp)(H:Hp)(G:Fp)(w:W)(Q:VK):Prop:=∀v Z' H' G',Rep K Z' H' w.1 w.2 v G'->Own Z' H' G'->Step Z H G Z' H' G'->Q v H'
theorem At.op (A:At K sl σ Z H Fs η G)(o:Own Z' H' G')(s:Step Z H G Z' H' G'):At K sl σ Z' H' Fs η G'/\Step Z H (λc=>tot Fs c\/G c) Z' H' (λc=>tot Fs c\/G' c):=by
 have d:∀a,tot Fs a->¬G a:=λa h q=>A.dis a q h;have f:=A.gd.own.frame s d;refine⟨⟨⟨f.1,A.gd.dis,s.za A.gd.zal⟩,λi m t e=>?_,o,λa b q=>f.2 a q b,A.lk,A.ln⟩,?_⟩
 .obtain ⟨v,r,g⟩:=A.env i m t e;exact⟨v,r.frame A.own s λa b=>d a ⟨i,b⟩,g⟩
 .refine(s.frame<|tot Fs).mono (λ_ z=>z.symm) λ_ z=>z.symm
theorem cy {w:W}{Q:VK}(A:At K sl σ Z1 H1 Fs1 η1 G)(s:Step Z H F Z1 H1 λa=>tot Fs1 a\/G a)
  (k:∀v Z' H' Fs' G,At K sl σ Z' H' Fs' η1 G->Rep K Z' H' w.1 w.2 v G->Step Z H F Z' H' (λa=>tot Fs' a\/G a)->Q v H'):Out K Z1 H1 G w Q:=λv Z' H' G' r o t=>by
 obtain⟨b,u⟩:=A.op o t;exact k v Z' H' Fs1 G' b r<|s.trans u
def Loc (K:J2)(n:Y)(o:Op)(h:QJ)(r:U V->Hp->VK->Prop):Prop:=∀(b:U W) (w:W) (c:U V) (Z:Fp) (H:Hp) (G:Fp) (Q:VK),b.length=n->oSem o h b=O w->RepW K Z H b c G->Own Z H G->(∀a,Z a->H a≠J)->Out K Z H G w Q->r c H Q
theorem dk {o:Op}{h:QJ}{c:U E}{w:W}(e:evE C (.op o h c) η=.ok (w,η')):∃b,evL C c η=.ok (b,η')/\oSem o h b=O w:=by obtain⟨⟨b,η1⟩,d,f⟩:=aa<|show(evL C c η).bind (kOp o h)=_ from e;obtain⟨a,g,i⟩:=ay<|show ret η1 (oSem o h b)=_ from f;cases i;exact⟨b,d,g⟩
theorem fU:∀{a:U E} {η η':Env} {b:U W},evL C a η=.ok (b,η')->b.length=a.length
|[],_,_,_,h=>by cases h;rfl
|e::a,_,_,_,h=>by obtain⟨w,η1,d,_,c,rfl⟩:=aL h;rw[Ki,Ki,fU c]
theorem cf {n:Y}{o:Op}{h:QJ}{b:U E}{r:U V->Hp->VK->Prop}(l:Loc K n o h r)(f:b.length=n)(σ:L2.St)(H:Hp)(Q:VK)(g:wE K sf C (.op o h b) σ H Q):tCB r (wL K sf C b) σ H Q:=by obtain⟨i,Z,Fs,η,w,η',A,ev,k⟩:=g;obtain⟨d,c,e⟩:=dk ev;exact⟨i,Z,Fs,η,d,η',A,c,λm Z' H' Fs' G a r s=>l d w m Z' H' G Q ((fU c).trans f) e r a.own a.gd.zal<|cy a s k⟩
theorem Bt {o:Op}{h:QJ}{a:E}{r:V->Hp->VK->Prop}(l:Loc K 1 o h λi H Q=>∀x,i=[x]->r x H Q)(σ:L2.St)(H:Hp)(Q:VK)(f:wE K sf C (.op o h [a]) σ H Q):tUn r (wE K sf C a) σ H Q:=by obtain⟨g,Z,Fs,η,w,η',A,ev,k⟩:=f;obtain⟨n,d,e⟩:=dk ev;obtain⟨c,η1,m,e1,e2,rfl⟩:=aL d;cases e2;refine⟨g,Z,Fs,η,c,η',A,e1,λx Z' H' Fs' G b r s=>l [c] w [x] Z' H' G Q rfl e (RepW.one r) b.own b.gd.zal (cy b s k) x rfl⟩
theorem aI {o:Op}{h:QJ}{a b:E}{r:R2}(l:Loc K 2 o h λxs H Q=>∀x y,xs=[x,y]->r x y H Q)(σ:L2.St)(H:Hp)(Q:VK)(v:wE K sf C (.op o h [a,b]) σ H Q):tOp r (wE K sf C a) (wE K sf C b) σ H Q:=by obtain⟨pv,Z,Fs,η,w,η',A,ev,k⟩:=v;obtain⟨ws,t,u⟩:=dk ev;obtain⟨wa,η1,P,e1,e2,rfl⟩:=aL t;obtain⟨wb,η2,P,e3,s,rfl⟩:=aL e2;cases s;refine iB A e1 λx Z1 H1 Fs1 f e D _ L _=>?_;have c:=e.mono (G':=f) λ_ z=>.inr z;refine iB c e3 λy n m g i d I p M N=>?_;exact l [wa,wb] w [x,y] n m _ Q rfl u ⟨x,[y],f,i,rfl,λ_ z=>.inl z,λ_ z=>.inr z,p,D.frame e.gd.own M c.dis,RepW.one I⟩ d.own d.gd.zal (cy d (L.trans N) k) x y rfl
theorem bX:Own Z H no:=λ_ z=>z.elim
theorem Step.drop:Step Z H G Z H no:=(Step.refl Z H G).mono (λ_ z=>z) λ_ z=>z.elim
section
variable {Q:VK}{m:Md}{ts:U T}{xs:U V}
theorem aS {i:Int}(k:Out K Z H G (m,.int i) Q):Q (.int i) H:=k _ Z H no rfl bX .drop
theorem cz {b:QJ}(k:Out K Z H G (m,.bl b) Q):Q (.bl b) H:=k _ Z H no rfl bX .drop
theorem fT {x:Str}(k:Out K Z H G (m,.str x) Q)(h:sOk x=JZ):Q (.str x) H:=k _ Z H no ⟨rfl,h⟩ bX .drop
theorem eQ {t:T}{v:V}(o:Own Z H G)(k:Out K Z H G (m,t) Q)(r:Rep K Z H m t v G):Q v H:=k v Z H G r o<|.refl _ _ _
theorem kD {p:QF}{o:HO}(hp:H p=J):Stay Z H (upd H p o):=by
 have b:∀{a u},H a=O u->a≠p:=λ{a u} e z=>by subst z;rw[hp] at e;cases e
 refine⟨λa u _ e=>?_,λa xs e=>?_,λa u v e=>?_⟩
 .rw[ae<|b e];exact e
 .rcases e with e | ⟨u,e⟩
  .exact .inl (by rw[ae<|b e];exact e)
  .exact .inr ⟨u,by rw[ae<|b e];exact e⟩
 .rw[ae<|b e];exact e
theorem gp {p:QF}{o:HO}(hp:H p=J)(k:Own Z H G)(f:∀a,G' a->G a\/a=p)(z:Fp)(g:∀a,Z a->z a)(b:∀a,z a->Z a\/G a):Step Z H G z (upd H p o) G':=by
 have i:∀{a u},H a=O u->a≠p:=λ{a u} e q=>by subst q;rw[hp] at e;cases e
 have d:∀a,H a≠J->upd H p o a≠none:=λa h=>by
  by_cases e:a=p
  .rw[e,au];simp
  .rw[ae e];exact h
 refine⟨λa u e _=>by rw[ae<|i e];exact e,g,λa h=>(b a h).imp id .inl,λa h=>(f a h).imp id λe=>by rw[e];exact hp,d,λq a h=>d a ?_⟩;rcases b a h with c|c
 .exact q a c
 .obtain ⟨_,xs,e⟩:=k a c;rw[e];simp
theorem bh {p:QF}(b:Own Z H G)(o:∀a,Z a->H a≠J)(c:∀a,G' a->G a)(g:xs.length<=LIM)(r:RepL K (cM Z G G') H m.kid ts xs G')(i:m≠.s)(k:Out K Z H G (m,.lst ts) Q)(hp:H p=J):Q (.ref p) (upd H p<|.lst xs):=by
 have d:∀{a u},H a=O u->a≠p:=λ{a u} e q=>by subst q;rw[hp] at e;cases e
 have l:∀a,G' a->a≠p:=λa h=>by obtain⟨_,f,e⟩:=b a<|c a h;exact d e
 refine k _ (cM Z G G') _ (λa=>G' a\/a=p) ⟨p,xs,rfl,g,(LstR.own i).mpr ⟨.inr rfl,au⟩,?_⟩ ?_<|gp hp b (λa h=>h.imp (c a) id) _ (λa h=>.inl h) λa h=>h.imp id MC
 .refine(r.keep (kD hp) (λ_ z=>z) λa u _ e=>by rw[ae<|d e];exact e).mono λa h=>⟨.inl h,l a h⟩
 .rintro a (h | h)
  .obtain ⟨n,f,e⟩:=b a<|c a h;exact⟨λz=>z.elim n λq=>q.2 h,f,by rw[ae<|d e];exact e⟩
  .subst h;refine⟨λz=>z.elim (λq=>o a q hp) λq=>?_,.inl xs,au⟩;obtain⟨_,f,e⟩:=b a q.1;rw[hp] at e;cases e
theorem oV {p:QF}(d:Own Z H G)(b:∀a,G' a->G a)(f:xs.length<=LIM)(r:RepL K (cM Z G G') H m.kid ts xs G')(k:Out K Z H G (m,.tup ts) Q)(hp:H p=J):Q (.ref p) (upd H p<|.tup xs):=by
 have c:∀{a u},H a=O u->a≠p:=λ{a u} e q=>by subst q;rw[hp] at e;cases e
 refine k _ (cM Z G G') _ G' ⟨p,xs,rfl,.inl<|.inl au,f,?_⟩ ?_<|gp hp d (λa h=>.inl<|b a h) _ (λa h=>.inl h) λa h=>h.imp id MC
 .exact r.keep (kD hp) (λ_ z=>z) λa u _ e=>by rw[ae<|c e];exact e
 .intro a h;obtain⟨g,i,e⟩:=d a<|b a h;exact⟨λz=>z.elim g λq=>q.2 h,i,by rw[ae<|c e];exact e⟩
theorem l8 {v:V}{H':Hp}(l:Own Z H G)(i:∀a,G' a->G a)(n:xs.length<=LIM)(r:RepL K (cM Z G G') H m.kid ts xs G')(k:Out K Z H G (m,.tup ts) Q)(d:∀b o,H b=O o->H' b=O o)(s:∃c,v=.ref c/\SqT K H' c xs):Q v H':=by
 obtain⟨c,rfl,p⟩:=s
 have g:∀a,H a≠J->H' a≠none:=λa h=>by
  cases e:H a with
  |none=>exact QL e h
  |some o=>rw[d a o e];simp
 refine k _ (cM Z G G') _ G' ⟨c,xs,rfl,p,n,?_⟩ (λa h=>?_) ⟨λa o e _=>d a o e,λa h=>.inl h,λa h=>h.imp id λq=>.inl q.1,λa h=>.inl<|i a h,g,λq a h=>g a ?_⟩
 .refine r.keep ⟨fun a o _ e=>d a o e,fun a f e=>?_,fun a o u e=>d a _ e⟩ (fun _ z=>z) fun a u _ e=>d a u e;rcases e with e|⟨u,e⟩
  .exact .inl (d a _ e)
  .exact .inr ⟨u,d a _ e⟩
 .obtain ⟨t,f,e⟩:=l a<|i a h;exact⟨λz=>z.elim t λq=>q.2 h,f,d a _ e⟩
 .rcases h with h | h
  .exact q a h
  .obtain ⟨_,f,e⟩:=l a h.1;rw[e];simp
theorem dA {p:QF}{h:QJ}{w:W}(g:Own Z H G)(i:∀a,Z a->H a≠J)(f:xs.length<=LIM)(r:∃G',(∀a,G' a->G a)/\RepL K (cM Z G G') H m ts xs G')(b:newL h m ts=O w)(k:Out K Z H G w Q)(hp:H p=J):Q (.ref p) (upd H p<|.lst xs):=by
 obtain⟨G',l,r⟩:=r;unfold newL at b;split at b
 .split at b
  .rename_i c;cases b;refine bh (m:=.d) (G':=no) g i (λ_ z=>z.elim) f ?_ (by simp) k hp;exact r.leaves (λ_ _ _ e=>e) c
  .cases b
 .cases b;exact bh (m:=m.up) g i l f (by rw[fx];exact r) (dD m) k hp
end
end
section
variable {K:J2}{h:QJ}
theorem dU {d f:Type}{c:U d}{x y:f}(e:c.length=[x,y].length):∃a b,c=[a,b]:=by
 match c,e with
 |[a,b],_=>exact⟨a,b,rfl⟩
theorem FA {c d:Type}{b:U c}{x:d}(e:b.length=[x].length):∃a,b=[a]:=by
 match b,e with
 |[a],_=>exact⟨a,rfl⟩
theorem bY {Z:Fp}{H:Hp}{G:Fp}{u w:W}{x y:V}(r:RepW K Z H [u,w] [x,y] G):∃b c,(∀a,b a->G a)/\(∀a,c a->G a)/\(∀a,b a->¬c a)/\Rep K Z H u.1 u.2 x b/\Rep K Z H w.1 w.2 y c:=by obtain⟨A,t,b,c,e,k,l,d,p,D,v,i,n,e2,g,s,o,q,z⟩:=r;cases e;cases e2;exact⟨b,i,k,λa f=>l a<|g a f,λa f m=>d a f<|g a m,p,q⟩
theorem AV {Z:Fp}{H:Hp}{G:Fp}{w:W}{x:V}(r:RepW K Z H [w] [x] G):Rep K Z H w.1 w.2 x G:=by obtain⟨i,g,b,c,e,a,f,d,p,z⟩:=r;cases e;exact p.mono a
theorem a0 {b:U W}{a:U V}{Z:Fp}{H:Hp}{G:Fp}{w:W}(c:b=[w])(r:RepW K Z H b a G):∃x,a=[x]/\Rep K Z H w.1 w.2 x G:=by subst c;obtain⟨x,hx⟩:=FA (x:=())<|show a.length=[()].length from r.length;subst hx;exact⟨x,rfl,AV r⟩
theorem gY {n:Y}(h:n<=LIM):n<sizeLine:=M9 h<|by decide
theorem br {n:Y}(h:n<=LIM):n<=sizeLine:=Mo<|gY h
theorem cx {n:Y}(h:fits n=JZ):n<=LIM:=QR h
theorem vc {o:Op}{C:Int->Int->Prop}{g:Int->Int->T}(b:∀{u v w:W},oSem o h [u,v]=O w->∃m n i a,u=(m,.int i)/\v=(n,.int a)/\C i a/\w=(.d,g i a))(f:Int->Int->V)(p:∀{Z:Fp} {H:Hp} {G:Fp} {Q:VK} {i a:Int},Out K Z H G (.d,g i a) Q->Q (f i a) H):
  Loc K 2 o h λl H Q=>∀x y,l=[x,y]->rI C f x y H Q:=by
 intro I w l Z H G Q D e r F L k x y hx;subst hx;obtain⟨u,v,rfl⟩:=dU r.length.symm;obtain⟨m,n,i,a,rfl,rfl,c,rfl⟩:=b e;obtain⟨z,A,_,_,_,s,t⟩:=bY r;exact⟨i,a,s,t,c,p k⟩
theorem gU {o:Op}{g:Int->Int->T}(b:∀{u v w:W},oSem o h [u,v]=O w->∃m n i a,u=(m,.int i)/\v=(n,.int a)/\w=(.d,g i a))(c:Int->Int->V)(l:∀{Z:Fp} {H:Hp} {G:Fp} {Q:VK} {i a:Int},Out K Z H G (.d,g i a) Q->Q (c i a) H):
  Loc K 2 o h λf H Q=>∀x y,f=[x,y]->rI0 c x y H Q:=by
 intro F w f Z H G Q A e r D I k x y hx;subst hx;obtain⟨u,v,rfl⟩:=dU r.length.symm;obtain⟨m,n,i,a,rfl,rfl,rfl⟩:=b e;obtain⟨t,z,_,_,_,p,s⟩:=bY r;exact⟨i,a,p,s,l k⟩
theorem Aa {u v w:W}(e:oSem .sub h [u,v]=O w):∃m n i c,u=(m,.int i)/\v=(n,.int c)/\w=(.d,.int<|i-c):=by obtain⟨m,a⟩:=u;obtain⟨n,b⟩:=v;cases a<;>first|(cases e;done)|(cases b<;>first|(cases e;exact⟨_,_,_,_,rfl,rfl,rfl⟩)|cases e)
theorem mN {u v w:W}(e:oSem .lt h [u,v]=O w):∃m n i c,u=(m,.int i)/\v=(n,.int c)/\w=(.d,.bl<|decide (i<c)):=by obtain⟨m,a⟩:=u;obtain⟨n,b⟩:=v;cases a<;>first|(cases e;done)|(cases b<;>first|(cases e;exact⟨_,_,_,_,rfl,rfl,rfl⟩)|cases e)
theorem nU {u v w:W}(e:oSem .le h [u,v]=O w):∃m n i c,u=(m,.int i)/\v=(n,.int c)/\w=(.d,.bl<|decide (i<=c)):=by obtain⟨m,a⟩:=u;obtain⟨n,b⟩:=v;cases a<;>first|(cases e;done)|(cases b<;>first|(cases e;exact⟨_,_,_,_,rfl,rfl,rfl⟩)|cases e)
theorem uP {u v w:W}(e:oSem .gt h [u,v]=O w):∃m n i c,u=(m,.int i)/\v=(n,.int c)/\w=(.d,.bl<|decide (c<i)):=by obtain⟨m,a⟩:=u;obtain⟨n,b⟩:=v;cases a<;>first|(cases e;done)|(cases b<;>first|(cases e;exact⟨_,_,_,_,rfl,rfl,rfl⟩)|cases e)
theorem rh {u v w:W}(e:oSem .ge h [u,v]=O w):∃m n i c,u=(m,.int i)/\v=(n,.int c)/\w=(.d,.bl<|decide (c<=i)):=by obtain⟨m,a⟩:=u;obtain⟨n,b⟩:=v;cases a<;>first|(cases e;done)|(cases b<;>first|(cases e;exact⟨_,_,_,_,rfl,rfl,rfl⟩)|cases e)
theorem sd {u v w:W}(e:oSem .fdiv h [u,v]=O w):∃m n i c,u=(m,.int i)/\v=(n,.int c)/\BZ i c/\w=(.d,.int<|i / c):=by
 obtain⟨m,a⟩:=u;obtain⟨n,b⟩:=v;cases a<;>first|(cases e;done)|(cases b<;>try (cases e;done))
 rename_i i c;rw[vO] at e;split at e
 .rename_i f;rw[Kt,QM,QM] at f;cases e;exact⟨_,_,_,_,rfl,rfl,f,rfl⟩
 .cases e
theorem zh {u v w:W}(e:oSem .mod h [u,v]=O w):∃m n i c,u=(m,.int i)/\v=(n,.int c)/\(0<c)/\w=(.d,.int<|i % c):=by
 obtain⟨m,a⟩:=u;obtain⟨n,b⟩:=v;cases a<;>first|(cases e;done)|(cases b<;>try (cases e;done))
 rename_i i c;rw[Az] at e;split at e
 .rename_i f;rw[QM] at f;cases e;exact⟨_,_,_,_,rfl,rfl,f,rfl⟩
 .cases e
theorem zW {u v w:W}(e:oSem .pow h [u,v]=O w):∃m n i c,u=(m,.int i)/\v=(n,.int c)/\Bn i c/\w=(.d,.int<|i ^ c.toNat):=by
 obtain⟨m,a⟩:=u;obtain⟨n,b⟩:=v;cases a<;>first|(cases e;done)|(cases b<;>try (cases e;done))
 rename_i i c;rw[Gk] at e;split at e
 .rename_i f;rw[Kt,Kt,QM,QM,QM] at f;cases e;exact⟨_,_,_,_,rfl,rfl,⟨f.1.1,f.1.2,f.2⟩,rfl⟩
 .cases e
theorem yS:Loc K 2 .sub h λb H Q=>∀x y,b=[x,y]->rI0 (λi a=>.int<|i-a) x y H Q:=gU Aa _ λk=>aS k
theorem rm:Loc K 2 .lt h λb H Q=>∀x y,b=[x,y]->rI0 (λi a=>.bl<|decide (i<a)) x y H Q:=gU mN _ λk=>cz k
theorem ux:Loc K 2 .le h λb H Q=>∀x y,b=[x,y]->rI0 (λi a=>.bl<|decide (i<=a)) x y H Q:=gU nU _ λk=>cz k
theorem uv:Loc K 2 .gt h λb H Q=>∀x y,b=[x,y]->rI0 (λi a=>.bl<|decide (a<i)) x y H Q:=gU uP _ λk=>cz k
theorem vq:Loc K 2 .ge h λb H Q=>∀x y,b=[x,y]->rI0 (λi a=>.bl<|decide (a<=i)) x y H Q:=gU rh _ λk=>cz k
theorem qW:Loc K 2 .fdiv h λb H Q=>∀x y,b=[x,y]->rI BZ (λi a=>.int<|i / a) x y H Q:=vc sd _ λk=>aS k
theorem Aj:Loc K 2 .mod h λb H Q=>∀x y,b=[x,y]->rI (λ_ a=>0<a) (λi a=>.int<|i % a) x y H Q:=vc zh _ λk=>aS k
theorem Ag:Loc K 2 .pow h λb H Q=>∀x y,b=[x,y]->rI Bn (λi a=>.int<|i ^ a.toNat) x y H Q:=vc zW _ λk=>aS k
theorem Ar:Loc K 1 .neg h λb H Q=>∀x,b=[x]->rU (λi=>.int (-i)) x H Q:=by intro f w b Z H G Q c e r d g k x hx;subst hx;obtain⟨⟨m,a⟩,rfl⟩:=FA r.length.symm;cases a<;>first|(cases e;exact⟨_,AV r,aS k⟩)|cases e
theorem bg {Z:Fp}{H:Hp}{G:Fp}{m:Md}{c:U T}{v:V}(r:Rep K Z H m (.lst c) v G):∃a b,v=.ref a/\H a=O (.lst b)/\b.length<=LIM/\RepL K Z H m.kid c b G:=by obtain⟨a,b,e,l,q,p⟩:=r;exact⟨a,b,e,by cases m<;>exact q.2,l,p.mono λ_ z=>z.1⟩
theorem cX {Z:Fp}{H:Hp}{G:Fp}{m:Md}{c:U T}{v:V}(r:Rep K Z H m (.tup c) v G):∃a b,v=.ref a/\SqT K H a b/\b.length<=LIM/\RepL K Z H m.kid c b G:=r
theorem lK {Z:Fp}{H:Hp}{G g i:Fp}{m n:Md}{o p:U T}{t u:U V}(r:∀a,g a->G a)(s:∀a,i a->G a)(d:∀a,g a->¬i a)(y:RepL K Z H m o t g)(D:RepL K Z H n p u i):
  ∃f,(∀a,f a->G a)/\RepL K (cM Z G f) H (m.meet n) (o++p) (t++u) f:=by
 obtain⟨A,k,v⟩:=RepL.weak (c5 m n).1 y;obtain⟨c,l,x⟩:=RepL.weak (c5 m n).2 D;refine⟨λb=>A b\/c b,λb e=>e.elim (λz=>r b<|k b z) λz=>s b<|l b z,RepL.append (λ_ z=>.inl z) (λ_ z=>.inr z) (λb F I=>d b (k b F)<|l b I) (v.zmono λb e=>?_)<|x.zmono λb e=>?_⟩
 .exact e.imp id λz=>⟨r b z.1,λq=>q.elim z.2 λw=>d b z.1<|l b w⟩
 .exact e.imp id λz=>⟨s b z.1,λq=>q.elim (λw=>d b (k b w) z.1) z.2⟩
theorem cw {p q:Str}(a:sOk p=JZ)(b:sOk q=JZ)(c:p.cps.size+q.cps.size<=LIM):sOk (p++q)=true:=by
 unfold sOk at *;rw[Kt] at *;refine⟨?_,QE ?_⟩
 .show Array.all (p.cps++q.cps) _=JZ;rw[Array.all_append,Kt];exact⟨a.1,b.1⟩
 .show (p.cps++q.cps).size<=LIM;rw[Pf];exact c
theorem yd (rT:R2)(hT:∀{Z:Fp} {H:Hp} {G:Fp} {Q:VK} {a b:QF} {f o:U V} {D:U T},SqT K H a f->SqT K H b o->f≠[]->f.length+o.length<=LIM->Own Z H G->(∃F,(∀a,F a->G a)/\RepL K (cM Z G F) H .s D (f++o) F)->Out K Z H G (.s,.tup D) Q->rT (.ref a) (.ref b) H Q):
  Loc K 2 .add h λf H Q=>∀x y,f=[x,y]->rI0 (λi c=>.int<|i+c) x y H Q\/(∃i c,x=.str i/\y=.str c/\i.length+c.length<=sizeLine/\Q (.str<|i++c) H)\/F4 x y H Q\/rT x y H Q:=by
 intro ws w f Z H G Q hn e r P za k x y hx;subst hx;obtain⟨⟨m,a⟩,⟨n,b⟩,rfl⟩:=dU r.length.symm;obtain⟨G1,G2,w1,w2,d,v,A⟩:=bY r;cases a<;>first|(cases e;done)|(cases b<;>try (cases e;done))
 .cases e;exact .inl ⟨_,_,v,A,aS k⟩
 .rename_i p q;rw[ui] at e;split at e
  .rename_i g;cases e;refine .inr<|.inl ⟨p,q,v.1,A.1,br<|cx g,fT k ?_⟩;exact cw v.2 A.2<|cx g
  .cases e
 .rename_i D us;rw[sP] at e;split at e
  .rename_i g;cases e;rw[Kt] at g;obtain⟨a,f,rfl,N,hl,p⟩:=cX v;obtain⟨b,o,rfl,l,L,u⟩:=cX A;have t:=cx g.1;have e1:=p.length;have e2:=u.length;refine .inr (.inr (.inr (hT N l ?_ (by lia) P ?_ k)))
   .rintro rfl;cases D with
    |nil=>simp at g
    |cons _ _=>simp at e1
   .refine ⟨no,fun _ z=>z.elim,RepL.append (G1:=no) (G2:=no) (fun _ z=>z) (fun _ z=>z) (fun _ z _=>z) ((RepL.sh p).zmono fun b I=>?_) ((RepL.sh u).zmono fun b I=>?_)⟩
    .exact I.imp id λz=>⟨w1 b z,λq=>q⟩
    .exact I.imp id λz=>⟨w2 b z,λq=>q⟩
  .cases e
 .rename_i D us;rw[v5] at e;split at e
  .rename_i g;obtain⟨a,f,rfl,N,hl,p⟩:=bg v;obtain⟨b,o,rfl,l,L,u⟩:=bg A;have t:=cx g;have e1:=p.length;have e2:=u.length;have M:(f++o).length<=LIM:=by rw[Kk];lia
   refine .inr<|.inr<|.inl ⟨a,b,f,o,rfl,rfl,N,l,br<|by lia,λq hq=>?_⟩;exact dA P za M (lK w1 w2 d p u) e k hq
  .cases e
theorem xT:Loc K 2 .mul h λl H Q=>∀x y,l=[x,y]->rI CMul (λi f=>.int<|i * f) x y H Q\/GI x y H Q:=by
 intro ws w l Z H G Q hn e r P za k x y hx;subst hx;obtain⟨⟨m,a⟩,⟨n,b⟩,rfl⟩:=dU r.length.symm;obtain⟨G1,G2,w1,w2,d,A,D⟩:=bY r;cases a<;>first|(cases e;done)|(cases b<;>try (cases e;done))
 .rename_i i f;rw[tJ] at e;split at e
  .rename_i o;cases e;refine .inl ⟨i,f,A,D,?_,aS k⟩;rw[PF,QM,QM] at o;have u:(2:Int) ^ 64=18446744073709551616:=by decide
   unfold CMul;rw[u];lia
  .cases e
 .rename_i F f;have t:(if decide (f.natAbs<4611686018427387904)&&fits (F.length * f.toNat) then newL h .s (Kb f.toNat F).flatten else J)=O w:=e;split at t
  .rename_i o;rw[Kt,QM] at o;obtain⟨a,l,rfl,M,hl,p⟩:=bg A;have g:=cx o.2;have e1:=p.length;have v:((Kb f.toNat l).flatten).length<=LIM:=by rw[List.length_flatten,Ol,List.sum_replicate_nat,e1,O9];exact g
   refine .inr ⟨a,f,l,rfl,D,M,by lia,by lia,br<|by rw[e1];exact g,λq L=>?_⟩;refine dA P za v ⟨no,λ_ z=>z.elim,?_⟩ t k L;have ps:=(RepL.sh p).zmono (Z':=cM Z G no) λb I=>I.imp id λz=>⟨w1 b z,λq=>q⟩;generalize f.toNat=c;induction c with
   |zero=>exact rfl
   |succ c N=>exact RepL.append (λ_ z=>z) (λ_ z=>z) (λ_ z _=>z) ps N
  .cases t
theorem vD {Z:Fp}{H:Hp}{G:Fp}{m:Md}{b:U T}{c:U V}{i:Int}{t:T}(p:RepL K Z H m b c G)(e:M.atI b i=O t):∃x,L2.atI c i=O x/\Rep K Z H m t x G:=by
 unfold M.atI at e;have d:M.ixN b.length i=L2.ixN c.length i:=by rw[p.length];rfl
 cases e1:M.ixN b.length i with
 |none=>rw[e1] at e;cases e
 |some a=>rw[e1] at e;obtain⟨x,hx,r⟩:=p.get<|show b[a]?=O t from e;refine⟨x,?_,r⟩;unfold L2.atI;rw[<- d,e1];exact hx
theorem yP {x:Str}{c:Y}(h:sOk x=JZ)(d:c∈x.cps.toList):sOk ⟨#[c]⟩=true:=by
 unfold sOk at *;rw[Kt] at *;refine⟨?_,rfl⟩;have a:=h.1;rw[Oj] at a;have b:=a c<|Array.mem_def.mpr d;rw[Oj];intro y e;have:y=c:=by simpa using e
 rw[this];exact b
theorem jt {x:Str}(h:sOk x=JZ):x.cps.size<=LIM:=by unfold sOk at h;rw[Kt,QM] at h;exact h.2
theorem DU:Loc K 2 .ix h λl H Q=>∀x y,l=[x,y]->(∃p l i v,x=.ref p/\y=.int i/\(SqL K H p l\/SqT K H p l)/\L2.atI l i=O v/\Q v H)\/(∃z i c,x=.str z/\y=.int i/\z.length<=sizeLine/\L2.atI z.cps.toList i=O c/\Q (.str ⟨#[c]⟩) H):=by
 intro ws w l Z H G Q hn e r L za k x y hx;subst hx;obtain⟨⟨m,a⟩,⟨n,b⟩,rfl⟩:=dU r.length.symm;obtain⟨G1,G2,N,w2,d,s,D⟩:=bY r;obtain⟨i,rfl⟩:∃i,b=.int i:=by cases b<;>first|exact⟨_,rfl⟩|(cases e;done)|(cases a<;>cases e)
 cases a with
 | lst A =>
  obtain⟨a,l,rfl,u,P,p⟩:=bg s;have g:(M.atI A i).map (λt=>(m.kid,t))=O w:=e;cases e1:M.atI A i with
  |none=>rw[e1] at g;cases g
  |some t=>rw[e1] at g;cases g;obtain⟨v,F,I⟩:=vD p e1;exact .inl ⟨a,l,i,v,rfl,D,.inl<|.inl<|.inl u,F,eQ L k<|I.mono N⟩
 | tup A =>
  obtain⟨a,l,rfl,u,P,p⟩:=cX s;have g:(M.atI A i).map (λt=>(m.kid,t))=O w:=e;cases e1:M.atI A i with
  |none=>rw[e1] at g;cases g
  |some t=>rw[e1] at g;cases g;obtain⟨v,F,I⟩:=vD p e1;exact .inl ⟨a,l,i,v,rfl,D,.inr u,F,eQ L k<|I.mono N⟩
 | str z =>
  have g:(M.atI z.cps.toList i).map (λc=>((.d,.str ⟨#[c]⟩):W))=O w:=e;cases e1:M.atI z.cps.toList i with
  |none=>rw[e1] at g;cases g
  |some c=>
   rw[e1] at g;cases g;refine .inr ⟨z,i,c,s.1,D,br<|jt s.2,e1,fT k<|yP s.2 ?_⟩;unfold M.atI at e1;cases e2:M.ixN z.cps.toList.length i with
   |none=>rw[e2] at e1;cases e1
   |some f=>rw[e2] at e1;exact LX e1
 | scr o =>
  obtain⟨a,rfl,hL,u⟩:=s;have g:(M.atI o i).map (λn=>((.d,.int n):W))=O w:=e;cases e1:M.atI o i with
  |none=>rw[e1] at g;cases g
  | some n =>
   rw[e1] at g;cases g;refine .inl ⟨a,_,i,.int n,rfl,D,.inl u.sq,?_,aS k⟩;unfold M.atI at e1;unfold L2.atI;rw[J6];cases e2:M.ixN o.length i with
   |none=>rw[e2] at e1;cases e1
   |some f=>rw[e2] at e1;rw[show L2.ixN o.length i=O f from e2];show(o.map V.int)[f]?=_;rw[Kz,show o[f]?=O n from e1];rfl
 |_=>cases e
theorem xH:Loc K 1 .len h λb H Q=>∃x n,b=[x]/\(match x with
  |.str y=>y.length<=sizeLine/\n=y.length
  |.byt y=>y.size<=sizeLine/\n=y.size
  |.ref p=>(∃b,SqL K H p b/\n=b.length)\/∃b,SqT K H p b/\n=b.length
  |_=>QX)/\Q (.int (n:Y)) H:=by
 intro o w b Z H G Q i e r t u k
 match o,i with
 | [(m,a)],_ =>
  obtain⟨x,rfl,d⟩:=a0 rfl r;cases a with
  |lst f=>obtain⟨a,b,hx,c,g,p⟩:=bg d;cases e;refine⟨x,f.length,rfl,?_,aS k⟩;rw[show x=.ref a from hx];exact .inl ⟨b,.inl<|.inl c,p.length.symm⟩
  |tup f=>obtain⟨a,b,hx,c,g,p⟩:=cX d;cases e;refine⟨x,f.length,rfl,?_,aS k⟩;rw[show x=.ref a from hx];exact .inr ⟨b,c,p.length.symm⟩
  |str z=>cases e;refine⟨x,z.length,rfl,?_,aS k⟩;rw[show x=.str z from d.1];exact⟨br<|jt d.2,rfl⟩
  |scr l=>obtain⟨a,hx,s,c⟩:=d;cases e;refine⟨x,l.length,rfl,?_,aS k⟩;rw[show x=.ref a from hx];exact .inl ⟨_,c.sq,by rw[J6]⟩
  |_=>cases e
theorem fA {Z:Fp}{H:Hp}{G:Fp}{m:Md}:∀a:U Int,RepL K Z H m (a.map T.int) (a.map V.int) G
|[]=>rfl
|n::a=>⟨.int n,a.map V.int,no,no,rfl,λ_ z=>z.elim,λ_ z=>z.elim,λ_ z=>z.elim,rfl,fA a⟩
theorem sQ:Loc K 1 .list h λb H Q=>∃p n,b=[.ref p]/\(SqL K H p n\/SqT K H p n)/\∀l,H l=J->Q (.ref l) (upd H l<|.lst n):=by
 intro y w b Z H G Q t e r g o k
 match y,t with
 | [(m,a)],_ =>
  obtain⟨x,rfl,i⟩:=a0 rfl r;cases a with
  |lst v=>obtain⟨a,b,hx,d,f,p⟩:=bg i;refine⟨a,b,by rw[hx],.inl<|.inl<|.inl d,λq c=>dA g o f ⟨G,λ_ z=>z,p.zmono λ_ z=>.inl z⟩ e k c⟩
  |tup v=>obtain⟨a,b,hx,d,f,p⟩:=cX i;refine⟨a,b,by rw[hx],.inr d,λq c=>dA g o f ⟨G,λ_ z=>z,p.zmono λ_ z=>.inl z⟩ e k c⟩
  |scr u=>obtain⟨a,hx,s,d⟩:=i;cases e;refine⟨a,_,by rw[hx],.inl d.sq,λq c=>bh (G':=no) g o (λ_ z=>z.elim) (by rw[J6];exact s) (fA u) (by simp) k c⟩
  |_=>cases e
theorem hW {Z:Fp}{H:Hp}{G:Fp}{m:Md}:∀{a:U T} {b:U Int} {c:U V},intsOf a=O b->RepL K Z H m a c G->c=b.map V.int:=by
 intro a;induction a generalizing G with
 |nil=>intro b c e r;cases e;exact r
 | cons t a d =>
  intro b c e r;obtain⟨x,l,g,k,rfl,_,_,_,p,q⟩:=r;cases t with
  | int i =>
   cases e1:intsOf a with
   |none=>simp[intsOf,e1] at e
   |some f=>
    have:b=i::f:=by simpa[intsOf,e1] using e.symm
    subst this;rw[Ku,<- d e1 q,show x=.int i from p]
  |_=>cases e
theorem i6 {Z:Fp}{H:Hp}{G:Fp}{m:Md}:∀{a:U T} {b:U QJ} {c:U V},boolsOf a=O b->RepL K Z H m a c G->c=b.map V.bl:=by
 intro a;induction a generalizing G with
 |nil=>intro b c e r;cases e;exact r
 | cons t a d =>
  intro b c e r;obtain⟨x,l,g,k,rfl,_,_,_,p,q⟩:=r;cases t with
  | bl i =>
   cases e1:boolsOf a with
   |none=>simp[boolsOf,e1] at e
   |some f=>
    have:b=i::f:=by simpa[boolsOf,e1] using e.symm
    subst this;rw[Ku,<- d e1 q,show x=.bl i from p]
  |_=>cases e
theorem zd:Loc K 1 .sum h λf H Q=>∃(a:QF) (b:U Int),f=[.ref a]/\SqL K H a (b.map V.int)/\Q (.int b.sum) H:=by
 intro o w f Z H G Q l e r t u k
 match o,l with
 | [(m,a)],_ =>
  obtain⟨x,rfl,n⟩:=a0 rfl r;cases a with
  | lst i =>
   obtain⟨a,f,hx,g,s,p⟩:=bg n;have c:(intsOf i).map (λb=>((.d,.int b.sum):W))=O w:=e;cases e1:intsOf i with
   |none=>rw[e1] at c;cases c
   |some b=>rw[e1] at c;cases c;rw[hW e1 p] at g;exact⟨a,b,by rw[hx],.inl<|.inl g,aS k⟩
  |_=>cases e
theorem yR:Loc K 1 .all h λf H Q=>∃(a:QF) (bs:U QJ),f=[.ref a]/\SqL K H a (bs.map V.bl)/\Q (.bl<|bs.all id) H:=by
 intro o w f Z H G Q l e r t u k
 match o,l with
 | [(m,a)],_ =>
  obtain⟨x,rfl,n⟩:=a0 rfl r;cases a with
  | lst i =>
   obtain⟨a,f,hx,g,s,p⟩:=bg n;have b:(boolsOf i).map (λc=>((.d,.bl (c.all id)):W))=O w:=e;cases e1:boolsOf i with
   |none=>rw[e1] at b;cases b
   |some c=>rw[e1] at b;cases b;rw[i6 e1 p] at g;exact⟨a,c,by rw[hx],.inl<|.inl g,cz k⟩
  |_=>cases e
theorem zy:Loc K 2 .max h λd H Q=>∃i c,d=[.int i,.int c]/\Q (.int<|if c>i then c else i) H:=by
 intro o w d Z H G Q f e r t u k
 match o,f with
 |[(m,a),(n,b)],_=>obtain⟨x,y,hx⟩:∃x y,d=[x,y]:=dU (x:=()) (y:=())<|show d.length=[(),()].length from r.length;subst hx;obtain⟨p,s,_,_,_,g,l⟩:=bY r;cases a<;>first|(cases e;done)|(cases b<;>first|(cases e;exact⟨_,_,by rw[show x=_ from g,show y=_ from l],aS k⟩)|cases e)
theorem xr:Loc K 2 .min h λd H Q=>∃i c,d=[.int i,.int c]/\Q (.int<|if c<i then c else i) H:=by
 intro o w d Z H G Q f e r t u k
 match o,f with
 |[(m,a),(n,b)],_=>obtain⟨x,y,hx⟩:∃x y,d=[x,y]:=dU (x:=()) (y:=())<|show d.length=[(),()].length from r.length;subst hx;obtain⟨p,s,_,_,_,g,l⟩:=bY r;cases a<;>first|(cases e;done)|(cases b<;>first|(cases e;exact⟨_,_,by rw[show x=_ from g,show y=_ from l],aS k⟩)|cases e)
end
section
variable {K:J2}{sl:Cf}{sf:Y->j Y}{C:Call}{σ:L2.St}{Z Z' Z1:Fp}{H H' H1:Hp}{Fs Fs' Fs1:Fps}{η η' η1:Env}{G G' R F:Fp}
mutual
theorem Rep.sany:∀{t:T} {v:V} {G G':Fp},Rep K Z H .s t v G->Rep K Z H .s t v G'
|.non,_,_,_,h=>h
|.bl _,_,_,_,h=>h
|.int _,_,_,_,h=>h
|.str _,_,_,_,h=>h
|.scr _,_,_,_,h=>h
|.tup ts,_,_,_,⟨a,xs,e,q,l,r⟩=>⟨a,xs,e,q,l,RepL.sany r⟩
|.lst ts,_,_,_,⟨a,xs,e,l,q,r⟩=>⟨a,xs,e,l,q,RepL.sany r⟩
|.dct _ _,_,_,_,⟨a,xs,e,l,q,n,hl,r⟩=>⟨a,xs,e,l,q,n,hl,r⟩
|.ins _ _ _,_,_,_,h=>h
|.gone,_,_,_,h=>h
theorem RepL.sany:∀{ts:U T} {xs:U V} {G G':Fp},RepL K Z H .s ts xs G->RepL K Z H .s ts xs G'
|[],_,_,_,h=>h
|t::ts,xs,_,_,⟨x,r,G1,G2,e,h1,h2,hd,p,q⟩=>⟨x,r,no,no,e,λ_ z=>z.elim,λ_ z=>z.elim,λ_ z=>z.elim,Rep.sany p,RepL.sany q⟩
end
theorem bp:∀(η:Env) (i a:Y) (o:j W),rd (wr η i o) a=if a=i/\i < η.length then o else rd η a
|[],i,a,o=>by simp[wr,rd]
|p::η,0,0,o=>by simp[wr,rd]
|p::η,0,a+1,o=>by simp[wr,rd]
|p::η,i+1,0,o=>by simp[wr,rd]
|p::η,i+1,a+1,o=>by show rd (wr η i o) a=_;rw[bp η i a o];simp[rd]
theorem c8:∀{η:Env} {i:Y} {w:W},rd η i=O w->i < η.length
|[],_,_,h=>by cases h
|_::_,0,_,_=>by simp
|_::η,i+1,_,h=>by have:=c8 (η:=η) (i:=i) h;simp;exact this
theorem fj (h:∀a,F a->G a):Step Z H G Z H F:=(Step.refl Z H G).mono (λ_ z=>z) h
theorem Ce {i b:Y}(g:sf i=O b)(σ:L2.St)(H:Hp)(Q:VK)(h:wE K sf C (.var i) σ H Q):ku b σ H Q:=by
 obtain⟨n,Z,Fs,η,w,η',A,ev,k⟩:=h;obtain⟨p,e1,e2⟩:=ay<|show ret η ((rd η i).bind look)=_ from ev;cases e2;cases e3:rd η i with
 |none=>rw[e3] at e1;cases e1
 | some u =>
  rw[e3] at e1;obtain⟨m,t⟩:=u;obtain⟨v,r,l⟩:=A.env i m t e3;refine⟨v,l.1 b g,k v Z H Fs no A ?_<|fj λa f=>f.elim id λz=>z.elim⟩;cases m with
  |s=>cases e1;exact r.sany
  |d=>
   have c:(if t.leaf=JZ then O (Md.d,t) else J)=O w:=e1;split at c
   .rename_i e;cases c;exact r.leaf (λ_ _ _ q=>q) e
   .cases c
  |o m=>
   have c:(if t.leaf=JZ then O (Md.d,t) else J)=O w:=e1;split at c
   .rename_i e;cases c;exact r.leaf (λ_ _ _ q=>q) e
   .cases c
def jK (Fs:Fps)(i:Y):Fps:=λb a=>b≠i/\Fs b a
theorem Dx {e:E}{i b:Y}(p:∀η,evE C e η=ret (del η i) (rd η i))(s:sf i=O b)(σ:L2.St)(H:Hp)(Q:VK)(h:wE K sf C e σ H Q):ku b σ H Q:=by
 obtain⟨M,Z,Fs,η,w,η',A,ev,k⟩:=h;rw[p] at ev;obtain⟨N,e1,e2⟩:=ay ev;cases e2;obtain⟨m,t⟩:=w;obtain⟨v,r,u⟩:=A.env i m t e1;refine⟨v,u.1 b s,k v Z H (jK Fs i) (Fs i) ⟨⟨λa ⟨l,f,c⟩=>A.gd.own a ⟨l,c⟩,λl x a f c=>A.gd.dis l x a f.2 c.2,A.gd.zal⟩,λl y I e=>?_,λa d=>A.gd.own a ⟨i,d⟩,λa d ⟨l,f,c⟩=>f<|A.gd.dis l i a c d,A.lk,A.ln⟩ r<|fj λa d=>d.elim (λ⟨l,f,c⟩=>⟨l,c⟩) λz=>⟨i,z⟩⟩;rw[bp] at e;split at e
 .cases e
 .rename_i n;obtain⟨L,D,o⟩:=A.env l y I e;have g:l≠i:=λz=>n ⟨z,c8 e1⟩;exact⟨L,D.mono λa d=>⟨g,d⟩,o⟩
theorem jM {t:T}{v:V}(c:∀{Z:Fp} {H:Hp},Rep K Z H .d t v no)(σ:L2.St)(H:Hp)(Q:VK)(h:wE K sf C (.cst t) σ H Q):tC v σ H Q:=by obtain⟨e,Z,Fs,η,w,η',A,ev,k⟩:=h;cases ev;exact k v Z H Fs no A c<|fj λa b=>b.elim id λz=>z.elim
theorem BK {b:U E}(l:b.length<=LIM)(σ:L2.St)(H:Hp)(Q:VK)(h:wE K sf C (.tup b) σ H Q):Hs (wL K sf C b) σ H Q:=by
 obtain⟨o,Z,Fs,η,w,η',A,ev,k⟩:=h;obtain⟨⟨e,η1⟩,c,i⟩:=aa<|show(evL C b η).bind rA=_ from ev;cases i;refine⟨o,Z,Fs,η,e,_,A,c,λt Z' H' Fs' G a r s=>?_⟩;have d:t.length<=LIM:=by rw[r.length,fU c];exact l
 obtain⟨G',f,g⟩:=RepW.to (λu n=>gO n) r;refine⟨br d,λp hp=>oV (m:=(gK e).up) a.own f d (by rw[fx];exact g) (cy a s k) hp⟩
theorem Cz {b:QJ}{c:U E}(t:c.length<=LIM)(σ:L2.St)(H:Hp)(Q:VK)(h:wE K sf C (.lst b c) σ H Q):HC (wL K sf C c) σ H Q:=by
 obtain⟨v,Z,Fs,η,w,η',A,ev,k⟩:=h;obtain⟨⟨l,η1⟩,g,n⟩:=aa<|show(evL C c η).bind (va b)=_ from ev;cases n;refine⟨v,Z,Fs,η,l,_,A,g,λx Z' H' Fs' G a r s=>?_⟩;have f:x.length<=LIM:=by rw[r.length,fU g];exact t
 refine⟨br f,λp hp=>?_⟩;cases b with
 |true=>obtain⟨G',d,e⟩:=RepW.to (λu i=>gO i) r;exact bh (m:=(gK l).up) a.own a.gd.zal d f (by rw[fx];exact e) (dD _) (cy a s k) hp
 |false=>obtain⟨G',d,e⟩:=RepW.to (N:=.s) (λu i=>by cases lf u.1 u.2<;>rfl) r;exact bh (m:=.o .s) a.own a.gd.zal d f e (by simp) (cy a s k) hp
def wT (K:J2)(sl:Y->j Y)(C:Call)(e:E):TT:=λσ H Q=>∃a Z Fs η w η' b,At K ⟨sl,a⟩ σ Z H Fs η no/\evE C e η=.ok (w,η')/\truth w.2=O b /\
 ∀Z' H' Fs',At K ⟨sl,a⟩ σ Z' H' Fs' η' no->Step Z H (tot Fs) Z' H' (tot Fs')->Q b H'
def TrV (K:J2)(x:V)(H:Hp)(k:QJ):Prop:=
 match x with
 |.non=>k=JY
 |.bl b=>k=b
 |.int i=>k=(i != 0)
 |.str y=>y.length<=sizeLine/\k=((y.length:Int) != 0)
 |.ref p=>(∃a,SqL K H p a/\k=!a.isEmpty)\/(∃a,SqT K H p a/\k=!a.isEmpty)
 |_=>QX
theorem dw {c d:Type}{a:U c}{b:U d}(h:a.length=b.length):a.isEmpty=b.isEmpty:=by cases a<;>cases b<;>first|rfl|simp at h
theorem fw {m:Md}{t:T}{v:V}{b:QJ}(e:truth t=O b)(r:Rep K Z H m t v G):TrV K v H b:=by
 cases t with
 |non=>cases e;rw[show v=_ from r];rfl
 |bl c=>cases e;rw[show v=_ from r];rfl
 |int i=>cases e;rw[show v=_ from r];rfl
 |str x=>
  cases e;rw[show v=_ from r.1];refine⟨br<|jt r.2,?_⟩;show(x.cps.size != 0)=(((x.cps.size:Y):Int) != 0);cases x.cps.size with
  |zero=>rfl
  |succ n=>simp;lia
 |tup h=>obtain⟨a,f,rfl,d,g,p⟩:=cX r;cases e;exact .inr ⟨f,d,by rw[dw p.length]⟩
 |lst h=>obtain⟨a,f,rfl,d,g,p⟩:=bg r;cases e;exact .inl ⟨f,.inl<|.inl d,by rw[dw p.length]⟩
 |scr l=>obtain⟨a,rfl,k,d⟩:=r;cases e;exact .inl ⟨_,d.sq,by rw[dw<|J6 ..]⟩
 |dct _ _=>cases e
 |ins _ _ _=>cases e
 |gone=>cases e
theorem l7 {e:E}{w:W}{b:QJ}{Q:QJ->Hp->Prop}(A:At K sl σ Z H Fs η no)(ev:evE C e η=.ok (w,η'))(a:truth w.2=O b)(k:∀Z' H' Fs',At K sl σ Z' H' Fs' η' no->Step Z H (tot Fs) Z' H' (tot Fs')->Q b H'):wT K sl.sl C e σ H Q:=⟨sl.pv,Z,Fs,η,w,η',b,A,ev,a,k⟩
theorem bj {a:Type}{f g:Env->Res a}{p:W×Env}{r:a}(h:onT f g p=.ok r):∃b,truth p.1.2=O b/\(if b=JZ then f p.2 else g p.2)=.ok r:=by
 unfold onT at h;split at h
 .rename_i e;exact⟨JZ,e,h⟩
 .rename_i e;exact⟨JY,e,h⟩
 .cases h
theorem Cm {e:E}(σ:L2.St)(H:Hp)(Q:QJ->Hp->Prop)(h:wT K sf C (.not e) σ H Q):FK (wT K sf C e) σ H Q:=by
 obtain⟨i,Z,Fs,η,w,η',b,A,ev,g,k⟩:=h;obtain⟨⟨u,η1⟩,a,f⟩:=aa<|show(evE C e η).bind qo=_ from ev;obtain⟨l,e1,e2⟩:=ay<|show ret η1 ((truth u.2).map λb=>((.d,.bl<|!b):W))=_ from f;cases e2;cases e3:truth u.2 with
 |none=>rw[e3] at e1;cases e1
 |some c=>
  rw[e3] at e1;cases e1;have:b=!c:=by cases g;rfl
  subst this;exact l7 A a e3 k
theorem Cd {a b:E}(σ:L2.St)(H:Hp)(Q:QJ->Hp->Prop)(h:wT K sf C (.and a b) σ H Q):HE (wT K sf C a) (wT K sf C b) σ H Q:=by
 obtain⟨v,Z,Fs,η,w,η',c,A,ev,l,k⟩:=h;obtain⟨⟨u,η1⟩,r,s⟩:=aa<|show(evE C a η).bind (qL<|evE C b)=_ from ev;obtain⟨d,i,e⟩:=bj<|show onT (evE C b) (okW u) (u,η1)=_ from s;refine l7 A r i λZ1 H1 Fs1 g m=>?_;cases d with
 |true=>rw[QG rfl] at e ⊢;exact l7 g e l λp o f n t=>k p o f n<|m.trans t
 |false=>rw[QH Kv] at e ⊢;cases e;cases(i.symm.trans l);exact k Z1 H1 Fs1 g m
theorem GW {a b:E}(σ:L2.St)(H:Hp)(Q:QJ->Hp->Prop)(h:wT K sf C (.or a b) σ H Q):tOr (wT K sf C a) (wT K sf C b) σ H Q:=by
 obtain⟨v,Z,Fs,η,w,η',c,A,ev,l,k⟩:=h;obtain⟨⟨u,η1⟩,r,s⟩:=aa<|show(evE C a η).bind (kOr<|evE C b)=_ from ev;obtain⟨d,i,e⟩:=bj<|show onT (okW u) (evE C b) (u,η1)=_ from s;refine l7 A r i λZ1 H1 Fs1 g m=>?_;cases d with
 |false=>rw[QH Kv] at e ⊢;exact l7 g e l λp o f n t=>k p o f n<|m.trans t
 |true=>rw[QG rfl] at e ⊢;cases e;cases(i.symm.trans l);exact k Z1 H1 Fs1 g m
theorem Be {c a b:E}(σ:L2.St)(H:Hp)(Q:VK)(h:wE K sf C (.ifx c a b) σ H Q):tIf (wT K sf C c) (wE K sf C a) (wE K sf C b) σ H Q:=by
 obtain⟨i,Z,Fs,η,w,η',A,ev,k⟩:=h;obtain⟨⟨u,η1⟩,m,n⟩:=aa<|show(evE C c η).bind (onT (evE C a)<|evE C b)=_ from ev;obtain⟨d,o,f⟩:=bj n;refine l7 A m o λZ1 H1 Fs1 g l=>?_;cases d with
 |true=>rw[QG rfl] at f ⊢;exact⟨i,Z1,Fs1,η1,w,η',g,f,λv Z' H' Fs' G e r s=>k v Z' H' Fs' G e r<|l.trans s⟩
 |false=>rw[QH Kv] at f ⊢;exact⟨i,Z1,Fs1,η1,w,η',g,f,λv Z' H' Fs' G e r s=>k v Z' H' Fs' G e r<|l.trans s⟩
theorem Cc {e:E}(σ:L2.St)(H:Hp)(Q:VK)(h:wE K sf C (.not e) σ H Q):wE K sf C e σ H λx H1=>∃k,TrV K x H1 k/\Q (.bl<|!k) H1:=by
 obtain⟨m,Z,Fs,η,w,η',A,ev,k⟩:=h;obtain⟨⟨u,η1⟩,g,i⟩:=aa<|show(evE C e η).bind qo=_ from ev;obtain⟨n,e1,e2⟩:=ay<|show ret η1 ((truth u.2).map λb=>((.d,.bl<|!b):W))=_ from i;cases e2;cases e3:truth u.2 with
 |none=>rw[e3] at e1;cases e1
 |some c=>rw[e3] at e1;cases e1;exact⟨m,Z,Fs,η,u,_,A,g,λv Z' H' Fs' G f r s=>⟨c,fw e3 r,k _ Z' H' Fs' no f.bare rfl (s.mono (λ_ z=>z) λa l=>l.elim .inl λz=>z.elim)⟩⟩
theorem BG {a b:E}(σ:L2.St)(H:Hp)(Q:VK)(h:wE K sf C (.and a b) σ H Q):wE K sf C a σ H λx H1=>∃k,TrV K x H1 k/\if k=JZ then wE K sf C b σ H1 Q else Q x H1:=by
 obtain⟨f,Z,Fs,η,w,η',A,ev,k⟩:=h;obtain⟨⟨u,η1⟩,i,l⟩:=aa<|show(evE C a η).bind (qL<|evE C b)=_ from ev;obtain⟨d,m,e⟩:=bj<|show onT (evE C b) (okW u) (u,η1)=_ from l;refine⟨f,Z,Fs,η,u,η1,A,i,λv Z1 H1 Fs1 G c r s=>⟨d,fw m r,?_⟩⟩;cases d with
 |true=>rw[QG rfl] at e ⊢;exact⟨f,Z1,Fs1,η1,w,η',c.bare,e,λp Z' H' Fs' G' g n o=>k p Z' H' Fs' G' g n<|(s.mono (λ_ z=>z) λ_ z=>.inl z).trans o⟩
 |false=>rw[QH Kv] at e ⊢;cases e;exact k v Z1 H1 Fs1 G c r s
end
section
variable {K:J2}{sl:Cf}{sf:Y->j Y}{C:Call}{σ:L2.St}{Z Z' Z1:Fp}{H H' H1:Hp}{Fs Fs' Fs1:Fps}{η η' η1:Env}{G G' R F:Fp}
structure Wk (K:J2)(J:It)(Z:Fp)(H0:Hp)(ts:U (U W)):Prop where
 go:∀H i,Stay Z H0 H->i<ts.length->J.go i H
 stop:∀H i,Stay Z H0 H->ts.length<=i->J.stop i H
 len:ts.length<=LIM
def uL (K:J2)(a:It)(Z:Fp)(c:Hp)(b:U<|U W):Prop:=
 ∀H i x H',Stay Z c H->i<b.length->a.yld i H x H'->H'=H/\∃w,b[i]?=O [w]/\Rep K Z H w.1 w.2 x no
def IV (K:J2)(a:It)(Z:Fp)(d:Hp)(c:U<|U W):Prop:=
 ∀H i x H',Stay Z d H->i<c.length->a.yld i H x H'->∃p y z u w,x=.ref p/\(∀b o,H b=O o->H' b=O o)/\SqT K H' p [y,z]/\c[i]?=O [u,w]/\Rep K Z H u.1 u.2 y no/\Rep K Z H w.1 w.2 z no
theorem lD (c:∀b o,H b=O o->H' b=O o):Stay Z H H':=by
 refine⟨λa o _ e=>c a o e,λa d e=>?_,λa o u e=>c a _ e⟩;rcases e with e|⟨u,e⟩
 .exact .inl (c a _ e)
 .exact .inr ⟨u,c a _ e⟩
theorem gn (b:∀a o,H a=O o->H' a=O o):Step Z H G Z H' G:=by
 have c:∀a,H a≠J->H' a≠none:=λa h=>by
  cases e:H a with
  |none=>exact QL e h
  |some o=>rw[b a o e];simp
 exact⟨λa o h _=>b a o h,λ_ h=>h,λ_ h=>.inl h,λ_ h=>.inl h,c,λz a h=>c a<|z a h⟩
theorem EG {p:QF}{o:HO}(hp:H p=J):∀b u,H b=O u->upd H p o b=O u:=λa u e=>by
 have:a≠p:=λq=>by subst q;rw[hp] at e;cases e
 rw[ae this];exact e
def Yld (K:J2)(a:It)(Z:Fp)(b:Hp)(c:U<|U W):Y->Prop
|1=>uL K a Z b c
|2=>IV K a Z b c
|_=>QX
def wI (K:J2)(sl:Y->j Y)(C:Call)(n:Y)(k:Ik)(b:U E):TI:=λσ H R=>∃d Z Fs η e η' c,At K ⟨sl,d⟩ σ Z H Fs η no/\evL C b η=.ok (e,η')/\bV k e=O c /\
 ∀a Z' H' Fs',At K ⟨sl,d⟩ σ Z' H' Fs' η' no->Step Z H (tot Fs) Z' H' (tot Fs')->Wk K a Z' H' c->Yld K a Z' H' c n->R a H'
theorem At.freeze (A:At K sl σ Z H Fs η G):At K sl σ (λa=>Z a\/G a) H Fs η no:=by
 refine⟨⟨λa b=>⟨λz=>z.elim (A.gd.own a b).1 λq=>A.dis a q b,(A.gd.own a b).2⟩,A.gd.dis,λa h=>h.elim (A.gd.zal a) λq=>?_⟩,λi m t e=>?_,bX,λ_ z=>z.elim,A.lk,A.ln⟩
 .obtain ⟨_,c,e⟩:=A.own a q;rw[e];simp
 .obtain ⟨v,r,h⟩:=A.env i m t e;exact⟨v,r.zmono λa h=>.inl h,h⟩
theorem bu (o:Own Z' H' G)(s:Step Z H F Z' H' λa=>F' a\/G a):Step Z H F (λa=>Z' a\/G a) H' F' where
 keep:=s.keep
 zm:=λa h=>.inl<|s.zm a h
 zn:=λa h=>h.elim (s.zn a) λq=>.inr<|s.fn a<|.inr q
 fn:=λa h=>s.fn a<|.inl h
 al:=s.al
 za:=λz a h=>h.elim (s.za z a) λq=>by obtain⟨_,b,e⟩:=o a q;rw[e];simp
theorem bR {a:QF}{c:U V}{b:Hp}(s:Stay Z b H)(d:Z a)(h:b a=O (.lst c)):SqL K H a c:=.inl<|.inl<|s.1 a _ d h
theorem zI {a:QF}{c:U V}{b:U T}(k:c.length<=LIM)(f:Z a)(h:H a=O (.lst c))(r:RepL K Z H .s b c no):Wk K (Itl K a) Z H (b.map λt=>[(.s,t)])/\uL K (Itl K a) Z H (b.map λt=>[(.s,t)]):=by
 have l:=r.length;refine⟨⟨λH' i s d=>?_,λH' i s d=>?_,by rw[J6];lia⟩,λH' i x g s d y=>?_⟩
 .rw [J6] at d;exact⟨c,c[i]'(by lia),bR s f h,by simp⟩
 .rw [J6] at d;exact⟨c,bR s f h,by lia⟩
 .rw [J6] at d;obtain⟨rfl,y⟩:=y;have hx:=y c<|bR s f h;obtain⟨m,e,rx⟩:=r.get (show b[i]?=O b[i] by simp);rw[hx] at e;cases e;refine⟨rfl,(.s,b[i]),by rw[Kz,show b[i]?=O b[i] by simp];rfl,rx.keep s (λ_ z=>z) λ_ _ z=>z.elim⟩
theorem Du {a:QF}{c:U V}{b:U T}(g:c.length<=LIM)(h:SqT K H a c)(r:RepL K Z H .s b c no):Wk K (Itt K a) Z H (b.map λt=>[(.s,t)])/\uL K (Itt K a) Z H (b.map λt=>[(.s,t)]):=by
 have k:=r.length;refine⟨⟨λH' i s d=>?_,λH' i s d=>?_,by rw[J6];lia⟩,λH' i x f s d y=>?_⟩
 .rw [J6] at d;exact⟨c,c[i]'(by lia),s.sqt h,by simp⟩
 .rw [J6] at d;exact⟨c,s.sqt h,by lia⟩
 .rw [J6] at d;obtain⟨rfl,y⟩:=y;have hx:=y c<|s.sqt h;obtain⟨l,e,rx⟩:=r.get (show b[i]?=O b[i] by simp);rw[hx] at e;cases e;refine⟨rfl,(.s,b[i]),by rw[Kz,show b[i]?=O b[i] by simp];rfl,rx.keep s (λ_ z=>z) λ_ _ z=>z.elim⟩
theorem DS {lo:Int}{n:Y}(c:n<=LIM):Wk K (Itr lo n) Z H ((Kc n).map λ(k:Y)=>[(.d,.int<|lo+k)])/\uL K (Itr lo n) Z H ((Kc n).map λ(k:Y)=>[(.d,.int<|lo+k)]):=by refine⟨⟨λH' i s a=>by show i<n;simpa using a,λH' i s a=>by show n<=i;simpa using a,by simpa using c⟩,λH' i x b s a y=>?_⟩;obtain⟨rfl,rfl⟩:=y;refine⟨rfl,(.d,.int<|lo+i),?_,rfl⟩;rw[J6,KY] at a;rw[Kz,Oo a];rfl
theorem mQ {a:QF}{c:U Int}{b:Hp}(s:Stay Z b H)(h:ScrR K b a c):SqL K H a (c.map V.int):=(h.keep s.2.2).sq
theorem EC {a:QF}{b:U Int}(f:b.length<=LIM)(h:ScrR K H a b):Wk K (Itl K a) Z H (b.map λn=>[(.d,.int n)])/\uL K (Itl K a) Z H (b.map λn=>[(.d,.int n)]):=by
 refine⟨⟨λH' i s c=>?_,λH' i s c=>?_,by rw[J6];exact f⟩,λH' i x e s c y=>?_⟩
 .rw [J6] at c;exact⟨_,(b.map V.int)[i]'(by rw[J6];exact c),mQ s h,by simp⟩
 .rw [J6] at c;exact⟨_,mQ s h,by rw[J6];exact c⟩
 .rw [J6] at c;obtain⟨rfl,y⟩:=y;have hx:=y _<|mQ s h;refine⟨rfl,(.d,.int b[i]),by rw[Kz,show b[i]?=O b[i] by simp];rfl,?_⟩;rw[Kz,show b[i]?=O b[i] by simp] at hx;exact(KH hx).symm
theorem DY {e:E}(σ:L2.St)(H:Hp)(R:It->Hp->Prop)(h:wI K sf C 1 .seq [e] σ H R):kO K (wE K sf C e) σ H R\/Hj K (wE K sf C e) σ H R:=by
 obtain⟨g,Z,Fs,η,x,η',u,A,ev,f,k⟩:=h;obtain⟨⟨m,a⟩,η1,w,e1,e2,rfl⟩:=aL ev;cases e2;cases a with
 |lst i=>cases f;refine .inl ⟨g,Z,Fs,η,_,_,A,e1,λv Z' H' Fs' G b r s=>?_⟩;obtain⟨a,n,rfl,l,q,p⟩:=Rep.sh r;obtain⟨c,d⟩:=zI l q.1 q.2 p.sany;exact⟨a,rfl,⟨n,.inl<|.inl q.2⟩,k _ _ H' Fs' b.freeze (bu b.own s) c d⟩
 |tup i=>cases f;refine .inr ⟨g,Z,Fs,η,_,_,A,e1,λv Z' H' Fs' G b r s=>?_⟩;obtain⟨a,n,rfl,q,l,p⟩:=Rep.sh r;obtain⟨c,d⟩:=Du l q p.sany;exact⟨a,rfl,⟨n,q⟩,k _ _ H' Fs' b.freeze (bu b.own s) c d⟩
 |scr t=>cases f;refine .inl ⟨g,Z,Fs,η,_,_,A,e1,λv Z' H' Fs' G b r s=>?_⟩;obtain⟨a,rfl,o,q⟩:=r;obtain⟨c,d⟩:=EC (Z:=λa=>Z' a\/G a) o q;exact⟨a,rfl,⟨_,q.sq⟩,k _ _ H' Fs' b.freeze (bu b.own s) c d⟩
 |_=>cases f
theorem p62:(2:Int) ^ 62=4611686018427387904:=by decide
theorem yg {e:E}(σ:L2.St)(H:Hp)(R:It->Hp->Prop)(h:wI K sf C 1 .rng [e] σ H R):AK (wL K sf C [e]) σ H R:=by
 obtain⟨l,Z,Fs,η,p,η',t,A,ev,c,k⟩:=h;refine⟨l,Z,Fs,η,p,η',A,ev,λv Z' H' Fs' G b r s=>?_⟩;obtain⟨⟨m,a⟩,η1,u,e1,e2,rfl⟩:=aL ev;cases e2;obtain⟨x,rfl,o⟩:=a0 rfl r;cases a with
 | int n =>
  rw[rN] at c;split at c
  .rename_i d;rw[Kt,QM] at d;cases c;refine⟨n,by rw[show x=_ from o],by rw[p62];lia,by rw[p62];lia,?_⟩;obtain⟨f,g⟩:=DS (K:=K) (Z:=λa=>Z' a\/G a) (H:=H') (lo:=0) (n:=n.toNat) (cx d.2);have i:∀k:Y,(0:Int)+(k:Int)=k:=λk=>by lia
   simp only[i] at f g;exact k _ _ H' Fs' b.freeze (bu b.own s) f g
  .cases c
 |_=>cases c
theorem iM {m:Md}:∀{ts:U T} {n i:Y} {t:T},ts[i]?=O t->(c6 m n ts)[i]?=O [(.d,.int ((n+i:Y):Int)),(m,t)]
|t::ts,n,0,_,h=>by cases h;rfl
|t::ts,n,i+1,_,h=>by have:=iM (m:=m) (ts:=ts) (n:=n+1) (i:=i) h;rw[show n+1+i=n+(i+1) by lia] at this;exact this
|[],_,_,_,h=>by simp at h
theorem cG {m:Md}:∀{a:U T} {n:Y},(c6 m n a).length=a.length
|[],_=>rfl
|t::a,n=>by show(c6 m (n+1) a).length+1=a.length+1;rw[cG]
theorem Dr {e:E}(σ:L2.St)(H:Hp)(R:It->Hp->Prop)(h:wI K sf C 2 .enm [e] σ H R):AL K (wL K sf C [e]) σ H R:=by
 obtain⟨v,Z,Fs,η,D,η',M,A,ev,t,k⟩:=h;refine⟨v,Z,Fs,η,D,η',A,ev,λP Z' H' Fs' G b r s=>?_⟩;obtain⟨⟨m,a⟩,η1,N,e1,e2,rfl⟩:=aL ev;cases e2;obtain⟨x,rfl,w⟩:=a0 rfl r;obtain⟨g,rfl⟩:∃g,a=.lst g:=by cases a<;>first|exact⟨_,rfl⟩|cases t
 cases t;obtain⟨a,n,rfl,l,q,p⟩:=Rep.sh w;have L:=p.length;refine⟨a,rfl,⟨n,.inl<|.inl q.2⟩,k _ _ H' Fs' b.freeze (bu b.own s) ⟨λo i s c=>?_,λo i s c=>?_,by rw[cG];lia⟩ λo i x H1 s c y=>?_⟩
 .rw [cG] at c;exact⟨n,n[i]'(by lia),bR s q.1 q.2,by simp⟩
 .rw [cG] at c;exact⟨n,bR s q.1 q.2,by lia⟩
 .rw [cG] at c;obtain⟨u,I,rfl,hp,rfl,hx⟩:=y;obtain⟨Q,f,rx⟩:=p.get (show g[i]?=O g[i] by simp);rw[hx n<|bR s q.1 q.2] at f;cases f;refine⟨u,.int i,I,(.d,.int ((0+i:Y):Int)),(.s,g[i]),rfl,EG hp,.inl<|.inl au,iM<|by simp,?_,rx.sany.keep s (λ_ z=>z) λ_ _ z=>z.elim⟩;show V.int (i:Int)=V.int ((0+i:Y):Int);rw[LD]
theorem gM:∀{ts:U T} {ps:U<|U W} {i:Y} {t:T},bO ts=O ps->ts[i]?=O t->∃x y,t=.tup [x,y]/\ps[i]?=O [(.s,x),(.s,y)]
|[],_,_,_,_,h=>by simp at h
| u::ts,ps,i,t,e,h=>by
 match u,e with
 | .tup [x,y],e =>
  have a:(bO ts).map ([(.s,x),(.s,y)]::·)=O ps:=e;cases e1:bO ts with
  |none=>rw[e1] at a;cases a
  |some b=>
   rw[e1] at a;cases a;cases i with
   |zero=>cases h;exact⟨x,y,rfl,rfl⟩
   |succ i=>exact gM (ts:=ts) (ps:=b) (i:=i) e1 h
theorem gh:∀{a:U T} {c:U<|U W},bO a=O c->c.length=a.length
|[],_,e=>by cases e;rfl
| u::a,c,e=>by
 match u,e with
 | .tup [x,y],e =>
  have b:(bO a).map ([(.s,x),(.s,y)]::·)=O c:=e;cases e1:bO a with
  |none=>rw[e1] at b;cases b
  |some d=>rw[e1] at b;cases b;rw[Ki,Ki,gh e1]
theorem DN {e:E}(σ:L2.St)(H:Hp)(R:It->Hp->Prop)(h:wI K sf C 2 .sq2 [e] σ H R):kO K (wE K sf C e) σ H R:=by
 obtain⟨pv,Z,Fs,η,ws,η',ts,A,ev,L,k⟩:=h;obtain⟨⟨m,a⟩,η1,us,e1,e2,rfl⟩:=aL ev;cases e2;obtain⟨f,rfl⟩:∃f,a=.lst f:=by cases a<;>first|exact⟨_,rfl⟩|cases L
 have g:bO f=O ts:=L;have I:=gh g;refine⟨pv,Z,Fs,η,_,_,A,e1,λv Z' H' Fs' G b r s=>?_⟩;obtain⟨a,o,rfl,l,q,p⟩:=Rep.sh r;have hl:=p.length;refine⟨a,rfl,⟨o,.inl<|.inl q.2⟩,k _ _ H' Fs' b.freeze (bu b.own s) ⟨λt i s D=>?_,λt i s D=>?_,by lia⟩ λt i x H1 s D y=>?_⟩
 .exact⟨o,o[i]'(by lia),bR s q.1 q.2,by simp⟩
 .exact⟨o,bR s q.1 q.2,by lia⟩
 .obtain ⟨rfl,y⟩:=y;have hx:=y o (bR s q.1 q.2);have hi':i<f.length:=by lia
  obtain⟨x',n,rx⟩:=p.get (show f[i]?=O f[i] by simp);rw[hx] at n;cases n;obtain⟨u,w,M,N⟩:=gM g (show f[i]?=O f[i] by simp);rw[M] at rx;obtain⟨c,ys,rfl,hq,_,y1,r1,G1,G2,rfl,P,Q,d,p1,y2,r2,G3,G4,e2,g3,g4,d2,p2,q2⟩:=rx;cases e2;obtain rfl:r2=[]:=q2;refine⟨c,y1,y2,(.s,u),(.s,w),rfl,λ_ _ e=>e,s.sqt hq,N,(p1.mono (G':=no) λa h=>(P a h).1).sany.keep s (λ_ z=>z) λ_ _ z=>z.elim,(p2.mono (G':=no) λa h=>(Q a<|g3 a h).1).sany.keep s (λ_ z=>z) λ_ _ z=>z.elim⟩
end
section
variable {K:J2}{sl:Cf}{sf sg:Y->j Y}{C:Call}{σ σ2:L2.St}{Z Z' Z1:Fp}{H H' H1:Hp}{Fs Fs' Fs1:Fps}{η η' η1:Env}{G G' R F:Fp}{tg is:U Y}{pv val:Y->j V}
theorem av:∀(tg:U Y) (η:Env) (i:Y),rd (ag tg η) i=if i∈tg then J else rd η i
|[],η,i=>by simp[ag]
| t::tg,η,i=>by
 show rd (ag tg<|wr η t J) i=_;rw[av tg,bp];by_cases a:i∈tg
 .simp[a]
 .by_cases b:i=t
  .subst b;rw[QH a,QG Ka];split
   .rfl
   .rename_i c;cases e:rd η i with
    |none=>rfl
    |some w=>exact QL ⟨rfl,c8 e⟩ c
  .rw[QH a,QH (show¬i∈t::tg by simp[a,b]),QH<|show¬(i=t/\t < η.length) fromλh=>b h.1]
def Nn (η η':Env):Prop:=∀i,rd η i=J->rd η' i=J
theorem Nn.refl (η:Env):Nn η η:=λ_ h=>h
theorem Nn.trans {a b c:Env}(h:Nn a b)(k:Nn b c):Nn a c:=λi e=>k i<|h i e
theorem jG (η:Env)(a:Y):Nn η (del η a):=λi e=>by
 rw[bp];split
 .rfl
 .exact e
theorem DV {η:Env}{a:Y}{w:W}(h:rd η a≠J):Nn η (put η a w):=λi e=>by
 rw[bp];split
 .rename_i b;rw[<- b.1] at h;exact QL e h
 .exact e
theorem iP:∀{is:U Y} {c:U W} {b η:Env},(∀i∈is,rd b i≠J)->Nn b η->Nn b (putAll is c η)
|[],_,_,_,_,h=>h
|_::_,[],_,_,_,h=>h
|i::is,w::c,b,η,d,h=>by
 show Nn b<|putAll is c<|put η i w;refine iP (λa g=>d a<|Ke _ g) λa e=>?_;rw[bp];split
 .rename_i f;rw[f.1] at e;exact QL e<|d i Ka
 .exact h a e
theorem eI {f:Env->Res (j W×Env)}(m:∀{η o η'},f η=.ok (o,η')->Nn η η'):∀{k:U<|U W} {η η':Env} {c l:U W},(∀i∈tg,rd η i=J)->az tg f k η c=.ok (l,η')->Nn η η'
|[],η,η',c,l,_,h=>by cases h;exact Nn.refl _
| t::k,η,η',c,l,A,h=>by
 obtain⟨η1,n,r⟩:=aa<|show(ofO<|aJ tg t η).bind (λη1=>(f η1).bind λp=>az tg f k (ag tg p.2)<|c++p.1.toList)=_ from h;obtain⟨⟨o,g⟩,s,u⟩:=aa r
 have v:∀{tg:U Y} {t:U W} {η η1:Env},aJ tg t η=O η1->∀i,i ∉ tg->rd η1 i=rd η i:=λ{tg}=>by
  induction tg with
  |nil=>intro t η η1 h i d;cases t with
   |nil=>cases h;rfl
   |cons _ _=>cases h
  | cons a tg y=>intro t η η1 h i d; cases t with
   |nil=>cases h
   |cons w t=>have:=y (show aJ tg t (put η a w)=O η1 from h) i λz=>d<|Ke _ z;rw[this,bp,QH λz=>d<|by rw[z.1];exact Ka]
 have e1:=v<|cZ n
 have x:∀i,rd η i=J->rd (ag tg g) i=none:=λi e=>by
  rw[av];split
  .rfl
  .rename_i d;exact m s i<|by rw[e1 i d];exact e
 exact Nn.trans (b:=ag tg g) x<|eI m (λi d=>by rw[av,QG d]) u
def eP (sf sg:Y->j Y)(tg:U Y)(is:U Y):Prop:=
 ∀i a,sg i=O a->(∃k:Y,tg[k]?=O i/\a=k)\/(i ∉ tg/\∃(k b:Y),a=tg.length+k/\is[k]?=O b/\sf i=O b)
theorem At.pin (A:At K ⟨sf,pv⟩ σ Z H Fs η G):∃val,(∀i u,pv i=O u->val i=O u)/\At K ⟨sf,val⟩ σ Z H Fs η G/\∀i m t,rd η i=O (m,t)->val i≠none:=by
 have ch:∀i,∃o:j V,(∀u,pv i=O u->o=O u)/\(∀u a,o=O u->sf i=O a->σ[a]?=O (O u))/\∀m t,rd η i=O (m,t)->∃v,o=O v/\Rep K Z H m t v (Fs i)/\(∀a,sf i=O a->σ[a]?=O (O v)):=λi=>by
  cases e:rd η i with
  |none=>exact⟨pv i,λ_ h=>h,λu a h d=>A.lk i u a h d,λ_ _ h=>by cases h⟩
  |some w=>obtain⟨m,t⟩:=w;obtain⟨v,r,c,f⟩:=A.env i m t e;refine⟨O v,λu h=>by rw[f u h],λu a h d=>?_,λk l h=>by cases h;exact⟨v,rfl,r,c⟩⟩;cases h;exact c a d
 obtain⟨val,b⟩:=Classical.axiomOfChoice ch;refine⟨val,λi u h=>(b i).1 u h,⟨A.gd,λi m t e=>?_,A.own,A.dis,λi u a h d=>(b i).2.1 u a h d,A.ln⟩,λi m t e=>?_⟩
 .obtain ⟨v,c,r,f⟩:=(b i).2.2 m t e;exact⟨v,r,f,λu g=>by rw[show val i=O u from g] at c;cases c;rfl⟩
 .obtain ⟨v,c,r,f⟩:=(b i).2.2 m t e;rw[c];simp
theorem At.unpin (h:∀i u,pv i=O u->val i=O u)(A:At K ⟨sf,val⟩ σ Z H Fs η G):At K ⟨sf,pv⟩ σ Z H Fs η G:=
 ⟨A.gd,λi m t e=>let ⟨v,r,c,d⟩:=A.env i m t e;⟨v,r,c,λu b=>d u<|h i u b⟩,A.own,A.dis,λi u a b f=>A.lk i u a (h i u b) f,A.ln⟩
noncomputable def inV (val:Y->j V)(tg:U Y):Y->j V:=λi=>if i∈tg then J else val i
theorem At.into (I:eP sf sg tg is)(x:∀i∈tg,rd η i=J)(l:∀(k c:Y) (v:V),is[k]?=O c->σ[c]?=O (O v)->σ2[tg.length+k]?=O (O v))(w:∀i a,sg i=O a->a < σ2.length)(A:At K ⟨sf,val⟩ σ Z H Fs η G):At K ⟨sg,inV val tg⟩ σ2 Z H Fs η G:=by
 refine⟨A.gd,λi m t e=>?_,A.own,A.dis,λi u a n g=>?_,w⟩
 .have f:i ∉ tg:=fun h=>by rw [x i h] at e; cases e
  obtain⟨v,r,o,p⟩:=A.env i m t e;refine⟨v,r,λa s=>?_,λu n=>p u (by have d:inV val tg i=O u:=n;unfold inV at d;rw[QH f] at d;exact d)⟩;rcases I i a s with⟨k,hk,_⟩|⟨_,k,c,rfl,hk,g⟩
  .exact QL (LX hk) f
  .exact l k c v hk (o c g)
 .have f:i ∉ tg:=fun h=>by have b:inV val tg i=O u:=n;unfold inV at b;rw[QG h] at b;cases b
  have b:val i=O u:=by have d:inV val tg i=O u:=n;unfold inV at d;rw[QH f] at d;exact d
  rcases I i a g with⟨k,hk,_⟩|⟨_,k,c,rfl,hk,g⟩
  .exact QL (LX hk) f
  .exact l k c u hk (A.lk i u c b g)
theorem At.outof (k:∀i∈tg,rd η i=J)(l:∀i m t,rd η i=O (m,t)->val i≠J)(lk:∀i u a,val i=O u->sf i=O a->σ[a]?=O (O u))(n:∀i a,sf i=O a->a < σ.length)(A:At K ⟨sg,inV val tg⟩ σ2 Z H Fs η G):At K ⟨sf,val⟩ σ Z H Fs η G:=by
 refine⟨A.gd,λi m t e=>?_,A.own,A.dis,lk,n⟩;have f:i ∉ tg:=λh=>by rw[k i h] at e;cases e
 obtain⟨v,r,p,d⟩:=A.env i m t e;cases b:val i with
 |none=>exact QL b<|l i m t e
 |some u=>have:v=u:=d u (by show inV val tg i=O u;unfold inV;rw[QH f];exact b);subst this;exact⟨v,r,λa g=>lk i v a b g,λo c=>by rw[show val i=O o from c] at b;cases b;rfl⟩
end
section
variable {C:Call}
mutual
theorem ax:∀(e:E) {η η':Env} {w:W},evE C e η=.ok (w,η')->Nn η η'
|.var i,η,η',w,h=>by obtain⟨_,_,e⟩:=ay<|show ret η ((rd η i).bind look)=_ from h;cases e;exact Nn.refl _
|.mv i,η,η',w,h=>by obtain⟨_,_,e⟩:=ay<|show ret (del η i) (rd η i)=_ from h;cases e;exact jG _ _
|.io i,η,η',w,h=>by obtain⟨_,_,e⟩:=ay<|show ret (del η i) (rd η i)=_ from h;cases e;exact jG _ _
|.cst t,η,η',w,h=>by cases h;exact Nn.refl _
|.tup es,η,η',w,h=>by obtain⟨⟨ws,η1⟩,h1,h2⟩:=aa<|show(evL C es η).bind rA=_ from h;cases h2;exact fz es h1
|.lst b es,η,η',w,h=>by obtain⟨⟨ws,η1⟩,h1,h2⟩:=aa<|show(evL C es η).bind (va b)=_ from h;cases h2;exact fz es h1
|.op o b es,η,η',w,h=>by obtain⟨ws,h1,h2⟩:=dk h;exact fz es h1
|.and a b,η,η',w,h=>by
 obtain⟨⟨u,η1⟩,h1,h2⟩:=aa<|show(evE C a η).bind (qL<|evE C b)=_ from h;obtain⟨d,h3,h4⟩:=bj<|show onT (evE C b) (okW u) (u,η1)=_ from h2;cases d with
 |true=>rw[QG rfl] at h4;exact(ax a h1).trans<|ax b h4
 |false=>rw[QH Kv] at h4;cases h4;exact ax a h1
|.or a b,η,η',w,h=>by
 obtain⟨⟨u,η1⟩,h1,h2⟩:=aa<|show(evE C a η).bind (kOr<|evE C b)=_ from h;obtain⟨d,h3,h4⟩:=bj<|show onT (okW u) (evE C b) (u,η1)=_ from h2;cases d with
 |false=>rw[QH Kv] at h4;exact(ax a h1).trans<|ax b h4
 |true=>rw[QG rfl] at h4;cases h4;exact ax a h1
|.not a,η,η',w,h=>by obtain⟨⟨u,η1⟩,h1,h2⟩:=aa<|show(evE C a η).bind qo=_ from h;obtain⟨_,_,e3⟩:=ay<|show ret η1 _=_ from h2;cases e3;exact ax a h1
|.ifx c a b,η,η',w,h=>by
 obtain⟨⟨u,η1⟩,h1,h2⟩:=aa<|show(evE C c η).bind (onT (evE C a)<|evE C b)=_ from h;obtain⟨d,h3,h4⟩:=bj h2;cases d with
 |true=>rw[QG rfl] at h4;exact(ax c h1).trans<|ax a h4
 |false=>rw[QH Kv] at h4;exact(ax c h1).trans<|ax b h4
| .chain o q a b c,η,η',w,h=>by
 obtain⟨⟨x,η1⟩,h1,h2⟩:=aa<|show(evE C a η).bind (kC1 o q (evE C b)<|evE C c)=_ from h;obtain⟨⟨y,η2⟩,h3,h4⟩:=aa<|show(evE C b η1).bind (kC2 o q (evE C c) x)=_ from h2;obtain⟨⟨k,η3⟩,h5,h6⟩:=aa<|show(ret η2<|oSem o JY [x,y]).bind (λk=>onB k.1.2 (then' (evE C c)<|kC3 q y) (okW (.d,.bl JY)) k.2)=_ from h4;obtain⟨k',_,e5⟩:=ay h5;have e6:η3=η2:=QW LO e5;have n2:=(ax a h1).trans<|ax b h3;have h6':onB k.2 (then' (evE C c) (kC3 q y)) (okW (.d,.bl JY)) η2=.ok (w,η'):=by rw[<- e6];exact h6
 generalize k.2=kk at h6';cases kk with
 | bl b =>
  cases b with
  |true=>obtain⟨⟨z,η4⟩,h7,h8⟩:=aa<|show(evE C c η2).bind (kC3 q y)=_ from h6';obtain⟨z',_,e8⟩:=ay<|show ret η4 (oSem q JY [y,z])=_ from h8;have e9:η'=η4:=QW LO e8;rw[e9];exact n2.trans<|ax c h7
  |false=>cases h6';exact n2
 |_=>cases h6'
|.call f es,η,η',w,h=>by obtain⟨⟨ws,η1⟩,h1,h2⟩:=aa<|show(evA C es η).bind (kZ C f<|ios es)=_ from h;obtain⟨⟨u,us⟩,h3,h4⟩:=aa<|show(C f ws).bind (oU (ios es) η1)=_ from h2;cases h4;exact iP (jR es h1)<|gx es h1
|.comp b k src tg J elt,η,η',w,h=>by obtain⟨⟨ws,η1⟩,h1,h2⟩:=aa<|show(evL C src η).bind (ei b k tg<|bE<|evE C elt)=_ from h;obtain⟨⟨ts,η2⟩,h3,h4⟩:=aa<|show(ret (ag tg η1)<|bV k ws).bind (λt=>(az tg (bE<|evE C elt) t.1 t.2 []).bind<|iq b)=_ from h2;obtain⟨_,_,e3⟩:=ay h3;have e4:η2=ag tg η1:=QW LO e3;subst e4;obtain⟨⟨us,η3⟩,h5,h6⟩:=aa<|show(az tg (bE<|evE C elt) ts (ag tg η1) []).bind (iq b)=_ from h4;obtain⟨_,_,e6⟩:=ay<|show ret η3 _=_ from h6;have e7:η'=η3:=QW LO e6;subst e7;refine(fz src h1).trans<|Nn.trans (b:=ag tg η1) (λi e=>by rw[av];split<;>first|rfl|exact e)<|eI (λ{η o η'} hf=>?_) (λi hi=>by rw[av,QG hi]) h5;obtain⟨⟨u,η4⟩,h7,h8⟩:=aa<|show(evE C elt η).bind c9=_ from hf;cases h8;exact ax elt h7
| .comp b k src tg (O c) elt,η,η',w,h=>by
 obtain⟨⟨ws,η1⟩,h1,h2⟩:=aa<|show(evL C src η).bind (ei b k tg<|b8 (evE C c)<|evE C elt)=_ from h;obtain⟨⟨ts,η2⟩,h3,h4⟩:=aa<|show(ret (ag tg η1)<|bV k ws).bind (λt=>(az tg (b8 (evE C c)<|evE C elt) t.1 t.2 []).bind<|iq b)=_ from h2;obtain⟨_,_,e3⟩:=ay h3;have e4:η2=ag tg η1:=QW LO e3;subst e4;obtain⟨⟨us,η3⟩,h5,h6⟩:=aa<|show(az tg (b8 (evE C c)<|evE C elt) ts (ag tg η1) []).bind (iq b)=_ from h4;obtain⟨_,_,e6⟩:=ay<|show ret η3 _=_ from h6;have e7:η'=η3:=QW LO e6;subst e7;refine(fz src h1).trans<|Nn.trans (b:=ag tg η1) (λi e=>by rw[av];split<;>first|rfl|exact e)<|eI (λ{η o η'} hf=>?_) (λi hi=>by rw[av,QG hi]) h5;obtain⟨⟨u,η4⟩,h7,h8⟩:=aa<|show(evE C c η).bind (onT (bE<|evE C elt)<|okW J)=_ from hf;obtain⟨d,h9,h10⟩:=bj h8;cases d with
 |true=>rw[QG rfl] at h10;obtain⟨⟨u2,η5⟩,h11,h12⟩:=aa<|show(evE C elt η4).bind c9=_ from h10;cases h12;exact(ax c h7).trans<|ax elt h11
 |false=>rw[QH Kv] at h10;cases h10;exact ax c h7
|.lenV i,η,η',w,h=>by obtain⟨_,_,e⟩:=ay<|show ret η ((rd η i).bind λw=>oSem .len JY [w])=_ from h;cases e;exact Nn.refl _
| .compV b i t c e,η,η',w,h=>by
 obtain⟨ts,h1,h2⟩:=aa<|show(ofO<|vwT<|rd η i).bind (kV1 b i t (b8 (evE C c)<|evE C e) η)=_ from h;obtain⟨⟨u,η1⟩,h3,h4⟩:=aa<|show((az [t] (b8 (evE C c)<|evE C e) (ts.map λu=>[(.s,u)]) (ag [t]<|del η i) []).bind<|iq b).bind (kV2 i<|rd η i)=_ from h2;obtain⟨⟨us,η2⟩,h5,h6⟩:=aa h3;obtain⟨_,_,e6⟩:=ay<|show ret η2 _=_ from h6;cases e6;cases h4
 have nc:Nn (ag [t] (del η i)) η1:=by
  refine eI (λ{η o η'} hf=>?_) (λj hj=>by rw[av,QG hj]) h5;obtain⟨⟨u,η4⟩,h7,h8⟩:=aa<|show(evE C c η).bind (onT (bE<|evE C e)<|okW J)=_ from hf;obtain⟨d,h9,h10⟩:=bj h8;cases d with
  |true=>rw[QG rfl] at h10;obtain⟨⟨u2,η5⟩,h11,h12⟩:=aa<|show(evE C e η4).bind c9=_ from h10;cases h12;exact(ax c h7).trans<|ax e h11
  |false=>rw[QH Kv] at h10;cases h10;exact ax c h7
 intro j e;rw[bp];split
 .rename_i hc;rw[<- hc.1];exact e
 .refine nc j ?_;rw[av];split
  .rfl
  .exact jG η i j e
|.popN i e,η,η',w,h=>by obtain⟨_,_,h0⟩:=aa<|show(ib<|rd η i).bind (f6 (evE C e) η<|gj i)=_ from h;obtain⟨⟨u,η1⟩,h1,h2⟩:=aa<|show(evE C e η).bind (gj i)=_ from h0;obtain⟨r,h3,h4⟩:=aa<|show(ofO<|(rd η1 i).bind λw=>iU w u).bind (λr=>.ok (r.1,put η1 i r.2))=_ from h2;cases h4;refine(ax e h1).trans<|DV ?_;have:=cZ h3;intro e;rw[e] at this;cases this
theorem fz:∀(es:U E) {η η':Env} {ws:U W},evL C es η=.ok (ws,η')->Nn η η'
|[],η,η',ws,h=>by cases h;exact Nn.refl _
|e::es,η,η',ws,h=>by obtain⟨w,η1,us,h1,h2,_⟩:=aL h;exact(ax e h1).trans<|fz es h2
theorem gx:∀(es:U E) {η η':Env} {ws:U W},evA C es η=.ok (ws,η')->Nn η η'
|[],η,η',ws,h=>by cases h;exact Nn.refl _
| e::es,η,η',ws,h=>by
 rcases Fg e with⟨i,hi⟩|he
 .subst hi;obtain⟨us,η1,w,h1,_,_,h4⟩:=jC h;rw[h4];exact(gx es h1).trans<|jG _ _
 .obtain ⟨w,η1,us,h1,h2,_⟩:=gN he h;exact(ax e h1).trans<|gx es h2
theorem jR:∀(es:U E) {η η':Env} {ws:U W},evA C es η=.ok (ws,η')->∀i∈ios es,rd η i≠J
|[],_,_,_,_,i,hi=>by simp[ios] at hi
| e::es,η,η',ws,h,i,hi=>by
 rcases Fg e with⟨j,hj⟩|he
 .subst hj;obtain⟨us,η1,w,h1,h2,_,_⟩:=jC h;rcases Kg.mp (show i∈j::ios es from hi) with z|z
  .subst z;exactλz=>by rw[gx es h1 i z] at h2;cases h2
  .exact jR es h1 i z
 .obtain ⟨w,η1,us,h1,h2,_⟩:=gN he h
  have hi':i∈ios es:=by
   cases e with
   |io j=>exact QL rfl (he j)
   |_=>exact hi
  exactλz=>jR es h2 i hi'<|ax e h1 i z
end
end
section
variable {K:J2}{sl:Cf}{sf sg:Y->j Y}{C:Call}{σ σ2:L2.St}{Z Z' Z1:Fp}{H H' H1:Hp}{Fs Fs' Fs1:Fps}{η η' η1 ηb:Env}{G G' R F:Fp}{tg is:U Y}{pv val:Y->j V}
def gT (K:J2):Y->TG
|1=>cu 0
|2=>zB K 2<|gz (cu 0)<|gz (cu 1) xU
|_=>λ_ _ _ _=>QX
theorem At.put1 {i:Y}{w:W}{x:V}(A:At K sl σ Z H Fs η G)(r:Rep K Z H w.1 w.2 x<|Fs i)(d:∀a,sl.sl i=O a->σ[a]?=O (O x))(hp:sl.pv i=J):At K sl σ Z H Fs (put η i w) G:=by
 refine⟨A.gd,λa m t e=>?_,A.own,A.dis,A.lk,A.ln⟩;rw[bp] at e;split at e
 .rename_i c;cases e;obtain⟨rfl,_⟩:=c;exact⟨x,r,d,λu b=>by rw[hp] at b;cases b⟩
 .exact A.env a m t e
theorem ik {k a:Y}{v:V}(b:is[k]?=O a)(c:σ[a]?=O (O v)):(bC σ is)[k]?=O (O v):=by unfold bC;rw[Kz,b];show O ((σ[a]?).join)=_;rw[c];rfl
theorem fy (I:eP sf sg tg is)(h:σ2.length=tg.length+is.length):∀i a,sg i=O a->a < σ2.length:=λi a b=>by
 rcases I i a b with⟨k,hk,rfl⟩|⟨_,k,c,rfl,hk,_⟩
 .have:=(Le.mp hk).1;lia
 .have:=(Le.mp hk).1;lia
theorem pO {n i:Y}{c:It}{ts:U<|U W}{ws:U W}{x:V}{Q:L2.St->Hp->Prop}(hn:tg.length=n)(nd:tg.Nodup)(I:eP sf sg tg is)(hz:∀a,Z1 a->Z a)(st:Stay Z1 H1 H)(D:Yld K c Z1 H1 ts n)(A:At K ⟨sf,val⟩ σ Z H Fs η G)
  (ht:∀i∈tg,rd η i=J) (hw:ts[i]?=O ws) (hb:aJ tg ws η=O ηb) (y:c.yld i H x H')
  (k:∀σ2 N,At K ⟨sg,inV val tg⟩ σ2 Z N Fs ηb G->Step Z H no Z N no->(σ2.length=n+(bC σ is).length/\σ2.drop n=bC σ is)->Q σ2 N):gT K n x (Kb n J++bC σ is) H' Q:=by
 have hi:i<ts.length:=(Le.mp hw).1;have g:∀{t:Y},t∈tg->inV val tg t=none:=λ{t} h=>QG h
 match n,D with
 | 1,D =>
  obtain⟨e0,w,f,r⟩:=D H i x H' st hi y;rw[e0];rw[hw] at f;cases f
  match tg,hn with
  | [t],_ =>
   cases hb;have r':Rep K Z H w.1 w.2 x (Fs t):=(r.zmono hz).mono λ_ z=>z.elim;refine k _ H ?_ (Step.refl _ _ _) ⟨by simp[Mn],rfl⟩;refine(A.into (σ2:=O x::bC σ is) I ht (λk j0 v P h2=>?_)<|fy I<|by simp[bC,Mn]).put1 r' (λd m=>?_)<|g<|by simp
   .rw[KN,Mn,Ld];exact ik P h2
   .rcases I t d m with ⟨k,hk,rfl⟩ | ⟨h,_⟩
    .cases d with
     |zero=>rfl
     |succ _=>simp at hk
    .exact QL (KA.mpr rfl) h
 | 2,D =>
  obtain⟨p,s,l,u,w,rfl,L,hq,f,r1,r2⟩:=D H i x H' st hi y;rw[hw] at f;cases f
  match tg,hn with
  | [t,M],_ =>
   cases hb;have o:t≠M:=λz=>by simp[z] at nd
   have s1:Step Z H G Z H' G:=gn L;have o1:Own Z H' G:=λa ha=>by obtain⟨nz,ys,e⟩:=A.own a ha;exact⟨nz,ys,L _ _ e⟩
   obtain⟨A1,_⟩:=A.op o1 s1;have sn:Stay Z H H':=lD L;have r1':Rep K Z H' u.1 u.2 s (Fs t):=((r1.zmono hz).keep sn (λ_ z=>z) λ_ _ z=>z.elim).mono λ_ z=>z.elim;have r2':Rep K Z H' w.1 w.2 l (Fs M):=((r2.zmono hz).keep sn (λ_ z=>z) λ_ _ z=>z.elim).mono λ_ z=>z.elim;have s0:Step Z H no Z H' no:=gn L;refine⟨p,[s,l],rfl,hq,rfl,s,[l],rfl,l,[],rfl,rfl,k (O s::O l::bC σ is) _ ?_ s0 ⟨by simp;lia,rfl⟩⟩;refine((A1.into (σ2:=O s::O l::bC σ is) I ht (λk j0 v P h2=>?_)<|fy I<|by simp[bC];lia).put1 r1' (λd m=>?_)<|g<|by simp).put1 r2' (λd m=>?_)<|g<|by simp
   .rw[show[t,M].length+k=k+1+1 by simp;lia,Ld,Ld];exact ik P h2
   .rcases I t d m with ⟨k,hk,rfl⟩ | ⟨h,_⟩
    .match d,hk with
     |0,_=>rfl
     |1,hk=>exact QL (KH hk).symm o
    .exact QL (by simp) h
   .rcases I M d m with ⟨k,hk,rfl⟩ | ⟨h,_⟩
    .match d,hk with
     |0,hk=>exact QL (KH hk) o
     |1,_=>rfl
    .exact QL (by simp) h
def da (Fs:Fps)(tg:U Y):Fps:=λb a=>b ∉ tg/\Fs b a
theorem bH {a:QF}(h:tot (da Fs tg) a):tot Fs a:=let ⟨b,_,c⟩:=h;⟨b,c⟩
theorem At.dels (A:At K sl σ Z H Fs η G):At K sl σ Z H (da Fs tg) (ag tg η) G:=by
 refine⟨⟨λa h=>A.gd.own a<|bH h,λi b a c d=>A.gd.dis i b a c.2 d.2,A.gd.zal⟩,λi m t e=>?_,A.own,λa h q=>A.dis a h<|bH q,A.lk,A.ln⟩;rw[av] at e;split at e
 .cases e
 .rename_i g;obtain⟨v,r,h⟩:=A.env i m t e;exact⟨v,r.mono λa f=>⟨g,f⟩,h⟩
theorem dg:∀{tg:U Y} {t:U W} {η η1:Env},aJ tg t η=O η1->∀i,i ∉ tg->rd η1 i=rd η i
|[],[],η,η1,h,i,_=>by cases h;rfl
|[],_::_,_,_,h,_,_=>by cases h
|_::_,[],_,_,h,_,_=>by cases h
|a::tg,w::t,η,η1,h,i,b=>by rw[dg (show aJ tg t (put η a w)=O η1 from h) i λz=>b<|Ke _ z,bp,QH λz=>b<|by rw[z.1];exact Ka]
structure CSt (K:J2)(sf:Y->Option Y)(val:Y->Option V)(σ:L2.St)(tg:U Y)(f:Env->Res (Option W×Env))(ts:U (U W))(η0:Env)(us:U W)(η3:Env)(Z1:Fp)(H1:Hp)(F1:Fp)(i:Y)(ys:U V)(H:Hp):Prop where
 ex:∃(Z:Fp) (Fs:Fps) (η:Env) (acc:U W) (G:Fp),At K ⟨sf,val⟩ σ Z H Fs η G/\RepW K Z H acc ys G/\az tg f (ts.drop i) η acc=.ok (us,η3)/\(∀j∈tg,rd η j=J)/\(∀j∈tg,∀a,¬Fs j a)/\Nn η0 η/\Step Z1 H1 F1 Z H (λa=>tot Fs a\/G a)
 len:ys.length<=i
theorem lq {h:QJ}{c:U W}{i:U V}{w:W}{Q:VK}(o:Own Z H G)(v:∀a,Z a->H a≠J)(r:RepW K Z H c i G)(n:i.length<=LIM)(b:(if h then(if c.all okD then O ((.d,.lst<|aO c):W) else J) else O (.o .s,.lst<|aO c))=O w)(k:Out K Z H G w Q):∀p,H p=J->Q (.ref p) (upd H p<|.lst i):=by
 intro p hp;cases h with
 | true =>
  rw[QG rfl] at b;split at b
  .rename_i l;cases b;rw[KI] at l
   obtain⟨G',e,f⟩:=RepW.to (N:=.d) (λu t=>by
    have:=l u t;unfold okD at this;rw[PF] at this;unfold M.lf;split
    .rfl
    .rename_i g;rcases this with z|z
     .rw[eq_of_beq z];rfl
     .exact QL z g) r
   exact bh (m:=.d) o v e n f (by simp) k hp
  .cases b
 |false=>rw[QH Kv] at b;cases b;obtain⟨G',e,f⟩:=RepW.to (N:=.s) (λu t=>by cases M.lf u.1 u.2<;>rfl) r;exact bh (m:=.o .s) o v e n f (by simp) k hp
end
section
variable {K:J2}{sf sg:Y->j Y}{C:Call}{tg is:U Y}
theorem eY {b:Type}{l:U b}{i:Y}{a:b}(h:l[i]?=O a):l.drop i=a::l.drop (i+1):=by obtain⟨c,d⟩:=Le.mp h;rw[OR c,d]
theorem vd {h:QJ}{k:Ik}{f:Env->Res (j W×Env)}{p:U W×Env}{w:W}{b:Env}(e:ei h k tg f p=.ok (w,b)):∃c a,bV k p.1=O c/\az tg f c (ag tg p.2) []=.ok (a,b)/\(if h then(if a.all okD then O ((.d,.lst<|aO a):W) else J) else O (.o .s,.lst<|aO a))=O w:=by obtain⟨⟨c,l⟩,x,y⟩:=aa<|show(ret (ag tg p.2)<|bV k p.1).bind (λt=>(az tg f t.1 t.2 []).bind<|iq h)=_ from e;obtain⟨i,D,e3⟩:=ay x;have n:c=i:=QW NZ e3;have r:l=ag tg p.2:=QW LO e3;subst n r;obtain⟨⟨a,g⟩,z,A⟩:=aa<|show(az tg f c (ag tg p.2) []).bind (iq h)=_ from y;obtain⟨G,F,m⟩:=ay<|show ret g (if h then(if a.all okD then O ((.d,.lst<|aO a):W) else J) else O (.o .s,.lst<|aO a))=_ from A;have u:w=G:=QW NZ m;have v:b=g:=QW LO m;subst u v;exact⟨c,a,D,z,F⟩
theorem gi {f:Env->Res (j W×Env)}{t:U W}{k:U<|U W}{l g:Env}{a n:U W}(e:az tg f (t::k) l a=.ok (n,g)):∃h o i,aJ tg t l=O h/\f h=.ok (o,i)/\az tg f k (ag tg i) (a++o.toList)=.ok (n,g):=by obtain⟨d,r,s⟩:=aa<|show(ofO<|aJ tg t l).bind (λd=>(f d).bind λp=>az tg f k (ag tg p.2)<|a++p.1.toList)=_ from e;obtain⟨⟨o,m⟩,u,v⟩:=aa s;exact⟨d,o,m,cZ r,u,v⟩
theorem iH {n:Y}{h:QJ}{k:Ik}{src:U E}{f:Env->Res (j W×Env)}{te:L2.St->Hp->(j V->Hp->Prop)->Prop}(hn:tg.length=n)(nd:tg.Nodup)(I:eP sf sg tg is)
  (hf:∀{N o η'},f N=.ok (o,η')->Nn N η')
  (hte:∀ {val:Y->j V} {l:L2.St} {Z:Fp} {H:Hp} {Fs:Fps} {N L:Env} {R:Fp} {o:j W} {Q:j V->Hp->Prop},At K ⟨sg,val⟩ l Z H Fs N R->f N=.ok (o,L) ->
   (∀oy Z' H' Fs' G,At K ⟨sg,val⟩ l Z' H' Fs' L (λc=>R c\/G c)->(match o,oy with|some w,O y=>Rep K Z' H' w.1 w.2 y G|none,J=>Ra|_,_=>QX)->(∀c,R c->¬G c)->Step Z H (tot Fs) Z' H' (λa=>tot Fs' a\/G a)->Q oy H')->te l H Q)
  {e:E} (he:∀N,evE C e N=(evL C src N).bind (ei h k tg f)) (σ:L2.St) (H:Hp) (Q:VK) (hw:wE K sf C e σ H Q):
  wI K sf C n k src σ H λd H1=>∃W:Y->Y->U V->Hp->Prop,(∃m,W 0 m [] H1)/\∀i m D H,W i m D H ->
   (d.stop i H/\D.length<=sizeLine/\∀p,H p=J->Q (.ref p) (upd H p<|.lst D)) \/
   (d.go i H/\D.length<sizeLine/\∀x H',d.yld i H x H'->gT K n x (Kb n J++bC σ is) H' λl H2=>(l.length=n+(bC σ is).length/\l.drop n=bC σ is)/\te l H2 λoy H3=>∃m',m'<m/\W (i+1) m' (D++oy.toList) H3):=by
 obtain⟨pv,Z,Fs,N,w,η',A,ev,kk⟩:=hw;rw[he] at ev;obtain⟨⟨ws,F⟩,h1,h2⟩:=aa ev;obtain⟨M,us,ht,h3,h4⟩:=vd h2;refine⟨pv,Z,Fs,N,ws,F,M,A,h1,ht,λd Z1 H1 P A1 s1 wk yl=>?_⟩;obtain⟨val,v1,A2,v2⟩:=(A1.dels (tg:=tg)).pin;have s1':Step Z H (tot Fs) Z1 H1 (tot (da P tg)):=s1.mono (λ_ z=>z) λ_ z=>bH z;refine⟨λi m D H=>m=M.length-i/\i<=M.length/\CSt K sf val σ tg f M (ag tg F) us η' Z1 H1 (tot<|da P tg) i D H,⟨M.length,by simp,Kx _,⟨⟨Z1,da P tg,ag tg F,[],no,A2,rfl,h3,λg s=>by rw[av,QG s],λg s a v=>v.1 s,Nn.refl _,(Step.refl _ _ _).mono (λ_ z=>z) λa v=>v.elim id λz=>z.elim⟩,J9 _⟩⟩,?_⟩;rintro i m D H0 ⟨rfl,hi,⟨⟨Zi,Fsi,ηi,acc,Ga,Ai,ra,hc,htg,hfp,hnn,si⟩,r⟩⟩;have st:Stay Z1 H1 H0:=A2.gd.own.stay si;have hL:=wk.len;by_cases hlt:i<M.length
 .right;refine⟨wk.go H0 i st hlt,M9 (Ky r hi) (gY hL),λx H2 y=>?_⟩;have hw:M[i]?=O M[i]:=by simp[hlt]
  rw[eY hw] at hc;obtain⟨ηb,o,L,hb,hfe,hc2⟩:=gi hc;refine pO hn nd I si.zm st yl Ai htg hw hb y λl H3 A3 s3 hσ=>⟨hσ,?_⟩;refine hte A3 hfe λoy Z4 H4 Fs4 G4 A4 r4 d4 s4=>⟨M.length-(i+1),by lia,rfl,hlt,⟨?_,?_⟩⟩
  .have ra3:RepW K Zi H3 acc D Ga:=ra.frame bX s3 fun _ _ z=>z;have ra4:RepW K Z4 H4 acc D Ga:=ra3.frame A3.gd.own s4 A3.dis
   have vv:∀g m t,rd (ag tg L) g=O (m,t)->val g≠none:=λg m t e=>by
    rw[av] at e;split at e
    .cases e
    .rename_i s;have n1:rd ηb g≠none:=λz=>by rw[hf hfe g z] at e;cases e
     rw[dg hb g s] at n1;have n2:rd (ag tg F) g≠none:=λz=>n1<|hnn g z;cases e2:rd (ag tg F) g with
     |none=>exact QL e2 n2
     |some u=>exact v2 g u.1 u.2 e2
   have A5:=(A4.dels (tg:=tg)).outof (sf:=sf) (σ:=σ) (val:=val) (λg s=>by rw[av,QG s]) vv Ai.lk Ai.ln
   have s5:Step Z1 H1 (tot (da P tg)) Z4 H4 (λa=>tot (da Fs4 tg) a\/(Ga a\/G4 a)):=by
    refine(si.trans<|((s3.frame λa=>tot Fsi a\/Ga a).mono (λa v=>v.elim (λz=>z.elim) id) λa v=>.inr v).trans<|s4.frame Ga).mono (λ_ z=>z) λa v=>?_;rcases v with z|z|z
    .exact .inl (.inl<|bH z)
    .exact .inr z
    .exact .inl (.inr z)
   refine⟨Z4,da Fs4 tg,ag tg L,acc++o.toList,λc=>Ga c\/G4 c,A5,?_,hc2,λg s=>by rw[av,QG s],λg s a v=>v.1 s,λg e=>?_,s5⟩
   .cases o with
    |none=>
     cases oy with
     |none=>rw[ME,ME,KR,KR];exact ra4.mono λ_ z=>.inl z
     |some _=>exact r4.elim
    |some w4=>
     cases oy with
     |none=>exact r4.elim
     |some y4=>exact RepW.append (λ_ z=>.inl z) (λ_ z=>.inr z) d4 ra4<|RepW.one r4
   .have e':=hnn g e;rw[av];split
    .rfl
    .rename_i s;exact hf hfe g<|by rw[dg hb g s];exact e'
  .have:D.length<=i:=r;cases oy<;>simp<;>lia
 .left;have hi':i=M.length:=by lia
  subst hi';rw[NC] at hc;cases hc;refine⟨wk.stop H0 _ st<|J9 _,br<|Ky r hL,lq Ai.own Ai.gd.zal ra (Ky r hL) h4<|cy (Ai.unpin v1) (s1'.trans si) kk⟩
theorem kP {n:Y}{h:QJ}{k:Ik}{e:U E}{b:E}(D:tg.length=n)(nd:tg.Nodup)(I:eP sf sg tg is)(x:L2.St)(H:Hp)(Q:VK)(F:wE K sf C (.comp h k e tg J b) x H Q):jJ n (wI K sf C n k e) is (gT K n) (wE K sg C b) x H Q:=by
 refine iH (te:=λf H Q=>wE K sg C b f H λy l=>Q (O y) l) D nd I (λ{g o L} t=>?_) (λ{val f Z H N g M R o Q} A t k=>?_) (λg=>rfl) x H Q F
 .obtain ⟨⟨u,w⟩,m,p⟩:=aa<|show (evE C b g).bind c9=_ from t;cases p;exact ax b m
 .obtain ⟨⟨u,w⟩,m,p⟩:=aa<|show (evE C b g).bind c9=_ from t;cases p;exact iB A m λv z l i G a r d s _=>k (O v) z l i G a r d s
theorem lh {n:Y}{h:QJ}{k:Ik}{D:U E}{l t:E}(hn:tg.length=n)(nd:tg.Nodup)(I:eP sf sg tg is)(σ:L2.St)(H:Hp)(Q:VK)(hw:wE K sf C (.comp h k D tg (O t) l) σ H Q):dy n (wI K sf C n k D) is (gT K n) (wT K sg C t) (wE K sg C l) σ H Q:=by
 have main:=iH (te:=λσ2 H Q=>wT K sg C t σ2 H λok H2=>if ok=JZ then wE K sg C l σ2 H2 λy F=>Q (O y) F else Q J H2) hn nd I (f:=b8 (evE C t)<|evE C l) (λ{η o η'} hf=>by
  obtain⟨⟨u,P⟩,h7,h8⟩:=aa<|show(evE C t η).bind (onT (bE<|evE C l)<|okW J)=_ from hf;obtain⟨d,h9,p⟩:=bj h8;cases d with
  |true=>rw[QG rfl] at p;obtain⟨⟨u2,η5⟩,M,N⟩:=aa<|show(evE C l P).bind c9=_ from p;cases N;exact(ax t h7).trans<|ax l M
  |false=>rw[QH Kv] at p;cases p;exact ax t h7) (λ{val σ2 Z H Fs η ηc R o Q} A hf k=>by
  obtain⟨⟨u,P⟩,h7,h8⟩:=aa<|show(evE C t η).bind (onT (bE<|evE C l)<|okW J)=_ from hf;obtain⟨d,h9,p⟩:=bj h8;refine l7 A.bare h7 h9 λZ1 H1 Fs1 A1 s1=>?_;have A1':=A.frame (A1.mono (G':=no) λ_ z=>z)<|s1.mono (λ_ z=>z) λa ha=>ha.elim id λz=>z.elim;have A2:=A1'.1.mono (G':=R) λ_ z=>.inl z;cases d with
  |true=>rw[QG rfl] at p ⊢;obtain⟨⟨u2,η5⟩,M,N⟩:=aa<|show(evE C l P).bind c9=_ from p;cases N;exact iB A2 M λv Z' F L G e r d s _=>k (O v) Z' F L G e r d<|s1.trans s
  |false=>
   rw[QH Kv] at p ⊢;cases p;exact k J Z1 H1 Fs1 no (A2.mono λ_ z=>z.elim id λq=>q.elim) trivial (λ_ _ z=>z) (s1.mono (λ_ z=>z) λa ha=>ha.elim id λz=>z.elim)) (λη=>rfl) σ H Q hw
 refine(?_:∀{a b:It->Hp->Prop},(∀g H1,a g H1->b g H1)->wI K sf C n k D σ H a->wI K sf C n k D σ H b) ?_ main
 .rintro a b hab ⟨pv,Z,Fs,η,ws,η',ts,A,ev,ht,kk⟩;exact⟨pv,Z,Fs,η,ws,η',ts,A,ev,ht,λg Z' F L A' s' w' y'=>hab g F<|kk g Z' F L A' s' w' y'⟩
 .rintro g H1 ⟨W,w0,turn⟩;refine⟨W,w0,λi m ys H w=>?_⟩;rcases turn i m ys H w with c|⟨go,hz,step⟩
  .exact .inl c
  .refine .inr ⟨go,hz,fun x F y=>?_⟩;have st:=step x F y;simp only[Po,ME,KR] at st;exact st
end
section
variable {K:J2}{sl:Cf}{sf sg:Y->j Y}{C:Call}{σ σ2:L2.St}{Z Z' Z1:Fp}{H H' H1:Hp}{Fs Fs' Fs1:Fps}{η η' η1 ηb:Env}{G G' G1 R F:Fp}{tg is:U Y}{pv val:Y->j V}
noncomputable def jE (Fs:Fps)(i:Y)(G:Fp):Fps:=λb a=>(b=i/\G a)\/(b≠i/\Fs b a)
theorem bq {i:Y}{a:QF}(h:tot (jE Fs i G) a):tot Fs a\/G a:=by
 obtain⟨b,h|h⟩:=h
 .exact .inr h.2
 .exact .inl ⟨b,h.2⟩
theorem At.put {i:Y}{w:W}{x:V}(A:At K sl σ Z H Fs η G)(r:Rep K Z H w.1 w.2 x G1)(d:∀a,G1 a->G a)(g:∀a,R a->G a)(n:∀a,R a->¬G1 a)(o:∀b,sl.sl i=O b->σ[b]?=O (O x))(hp:∀u,sl.pv i=O u->x=u):
  At K sl σ Z H (jE Fs i G1) (M.put η i w) R:=by
 refine⟨⟨λa h=>(bq h).elim (A.gd.own a) λq=>A.own a<|d a q,λb k a c hk=>?_,A.gd.zal⟩,λb m t e=>?_,λa h=>A.own a<|g a h,λa h q=>(bq q).elim (A.dis a<|g a h)<|n a h,A.lk,A.ln⟩
 .rcases c with ⟨rfl,c⟩ | ⟨y,c⟩
  .rcases hk with ⟨rfl,_⟩ | ⟨p,hk⟩
   .rfl
   .exact QL ⟨k,hk⟩ (A.dis a<|d a c)
  .rcases hk with ⟨rfl,hk⟩ | ⟨p,hk⟩
   .exact QL ⟨b,c⟩ (A.dis a<|d a hk)
   .exact A.gd.dis b k a c hk
 .rw [bp] at e;split at e
  .rename_i f;cases e;obtain⟨rfl,_⟩:=f;exact⟨x,r.mono λa h=>.inl ⟨rfl,h⟩,o,hp⟩
  .rename_i f;obtain⟨v,s,l⟩:=A.env b m t e;by_cases c:b=i
   .subst c;exact QL ⟨rfl,c8 e⟩ f
   .exact⟨v,s.mono λa h=>.inr ⟨c,h⟩,l⟩
def wA (K:J2)(sl:Y->j Y)(C:Call)(c:U E):TA:=λσ H Q=>∃pv Z Fs η d η',At K ⟨sl,pv⟩ σ Z H Fs η no/\evA C c η=.ok (d,η') /\
 ∀b Z' H' Fs' G,At K ⟨sl,pv⟩ σ Z' H' Fs' η' G->RepW K Z' H' d b G->Step Z H (tot Fs) Z' H' (λa=>tot Fs' a\/G a)->(∀(k i:Y) (u:V),c[k]?=O (.io i)->pv i=O u->b[k]?=O u)->Q b H'
theorem CL (σ:L2.St)(H:Hp)(Q:U V->Hp->Prop)(h:wA K sf C [] σ H Q):EA σ H Q:=by obtain⟨pv,Z,Fs,η,c,η',A,ev,k⟩:=h;cases ev;exact k [] Z H Fs no A rfl ((Step.refl _ _ _).mono (λ_ z=>z) λa b=>b.elim id λz=>z.elim) λk i u h _=>by simp at h
theorem Iz {d:U E}{g:U W}{Q:U V->Hp->Prop}(A:At K sl σ Z H Fs η R)(ev:evA C d η=.ok (g,η'))
  (k:∀ f Z' H' Fs' G,At K sl σ Z' H' Fs' η' (fun c=>R c\/G c)->RepW K Z' H' g f G->(∀ c,R c->¬ G c)->Step Z H (tot Fs) Z' H' (fun a=>tot Fs' a\/G a) ->
   Step Z H (λc=>tot Fs c\/R c) Z' H' (λc=>tot Fs' c\/(R c\/G c))->(∀(k i:Y) (u:V),d[k]?=O (.io i)->sl.pv i=O u->f[k]?=O u)->Q f H'):wA K sl.sl C d σ H Q:=
 ⟨sl.pv,Z,Fs,η,g,η',A.bare,ev,fun v Z' H' Fs' G b r s e=>by
  obtain⟨h,l,m⟩:=A.frame b s;exact k v Z' H' Fs' G h r m s l e⟩
theorem se {e:E}{f:U E}(g:∀i,e≠.io i)(σ:L2.St)(H:Hp)(Q:U V->Hp->Prop)(h:wA K sf C (e::f) σ H Q):pf (wE K sf C e) (wA K sf C f) σ H Q:=by
 obtain⟨pv,Z,Fs,η,P,η',A,ev,k⟩:=h;obtain⟨w,η1,N,s,t,rfl⟩:=gN g ev;refine iB A s λx Z1 H1 Fs1 G1 d y _ I _=>?_;have a:=d.mono (G':=G1) λ_ z=>.inr z;refine Iz a t λl p o b n m D r L M c=>?_;refine k (x::l) p o b _ m ⟨x,l,G1,n,rfl,λ_ z=>.inl z,λ_ z=>.inr z,r,y.frame d.gd.own L a.dis,D⟩ (I.trans M) λk i u h v=>?_;cases k with
 |zero=>exact QL (KH h)<|g i
 |succ k=>exact c k i u h v
theorem qh {i b:Y}{s:U E}(M:sf i=O b)(σ:L2.St)(H:Hp)(Q:U V->Hp->Prop)(h:wA K sf C (.io i::s) σ H Q):pf (ku b) (wA K sf C s) σ H Q:=by
 obtain⟨pv,Z,Fs,η,ws,η',A,ev,k⟩:=h;obtain⟨us,η1,w,g,d,rfl,rfl⟩:=jC ev;obtain⟨m,t⟩:=w;cases e0:rd η i with
 |none=>rw[gx s g i e0] at d;cases d
 | some w0 =>
  obtain⟨v,_,hv⟩:=A.env i w0.1 w0.2 e0;refine⟨v,hv.1 b M,pv,Z,Fs,η,us,η1,A,g,λxs Z2 H2 f G2 c r2 s2 D=>?_⟩;obtain⟨N,r,o⟩:=c.env i m t d;have x:N=v:=by have e1:=hv.1 b M;rw[o.1 b M] at e1;exact KH<|KH e1
  subst x
  have A3:At K ⟨sf,pv⟩ σ Z2 H2 (jK f i) (del η1 i) (λa=>f i a\/G2 a):=by
   refine⟨⟨λa ⟨l,g,d⟩=>c.gd.own a ⟨l,d⟩,λl l' a g d=>c.gd.dis l l' a g.2 d.2,c.gd.zal⟩,λl m' t' e=>?_,λa n=>n.elim (λz=>c.gd.own a ⟨i,z⟩)<|c.own a,λa n ⟨l,g,d⟩=>n.elim (λz=>g<|c.gd.dis l i a d z) λz=>c.dis a z ⟨l,d⟩,c.lk,c.ln⟩;rw[bp] at e;split at e
   .cases e
   .rename_i L;obtain⟨P,r',p⟩:=c.env l m' t' e;have I:l≠i:=λz=>L ⟨z,c8 d⟩;exact⟨P,r'.mono λa n=>⟨I,n⟩,p⟩
  refine k (N::xs) Z2 H2 (jK f i) _ A3 ⟨N,xs,f i,G2,rfl,λ_ z=>.inl z,λ_ z=>.inr z,λa z y=>c.dis a y ⟨i,z⟩,r,r2⟩ (s2.mono (λ_ z=>z) λa n=>?_) λk i' u h hu=>?_
  .rcases n with ⟨l,_,z⟩ | z | z
   .exact .inl ⟨l,z⟩
   .exact .inl ⟨i,z⟩
   .exact .inr z
  .cases k with
   |zero=>cases h;rw[<- o.2 u hu];rfl
   |succ k=>exact D k i' u h hu
def atV (a:U Y)(b:U V):U V:=a.filterMap λi=>b[i]?
def spC (K:J2)(C:Call)(f:Y)(e:U Y):U V->Hp->VK->Prop:=λc H Q=>∃Z d G w bs,RepW K Z H d c G/\Own Z H G/\(∀a,Z a->H a≠J)/\C f d=.ok (w,bs) /\
 ∀v Z' H' G1 b,Rep K Z' H' w.1 w.2 v G1->RepW K Z' H' bs (atV e c) b->(∀a,G1 a->¬b a)->Own Z' H' (λa=>G1 a\/b a)->Step Z H G Z' H' (λa=>G1 a\/b a)->Q v H'
noncomputable def gP:U E->Y->U Y
|[],_=>[]
|.io _::a,n=>n::gP a (n+1)
|_::a,n=>gP a<|n+1
theorem AG {vs:U V}:∀{es:U E} {n:Y},(∀(k i:Y) (u:V),es[k]?=O (.io i)->pv i=O u->vs[n+k]?=O u)->(∀i∈ios es,pv i≠J)->(ios es).filterMap pv=atV (gP es n) vs
|[],_,_,_=>rfl
| e::es,n,h,d=>by
 have rest:(∀i∈ios es,pv i≠J)->(ios es).filterMap pv=atV (gP es (n+1)) vs:=λq=>AG (λk i u hk b=>by have:=h (k+1) i u hk b;rw[show n+(k+1)=n+1+k by lia] at this;exact this) q;cases e with
 | io i =>
  cases b:pv i with
  |none=>exact QL b<|d i<|by simp[ios]
  |some u=>have f:=h 0 i u rfl b;rw[Nat.add_zero] at f;show(i::ios es).filterMap pv=(n::gP es (n+1)).filterMap λi=>vs[i]?;rw[LW,LW,b,f];exact QW (u::·)<|rest λa c=>d a<|by simp[ios,c]
 |_=>exact rest λa c=>d a c
theorem At.putAll:∀{is:U Y} {bs:U W} {Fs:Fps} {η:Env} {f:Fp},At K ⟨sf,val⟩ σ Z H Fs η (λa=>R a\/f a)->(∀a,R a->¬f a)->RepW K Z H bs (is.filterMap val) f->(∀i∈is,val i≠J)->∃Fs',At K ⟨sf,val⟩ σ Z H Fs' (M.putAll is bs η) R/\∀a,tot Fs' a->tot Fs a\/f a
|[],bs,Fs,η,f,A,_,_,_=>⟨Fs,A.mono λ_ z=>.inl z,λ_ z=>.inl z⟩
|i::is,[],Fs,η,f,A,_,_,_=>⟨Fs,A.mono λ_ z=>.inl z,λ_ z=>.inl z⟩
| i::is,b::bs,Fs,η,f,A,o,r,s=>by
 cases g:val i with
 |none=>exact QL g<|s i Ka
 |some u=>rw[LW,g] at r;obtain⟨x,I,t,v,e,k,l,ad,p,q⟩:=r;cases e;have c:=At.put (i:=i) (R:=λa=>R a\/v a) (G1:=t) A p (λa h=>.inr<|k a h) (λa h=>h.imp id (l a)) (λa h q=>h.elim (λz=>o a z<|k a q) λz=>ad a q z) (λd m=>A.lk i u d g m) (λD n=>by rw[show val i=O D from n] at g;cases g;rfl);obtain⟨Fs',w,y⟩:=At.putAll (is:=is) (bs:=bs) c (λa h q=>o a h<|l a q) q λd m=>s d<|Ke _ m;exact⟨Fs',w,λa h=>(y a h).elim (λz=>(bq z).imp id (k a)) λz=>.inr<|l a z⟩
theorem zS {f:Y}{es:U E}{y:U Y}(g:gP es 0=y\/ios es=[])(σ:L2.St)(H:Hp)(Q:VK)(h:wE K sf C (.call f es) σ H Q):wA K sf C es σ H λvs H1=>spC K C f y vs H1 Q:=by
 obtain⟨pv,Z,Fs,η,w,η',A,ev,k⟩:=h;obtain⟨⟨l,η1⟩,x,P⟩:=aa<|show(evA C es η).bind (kZ C f<|ios es)=_ from ev;obtain⟨⟨u,bs⟩,h3,h4⟩:=aa<|show(C f l).bind (oU (ios es) η1)=_ from P;cases h4;obtain⟨val,v1,I,v2⟩:=A.pin
 have c:∀i∈ios es,val i≠none:=λi hi=>by
  cases e:rd η i with
  |none=>exact QL e<|jR es x i hi
  |some q=>exact v2 i q.1 q.2 e
 refine⟨val,Z,Fs,η,l,η1,I,x,λvs Z1 H1 Fs1 G b r s hv=>?_⟩;refine⟨Z1,l,G,u,bs,r,b.own,b.gd.zal,h3,λv t p G1 N r1 D d o st=>?_⟩;obtain⟨m,s2⟩:=b.op o st
 have fin:∃Fs',At K ⟨sf,val⟩ σ t p Fs' (M.putAll (ios es) bs η1) G1/\∀a,tot Fs' a->tot Fs1 a\/N a:=by
  rcases g with e|e
  .have e2:=AG (pv:=val) (es:=es) (n:=0) (vs:=vs) (fun k i u' hk hu=>by rw [LD]; exact hv k i u' hk hu) c;rw[e] at e2;rw[<- e2] at D;exact At.putAll m d D c
  .rw [e];exact⟨Fs1,m.mono λ_ z=>.inl z,λ_ z=>.inl z⟩
 obtain⟨Fs',L,hF⟩:=fin;refine k v t p Fs' G1 (L.unpin v1) r1<|(s.trans s2).mono (λ_ z=>z) λa ha=>?_;rcases ha with z|z
 .exact(hF a z).imp id .inr
 .exact .inr (.inl z)
end
section
variable {K:J2}{sl:Cf}{sf sg:Y->j Y}{C:Call}{σ σ2:L2.St}{Z Z' Z1:Fp}{H H' H1:Hp}{Fs Fs' Fs1:Fps}{η η' η1 ηb:Env}{G G' G1 R F F':Fp}{tg is vs ls:U Y}{pv val:Y->j V}
theorem vA (o:j W):toS (toS o)=toS o:=by
 cases o with
 |none=>rfl
 |some w=>rfl
theorem gg:∀(vs:U Y) (η:Env) (i:Y),rd (share vs η) i=if i∈vs then toS (rd η i) else rd η i
|[],η,i=>by simp[share]
| v::vs,η,i=>by
 show rd (share vs<|wr η v<|toS<|rd η v) i=_;rw[gg vs,bp];by_cases b:i=v
 .subst b;rw[QG (show i∈i::vs from Ka)];by_cases c:i < η.length
  .rw [QG (show i=i/\i < η.length from ⟨rfl,c⟩)];split
   .exact vA _
   .rfl
  .have e:rd η i=none:=by
    cases e:rd η i with
    |none=>rfl
    |some w=>exact QL (c8 e) c
   rw[QH<|show¬(i=i/\i < η.length) fromλh=>c h.2,e];split<;>rfl
 .rw [QH (show ¬ (i=v/\v < η.length) from fun h=>b h.1)];by_cases a:i∈vs
  .rw[QG a,QG<|Ke _ a]
  .rw[QH a,QH<|by simp[a,b]]
theorem ki:∀(η:Env) (i:Y),rd (gX η) i=J
|[],_=>rfl
|_::_,0=>rfl
|_::η,i+1=>ki η i
theorem oO:∀(vs:U Y) (a η:Env) (i:Y) (w:W),rd (my vs a η) i=O w->rd η i=O w\/(i∈vs/\toS (rd a i)=O w)
|[],_,_,_,_,h=>.inl h
| v::vs,a,η,i,w,h=>by
 rcases oO vs a (wr η v<|toS<|rd a v) i w h with e|e
 .rw [bp] at e;split at e
  .rename_i b;obtain⟨rfl,_⟩:=b;exact .inr ⟨Ka,e⟩
  .exact .inl e
 .exact .inr ⟨Ke _ e.1,e.2⟩
theorem ly:∀(vs:U Y) (a η:Env) (i:Y) (w:W),rd (fZ vs a η) i=O w->rd η i=O w\/lfO (rd a i)=O w
|[],_,_,_,_,h=>.inl h
| v::vs,a,η,i,w,h=>by
 rcases ly vs a (wr η v<|lfO<|rd a v) i w h with e|e
 .rw [bp] at e;split at e
  .rename_i b;obtain⟨rfl,_⟩:=b;exact .inr e
  .exact .inl e
 .exact .inr e
theorem zJ {i:Y}{w:W}(h:rd (fh vs ls η) i=O w):∃m t,rd η i=O (m,t)/\((i∈vs/\w=(.s,t))\/(t.leaf=JZ/\w=(.d,t))):=by
 rcases ly ls η _ i w h with e|e
 .rcases oO vs η _ i w e with e | ⟨hi,e⟩
  .rw[ki] at e;cases e
  .cases q:rd η i with
   |none=>rw[q] at e;cases e
   |some u=>rw[q] at e;cases e;exact⟨u.1,u.2,rfl,.inl ⟨hi,rfl⟩⟩
 .cases q:rd η i with
  |none=>rw[q] at e;cases e
  |some u=>
   rw[q] at e;obtain⟨m,t⟩:=u;have a:(if t.leaf=JZ then O ((.d,t):W) else J)=O w:=e;split at a
   .rename_i b;cases a;exact⟨m,t,rfl,.inr ⟨b,rfl⟩⟩
   .cases a
def cS (Fs:Fps)(vs:U Y):Fp:=λa=>∃i,i∈vs/\Fs i a
def rV:Fps:=λ_ _=>QX
theorem cI {a:QF}(h:cS Fs vs a):tot Fs a:=let ⟨i,_,h⟩:=h;⟨i,h⟩
theorem jh {a:QF}(h:tot rV a):QX:=let ⟨_,h⟩:=h;h
theorem At.quiet (A:At K sl σ Z H Fs η no):At K sl σ (λa=>Z a\/cS Fs vs a) H rV (fh vs ls η) no:=by
 refine⟨⟨λa h=>(jh h).elim,λ_ _ _ h=>h.elim,λa h=>h.elim (A.gd.zal a) λq=>?_⟩,λi m t e=>?_,bX,λ_ z=>z.elim,A.lk,A.ln⟩
 .obtain ⟨_,g,e⟩:=A.gd.own a<|cI q;rw[e];simp
 .obtain ⟨d,f,e1,e2⟩:=zJ e;obtain⟨v,r,h⟩:=A.env i d f e1;rcases e2 with⟨b,e2⟩|⟨c,e2⟩
  .cases e2;exact⟨v,(r.sh.zmono λa h=>h.imp id λq=>⟨i,b,q⟩).sany,h⟩
  .cases e2;exact⟨v,r.leaf (λ_ _ _ q=>q) c,h⟩
mutual
theorem Rep.dany:∀{t:T} {v:V} {G:Fp},Rep K Z H .d t v G->Rep K Z' H .d t v G
|.non,_,_,h=>h
|.bl _,_,_,h=>h
|.int _,_,_,h=>h
|.str _,_,_,h=>h
|.scr _,_,_,h=>h
|.tup ts,_,_,⟨a,xs,e,q,l,r⟩=>⟨a,xs,e,q,l,RepL.dany r⟩
|.lst ts,_,_,⟨a,xs,e,l,q,r⟩=>⟨a,xs,e,l,q,RepL.dany r⟩
|.dct _ _,_,_,⟨a,xs,e,l,q,n,hl,r⟩=>⟨a,xs,e,l,q,n,hl,RepL.dany r⟩
|.ins _ _ _,_,_,h=>QL rfl h.1
|.gone,_,_,h=>h
theorem RepL.dany:∀{ts:U T} {xs:U V} {G:Fp},RepL K Z H .d ts xs G->RepL K Z' H .d ts xs G
|[],_,_,h=>h
|t::ts,xs,_,⟨x,r,G1,G2,e,h1,h2,hd,p,q⟩=>⟨x,r,G1,G2,e,h1,h2,hd,Rep.dany p,RepL.dany q⟩
end
theorem d8 (A:At K sl σ Z H Fs η no)(b:Own Z' H' G)(d:∀a,Z' a->H' a≠J)(s:Step (λa=>Z a\/cS Fs vs a) H F Z' H' λa=>F' a\/G a)(c:∀a,¬F a):
  At K sl σ (λa=>Z' a/\¬cS Fs vs a) H' Fs η G/\Step Z H (tot Fs) (λa=>Z' a/\¬cS Fs vs a) H' (λa=>tot Fs a\/G a):=by
 have keep:∀a o,H a=O o->H' a=O o:=λa o e=>s.keep a o e<|c a;have k:∀a,Z a->Z' a/\¬cS Fs vs a:=λa h=>⟨s.zm a<|.inl h,λq=>(A.gd.own a<|cI q).1 h⟩
 have g:∀a,tot Fs a->¬(Z' a/\¬cS Fs vs a):=λa h q=>by
  obtain⟨g,f,e⟩:=A.gd.own a h;rcases s.zn a q.1 with z|z|z
  .exact z.elim g q.2
  .exact c a z
  .rw[e] at z;cases z
 have gd:∀a,G a->¬tot Fs a:=λa h q=>by
  obtain⟨_,f,e⟩:=A.gd.own a q;rcases s.fn a (.inr h) with z|z
  .exact c a z
  .rw[e] at z;cases z
 refine⟨⟨⟨λa h=>?_,A.gd.dis,λa h=>d a h.1⟩,λi m t e=>?_,λa h=>⟨λq=>(b a h).1 q.1,(b a h).2⟩,gd,A.lk,A.ln⟩,⟨λa o e _=>keep a o e,k,λa h=>?_,λa h=>?_,s.al,λ_ a h=>d a h.1⟩⟩
 .obtain ⟨_,f,e⟩:=A.gd.own a h;exact⟨g a h,f,keep a _ e⟩
 .obtain ⟨v,r,h⟩:=A.env i m t e;refine⟨v,r.keep ⟨λa o _ e=>keep a o e,λa f e=>?_,λa o u e=>keep a _ e⟩ k λa o _ e=>keep a o e,h⟩;rcases e with e|⟨u,e⟩
  .exact .inl (keep a _ e)
  .exact .inr ⟨u,keep a _ e⟩
 .rcases s.zn a h.1 with z | z | z
  .exact z.elim .inl λq=>QL q h.2
  .exact(c a z).elim
  .exact .inr (.inr z)
 .rcases h with h | h
  .exact .inl h
  .exact(s.fn a<|.inr h).elim (λz=>(c a z).elim) .inr
theorem At.share (A:At K sl σ Z H Fs η G):At K sl σ (λa=>Z a\/cS Fs vs a) H (da Fs vs) (M.share vs η) G/\∀{g f d},Step g f d Z H (λa=>tot Fs a\/G a)->Step g f d (λa=>Z a\/cS Fs vs a) H (λa=>tot (da Fs vs) a\/G a):=by
 refine⟨⟨⟨λa h=>?_,λi b a n o=>A.gd.dis i b a n.2 o.2,λa h=>h.elim (A.gd.zal a) λq=>?_⟩,λi m t e=>?_,λa h=>⟨λz=>z.elim (A.own a h).1 λq=>A.dis a h<|cI q,(A.own a h).2⟩,λa h q=>A.dis a h<|bH q,A.lk,A.ln⟩,λ{g f d} s=>⟨s.keep,λa h=>.inl<|s.zm a h,λa h=>h.elim (s.zn a) λq=>.inr<|s.fn a<|.inl<|cI q,λa h=>s.fn a<|h.imp bH id,s.al,λz a h=>h.elim (s.za z a) λq=>?_⟩⟩
 .obtain ⟨i,c,l⟩:=h;obtain⟨w,k,e⟩:=A.gd.own a ⟨i,l⟩;exact⟨λz=>z.elim w λ⟨b,p,q⟩=>c<|A.gd.dis i b a l q ▸ p,k,e⟩
 .obtain ⟨_,k,e⟩:=A.gd.own a<|cI q;rw[e];simp
 .rw [gg] at e;split at e
  .rename_i c;cases q:rd η i with
   |none=>rw[q] at e;cases e
   |some u=>rw[q] at e;cases e;obtain⟨v,r,h⟩:=A.env i u.1 u.2 q;exact⟨v,(r.sh.zmono λa h=>h.imp id λq=>⟨i,c,q⟩).sany,h⟩
  .rename_i c;obtain⟨v,r,h⟩:=A.env i m t e;exact⟨v,(r.zmono λa h=>.inl h).mono λa h=>⟨c,h⟩,h⟩
 .obtain ⟨_,k,e⟩:=A.gd.own a<|cI q;rw[e];simp
theorem lA {x:X}{e:E}{w:W}{Q:VK}(A:At K sl σ Z H Fs η no)(ev:evX C x e η=.ok (w,η'))(k:∀v Z' H' Fs' G,At K sl σ Z' H' Fs' η' G->Rep K Z' H' w.1 w.2 v G->Step Z H (tot Fs) Z' H' (λa=>tot Fs' a\/G a)->Q v H'):wE K sl.sl C e σ H Q:=by
 cases x with
 | q vs ls =>
  obtain⟨⟨u,t⟩,L,N⟩:=aa<|show(evE C e<|fh vs ls η).bind (kX vs η)=_ from ev;cases N;generalize n:M.lf u.1 u.2=m0 at k;refine⟨sl.pv,_,rV,_,_,t,A.quiet (vs:=vs) (ls:=ls),L,λv Z' H' Fs' G b r0 s=>?_⟩;have r:=r0.lf;rw[n] at r;obtain⟨y,g⟩:=d8 A b.own b.gd.zal s λa h=>jh h
  have c:Q v H'\/m0=.d:=by
   by_cases f:m0=.d
   .exact .inr f
   .refine .inl ?_
    have i:after m0 vs η=share vs η:=by
     cases P:m0 with
     |d=>exact QL P f
     |s=>rfl
     |o m=>rfl
    obtain⟨I,s2⟩:=y.share (vs:=vs);have zz:∀a,(Z' a/\¬cS Fs vs a)\/cS Fs vs a->Z' a:=λa h=>h.elim MC λq=>s.zm a<|.inr q;have p:∀a,Z' a->(Z' a/\¬cS Fs vs a)\/cS Fs vs a:=λa h=>(O4<|cS Fs vs a).elim .inr λq=>.inl ⟨h,q⟩;exact k v _ H' _ G (i ▸ I) (r.zmono p)<|s2 g
  rcases c with q|f
  .exact q
  .have i:after m0 vs η=η:=by rw [f]; rfl
   refine k v _ H' Fs G (i.symm ▸ y) ?_ g;subst f;exact r.dany
 |l vs=>obtain⟨b,s0⟩:=A.share (vs:=vs);have g:=s0<|(Step.refl Z H<|tot Fs).mono (F2:=λa=>tot Fs a\/no a) (λ_ z=>z) λa h=>h.elim id λz=>z.elim;refine⟨sl.pv,_,_,_,w,η',b,ev,λv Z' H' Fs' G D r s=>k v Z' H' Fs' G D r<|(g.mono (λ_ z=>z) λa h=>.inl h).trans s⟩
theorem Gp {x:X}{e:E}{b:QJ}{Q:QJ->Hp->Prop}(A:At K sl σ Z H Fs η no)(ev:evT C x e η=.ok (b,η'))(k:∀Z' H' Fs',At K sl σ Z' H' Fs' η' no->Step Z H (tot Fs) Z' H' (tot Fs')->Q b H'):wT K sl.sl C e σ H Q:=by
 cases x with
 |q vs ls=>obtain⟨⟨u,d⟩,f,g⟩:=aa<|show(evE C e<|fh vs ls η).bind (kT η)=_ from ev;obtain⟨p,i,e3⟩:=ay<|show ret η (truth u.2)=_ from g;cases e3;refine⟨sl.pv,_,rV,_,u,d,b,A.quiet (vs:=vs) (ls:=ls),f,i,λZ' H' Fs' c s=>?_⟩;obtain⟨o,m⟩:=d8 (G:=no) A bX c.gd.zal (s.mono (F2:=λa=>tot Fs' a\/no a) (λ_ z=>z) λa h=>h.elim id λz=>z.elim) λa h=>jh h;exact k _ H' Fs o<|m.mono (λ_ z=>z) λa h=>.inl h
 |l vs=>obtain⟨⟨u,d⟩,f,g⟩:=aa<|show(evE C e<|M.share vs η).bind kT2=_ from ev;obtain⟨p,i,e3⟩:=ay<|show ret d (truth u.2)=_ from g;cases e3;obtain⟨c,s0⟩:=A.share (vs:=vs);have m:=s0<|(Step.refl Z H<|tot Fs).mono (F2:=λa=>tot Fs a\/no a) (λ_ z=>z) λa h=>h.elim id λz=>z.elim;exact⟨sl.pv,_,_,_,u,_,b,c,f,i,λZ' H' Fs' n s=>k Z' H' Fs' n<|(m.mono (λ_ z=>z) λa h=>.inl h).trans s⟩
end
section
variable {K:J2}{Wx:L2.St->VK}{sl:Cf}{sf sg:Y->j Y}{C:Call}{σ σ2:L2.St}{Z Z' Z1:Fp}{H H' H1:Hp}{Fs Fs' Fs1:Fps}{η η' η1 ηb:Env}{G G' G1 R F F':Fp}{tg is vs ls io:U Y}{pv val:Y->j V}{D:bK}
def Fin (K:J2)(Wx:L2.St->VK)(sl:Cf)(Z:Fp)(H:Hp)(F:Fp)(D:bK):Fl->Prop
|.nx η'=>∀b Z' H' Fs',At K sl b Z' H' Fs' η' no->Step Z H F Z' H' (tot Fs')->D.nx b H'
|.rt w η'=>∀v b Z' H' Fs' G,At K sl b Z' H' Fs' η' G->Rep K Z' H' w.1 w.2 v G->Step Z H F Z' H' (λa=>tot Fs' a\/G a)->D.rt v H'
|.bk η'=>∀b Z' H' Fs',At K sl b Z' H' Fs' η' no->Step Z H F Z' H' (tot Fs')->D.bk b H'
|.ex t η'=>∀v b Z' H' Fs',At K sl b Z' H' Fs' η' no->Rep K Z' H' .s t v no->Step Z H F Z' H' (tot Fs')->Wx b v H'
|_=>QX
theorem Fin.step {fl:Fl}(s:Step Z H F Z1 H1 F')(h:Fin K Wx sl Z H F D fl):Fin K Wx sl Z1 H1 F' D fl:=by
 cases fl with
 |nx η=>exactλa Z' H' Fs' A t=>h a Z' H' Fs' A<|s.trans t
 |rt w η=>exactλv a Z' H' Fs' G A r t=>h v a Z' H' Fs' G A r<|s.trans t
 |bk η=>exactλa Z' H' Fs' A t=>h a Z' H' Fs' A<|s.trans t
 |ex t η=>exactλv a Z' H' Fs' A r t=>h v a Z' H' Fs' A r<|s.trans t
 |_=>exact h.elim
structure uo (sf:Y->Option Y)(io:U Y)(pv:Y->Option V):Prop where
 inj:∀i i' j,sf i=O j->sf i'=O j->i=i'
 io:∀i,i ∉ io->pv i=J
def wS (K:J2)(Wx:L2.St->VK)(sf:Y->j Y)(io:U Y)(C:Call)(a:S):TS:=λD σ H=>∃pv Z Fs η,uo sf io pv/\At K ⟨sf,pv⟩ σ Z H Fs η no/\Fin K Wx ⟨sf,pv⟩ Z H (tot Fs) D (evS C a η)
def wSs (K:J2)(Wx:L2.St->VK)(sf:Y->j Y)(io:U Y)(C:Call)(a:U S):TS:=λD σ H=>∃pv Z Fs η,uo sf io pv/\At K ⟨sf,pv⟩ σ Z H Fs η no/\Fin K Wx ⟨sf,pv⟩ Z H (tot Fs) D (evSs C a η)
theorem zV (D:bK)(σ:L2.St)(H:Hp)(h:wSs K Wx sf io C [] D σ H):AI D σ H:=by obtain⟨pv,Z,Fs,η,N,A,f⟩:=h;exact f σ Z H Fs A<|Step.refl _ _ _
theorem ub {s:S}{r:U S}(D:bK)(σ:L2.St)(H:Hp)(h:wSs K Wx sf io C (s::r) D σ H):F3 (wS K Wx sf io C s) (wSs K Wx sf io C r) D σ H:=by
 obtain⟨pv,Z,Fs,η,N,A,f⟩:=h;refine⟨pv,Z,Fs,η,N,A,?_⟩;have a:Fin K Wx ⟨sf,pv⟩ Z H (tot Fs) D (Fl.seq (evS C s η) (evSs C r)):=f;cases e:evS C s η with
 |nx η1=>rw[e] at a;exactλc Z' H' Fs' b t=>⟨pv,Z',Fs',η1,N,b,a.step t⟩
 |rt w η1=>rw[e] at a;exact a
 |bk η1=>rw[e] at a;exact a
 |ex t η1=>rw[e] at a;exact a
 |no=>rw[e] at a;exact a.elim
theorem x8 {s:S}(D:bK)(σ:L2.St)(H:Hp)(h:wSs K Wx sf io C [s] D σ H):wS K Wx sf io C s D σ H:=by
 obtain⟨pv,Z,Fs,η,N,A,f⟩:=h;refine⟨pv,Z,Fs,η,N,A,?_⟩;have a:Fin K Wx ⟨sf,pv⟩ Z H (tot Fs) D (Fl.seq (evS C s η) (evSs C [])):=f;cases e:evS C s η with
 |nx η1=>rw[e] at a;exact a
 |rt w η1=>rw[e] at a;exact a
 |bk η1=>rw[e] at a;exact a
 |ex t η1=>rw[e] at a;exact a
 |no=>rw[e] at a;exact a.elim
theorem bz {b:Type}{r:Res b}{g:b->Fl}(f:Fin K Wx sl Z H F D<|Fl.of η r g):∃a,r=.ok a/\Fin K Wx sl Z H F D (g a):=by
 cases r with
 |ok a=>exact⟨a,rfl,f⟩
 |ex t=>exact f.elim
 |no=>exact f.elim
theorem eN {o:j Env}(f:Fin K Wx sl Z H F D<|nxO η o):∃η',o=O η'/\Fin K Wx sl Z H F D (.nx η'):=by
 cases o with
 |some a=>exact⟨a,rfl,f⟩
 |none=>exact f.elim
theorem At.setR {i d:Y}{w:W}{x:V}(N:uo sf io pv)(L:i ∉ io)(y:sf i=O d)(A:At K ⟨sf,pv⟩ σ Z H Fs η G)(r:Rep K Z H w.1 w.2 x G1)(q1:∀a,G1 a->G a)(q2:∀a,R a->G a)(q3:∀a,R a->¬G1 a):At K ⟨sf,pv⟩ (σ.set d<|O x) Z H (jE Fs i G1) (M.put η i w) R:=by
 have hj:d < σ.length:=A.ln i d y
 have c:At K ⟨λk=>if k=i then J else sf k,pv⟩ (σ.set d (O x)) Z H Fs (M.del η i) G:=by
  refine⟨A.gd,λl m t e=>?_,A.own,A.dis,λl u k n hk=>?_,λl k hk=>?_⟩
  .rw [bp] at e;split at e
   .cases e
   .rename_i hne;obtain⟨v,r',P,Q⟩:=A.env l m t e;have g:l≠i:=λz=>hne ⟨z,by rw[<- z];exact c8 e⟩;refine⟨v,r',λk hk=>?_,Q⟩;have f:sf l=O k:=by have:(if l=i then J else sf l)=O k:=hk;rw[QH g] at this;exact this
    have p:d≠k:=λz=>g (N.inj l i k f<|by rw[<- z];exact y);rw[NP p];exact P k f
  .have g:l≠i:=fun z=>by have I:pv l=O u:=n;rw[z,N.io i L] at I;cases I
   have f:sf l=O k:=by have:(if l=i then J else sf l)=O k:=hk;rw[QH g] at this;exact this
   have p:d≠k:=λz=>g (N.inj l i k f<|by rw[<- z];exact y);rw[NP p];exact A.lk l u k n f
  .have f:sf l=O k:=by
    have:(if l=i then J else sf l)=O k:=hk;split at this
    .cases this
    .exact this
   rw[KO];exact A.ln l k f
 have s:=At.put (i:=i) (w:=w) (G1:=G1) (R:=R) c r q1 q2 q3 (λk hk=>by have f:(if i=i then J else sf i)=O k:=hk;rw[QG rfl] at f;cases f) (λu n=>by have:=N.io i L;rw[show pv i=O u from n] at this;cases this)
 have e1:M.put (M.del η i) i w=M.put η i w:=by
  have:∀(η:Env) (i:Y) (a b:j W),wr (wr η i a) i b=wr η i b:=λη=>by
   induction η with
   |nil=>intro i a b;rfl
   |cons o η ih=>intro i a b;cases i with
    |zero=>rfl
    |succ i=>show o::wr (wr η i a) i b=o::wr η i b;rw[ih]
  exact this η i J<|O w
 rw[e1] at s;refine⟨s.gd,λl m t e=>?_,s.own,s.dis,λl u k n hk=>?_,λl k hk=>by rw[KO];exact A.ln l k hk⟩
 .obtain ⟨v,r',P,Q⟩:=s.env l m t e;by_cases g:l=i
  .subst g;rw[bp] at e;split at e
   .cases e;refine⟨x,r.mono λa h=>.inl ⟨rfl,h⟩,λk hk=>?_,λu n=>by have:=N.io l L;rw[show pv l=O u from n] at this;cases this⟩;have:k=d:=by rw[show sf l=O k from hk] at y;cases y;rfl
    subst this;rw[OZ hj]
   .rename_i hc;exact QL ⟨rfl,c8 e⟩ hc
  .refine ⟨v,r',fun k hk=>P k ?_,Q⟩;show(if l=i then J else sf l)=O k;rw[QH g];exact hk
 .by_cases g:l=i
  .subst g;have:=N.io l L;rw[show pv l=O u from n] at this;cases this
  .exact s.lk l u k n (show(if l=i then J else sf l)=O k by rw[QH g];exact hk)
theorem At.set {i a:Y}{w:W}{x:V}(N:uo sf io pv)(b:i ∉ io)(c:sf i=O a)(A:At K ⟨sf,pv⟩ σ Z H Fs η G)(r:Rep K Z H w.1 w.2 x G):At K ⟨sf,pv⟩ (σ.set a<|O x) Z H (jE Fs i G) (M.put η i w) no:=At.setR N b c A r (λ_ h=>h) (λ_ z=>z.elim) λ_ z=>z.elim
theorem mP {x:X}{i c:Y}{e:E}(l:i ∉ io)(m:sf i=O c)(D:bK)(σ:L2.St)(H:Hp)(h:wS K Wx sf io C (.asg x i e) D σ H):nq (wE K sf C e) (cu c) D σ H:=by obtain⟨pv,Z,Fs,η,N,A,f⟩:=h;obtain⟨⟨w,η1⟩,d,g⟩:=bz<|show Fin K Wx ⟨sf,pv⟩ Z H (tot Fs) D (Fl.of η (evX C x e η)<|zl i) from f;refine lA (sl:=⟨sf,pv⟩) A d λv Z' H' Fs' G b r s=>?_;exact g _ Z' H' _ (At.set N l m b r)<|s.mono (λ_ z=>z) λa k=>bq k
theorem EI {e:E}(D:bK)(σ:L2.St)(H:Hp)(h:wS K Wx sf io C (.ret vs e) D σ H):GN (wE K sf C e) D σ H:=by obtain⟨pv,Z,Fs,η,N,A,f⟩:=h;obtain⟨⟨w,η1⟩,b,c⟩:=bz<|show Fin K Wx ⟨sf,pv⟩ Z H (tot Fs) D (Fl.of η (evE C e<|M.share vs η) kRt) from f;exact lA (sl:=⟨sf,pv⟩) (x:=.l vs) A b λv Z' H' Fs' G a r s=>c v σ Z' H' Fs' G a r s
theorem BB {x:X}{c:E}{a b:U S}(D:bK)(σ:L2.St)(H:Hp)(h:wS K Wx sf io C (.ite x c a b) D σ H):Hu (wT K sf C c) (wSs K Wx sf io C a) (wSs K Wx sf io C b) D σ H:=by
 obtain⟨pv,Z,Fs,η,N,A,f⟩:=h;obtain⟨⟨k,η1⟩,g,e⟩:=bz<|show Fin K Wx ⟨sf,pv⟩ Z H (tot Fs) D (Fl.of η (evT C x c η)<|kIf (evSs C a)<|evSs C b) from f;refine Gp (sl:=⟨sf,pv⟩) A g λZ' H' Fs' d s=>?_;cases k with
 |true=>rw[QG rfl];exact⟨pv,Z',Fs',η1,N,d,Fin.step s e⟩
 |false=>rw[QH Kv];exact⟨pv,Z',Fs',η1,N,d,Fin.step s e⟩
theorem eM {m:Md}{d:U T}{v:V}(f:m≠.s)(r:Rep K Z H m (.lst d) v G):∃a c,v=.ref a/\c.length<=LIM/\G a/\H a=O (.lst c)/\RepL K Z H m.kid d c (λb=>G b/\b≠a):=by obtain⟨a,c,e,l,q,p⟩:=r;rw[LstR.own f] at q;exact⟨a,c,e,l,q.1,q.2,p⟩
theorem yO {i:Y}{a:QF}{ts':U T}{f:U V}{m':Md}(hm:m'≠.s)(A:At K ⟨sf,pv⟩ σ Z H Fs η G){w0:W}(hi:rd η i=O w0)(ha:Fs i a)(hx:∀d,sf i=O d->σ[d]?=O (O<|.ref a))(hl:f.length<=LIM)(hpv:∀u,pv i=O u->V.ref a=u)
  (hg:∀b,G' b->(Fs i b\/G b)/\b≠a) (P:∀b,R b->(Fs i b\/G b)/\b≠a) (hRG:∀b,R b->¬G' b) (p:RepL K (λb=>Z b\/((Fs i b\/G b)/\b≠a/\¬G' b/\¬R b)) H m'.kid ts' f G') {Q:Hp->Prop}
  (k:∀Z' Fs',At K ⟨sf,pv⟩ σ Z' (upd H a<|.lst f) Fs' (M.put η i (m',.lst ts')) R->Step Z H (λb=>tot Fs b\/G b) Z' (upd H a<|.lst f) (λb=>tot Fs' b\/R b)->(∀{m t v},Rep K (λb=>Z b\/((Fs i b\/G b)/\b≠a/\¬G' b/\¬R b)) H m t v R->Rep K Z' (upd H a<|.lst f) m t v R)->Q (upd H a<|.lst f)):Q (upd H a<|.lst f):=by
 have I:tot Fs a:=⟨i,ha⟩;obtain⟨nza,ys,hya⟩:=A.gd.own a I;have nGa:¬G a:=λq=>A.dis a q I
 have x:∀b,(Z b\/((Fs i b\/G b)/\b≠a/\¬G' b/\¬R b))->b≠a:=λb h z=>by
  subst z;rcases h with h|h
  .exact nza h
  .exact h.2.1 rfl
 have keep:∀b o,H b=O o->b≠a->upd H a (.lst f) b=O o:=λb o e g=>by rw[ae g];exact e
 have neT:∀b xs,H b=O (.tup xs)->b≠a:=λb xs e z=>by rw[z,hya] at e;exact ke e.symm
 have neF:∀b o u,H b=O (.frz o u)->b≠a:=λb o u e z=>by rw[z,hya] at e;exact d9 e.symm
 have stay:∀{c:Fp},(∀b,c b->b≠a)->Stay c H (upd H a (.lst f)):=λ{c} hY=>⟨λb o g e=>keep b o e<|hY b g,λb xs e=>by
  rcases e with e|⟨u,e⟩
  .exact .inl (keep b _ e<|neT b xs e)
  .exact .inr ⟨u,keep b _ e<|neF b u _ e⟩,λb o u e=>keep b _ e<|neF b o u e⟩
 have al:∀b,H b≠J->upd H a (.lst f) b≠none:=λb h=>by
  by_cases e:b=a
  .rw[e,au];simp
  .rw[ae e];exact h
 have L:∀b,(Z b\/((Fs i b\/G b)/\b≠a/\¬G' b/\¬R b))->H b≠none:=λb h=>by
  rcases h with h|⟨h|h,_⟩
  .exact A.gd.zal b h
  .obtain⟨_,N,e⟩:=A.gd.own b ⟨i,h⟩;rw[e];simp
  .obtain⟨_,N,e⟩:=A.own b h;rw[e];simp
 have listAt:∀b,(tot Fs b\/G b)->∃N:OO,upd H a (.lst f) b=O N.ho:=λb h=>by
  by_cases e:b=a
  .exact⟨.inl f,by rw[e,au];rfl⟩
  .rcases h with h | h
   .obtain⟨_,N,q⟩:=A.gd.own b h;exact⟨N,by rw[ae e];exact q⟩
   .obtain⟨_,N,q⟩:=A.own b h;exact⟨N,by rw[ae e];exact q⟩
 have nZ:∀b,(Fs i b\/G b)->¬Z b:=λb h z=>h.elim (λy=>(A.gd.own b ⟨i,y⟩).1 z) λy=>(A.own b y).1 z
 have cJ:∀b,tot (jE Fs i λb=>G' b\/b=a) b->(∃d,d≠i/\Fs d b)\/G' b\/b=a:=λb h=>by
  obtain⟨d,h|h⟩:=h
  .exact .inr h.2
  .exact .inl ⟨d,h⟩
 refine k (λb=>Z b\/((Fs i b\/G b)/\b≠a/\¬G' b/\¬R b)) (jE Fs i λb=>G' b\/b=a) ⟨⟨λb h=>⟨λz=>?_,?_⟩,λd l b w hk=>?_,λb h=>al b<|L b h⟩,λl m t e=>?_,λb h=>⟨λz=>?_,listAt b<|(P b h).1.imp (λz=>⟨i,z⟩) id⟩,λb h q=>?_,A.lk,A.ln⟩ ⟨λb o e n=>keep b o e λz=>n<|.inl<|z ▸ I,λb h=>.inl h,λb h=>h.imp id λq=>.inl<|q.1.imp (λz=>⟨i,z⟩) id,λb h=>?_,al,λ_ b h=>al b<|L b h⟩ λ{m t v} r=>r.keep (stay x) (λ_ z=>z) λb o g e=>keep b o e (P b g).2
 .rcases cJ b h with ⟨d,w,q⟩ | q | q
  .rcases z with z | ⟨z | z,_⟩
   .exact(A.gd.own b ⟨d,q⟩).1 z
   .exact w (A.gd.dis d i b q z)
   .exact A.dis b z ⟨d,q⟩
  .rcases z with z | z
   .exact nZ b (hg b q).1 z
   .exact z.2.2.1 q
  .exact x b z q
 .rcases cJ b h with ⟨d,w,q⟩ | q | q
  .exact listAt b (.inl ⟨d,q⟩)
  .exact listAt b ((hg b q).1.imp (λz=>⟨i,z⟩) id)
  .exact⟨.inl f,by rw[q,au];rfl⟩
 .have key:∀ {d:Y},(G' b\/b=a)->Fs d b->d=i:=fun {d} h q=>by
   rcases h with h|h
   .rcases (hg b h).1 with y | y
    .exact A.gd.dis d i b q y
    .exact QL ⟨d,q⟩ (A.dis b y)
   .rw[h] at q;exact A.gd.dis d i a q ha
  rcases w with⟨rfl,w⟩|⟨nj,w⟩
  .rcases hk with ⟨rfl,_⟩ | ⟨nk,hk⟩
   .rfl
   .exact QL (key w hk) nk
  .rcases hk with ⟨rfl,hk⟩ | ⟨nk,hk⟩
   .exact QL (key hk w) nj
   .exact A.gd.dis d l b w hk
 .rw [bp] at e;split at e
  .rename_i hc;obtain⟨rfl,_⟩:=hc;cases e;refine⟨.ref a,⟨a,f,rfl,hl,(LstR.own hm).mpr ⟨.inl ⟨rfl,.inr rfl⟩,au⟩,?_⟩,hx,hpv⟩;exact(p.keep (stay x) (λ_ z=>z) λb o g e=>keep b o e (hg b g).2).mono λb g=>⟨.inl ⟨rfl,.inl g⟩,(hg b g).2⟩
  .rename_i hc;have hl':l≠i:=λz=>hc ⟨z,c8 hi⟩;obtain⟨v,r,h⟩:=A.env l m t e;have nea:∀b,Fs l b->b≠a:=λb q z=>hl'<|A.gd.dis l i a (z ▸ q) ha;exact⟨v,((r.keep (stay λb g z=>nza<|z ▸ g) (λ_ z=>z) λb o g e=>keep b o e<|nea b g).zmono λb h=>.inl h).mono λb h=>.inr ⟨hl',h⟩,h⟩
 .rcases z with z | z
  .exact nZ b (P b h).1 z
  .exact z.2.2.2 h
 .rcases cJ b q with ⟨d,w,y⟩ | y | y
  .rcases (P b h).1 with z | z
   .exact w (A.gd.dis d i b y z)
   .exact A.dis b z ⟨d,y⟩
  .exact hRG b h y
  .exact(P b h).2 y
 .rcases h with h | h
  .rcases cJ b h with ⟨d,_,q⟩ | q | q
   .exact .inl (.inl ⟨d,q⟩)
   .exact .inl ((hg b q).1.imp (λz=>⟨i,z⟩) id)
   .exact .inl (.inl<|q ▸ I)
  .exact .inl ((P b h).1.imp (λz=>⟨i,z⟩) id)
theorem change {i:Y}{a:QF}{ts':U T}{e:U V}{m':Md}(o:m'≠.s)(A:At K ⟨sf,pv⟩ σ Z H Fs η G){r:W}(m:rd η i=O r)(g:Fs i a)(hx:∀d,sf i=O d->σ[d]?=O (O<|.ref a))(n:e.length<=LIM)(f:∀u,pv i=O u->V.ref a=u)
  (l:∀b,G' b->(Fs i b\/G b)/\b≠a) (p:RepL K (λb=>Z b\/((Fs i b\/G b)/\b≠a/\¬G' b)) H m'.kid ts' e G') {Q:Hp->Prop}
  (k:∀Z' Fs',At K ⟨sf,pv⟩ σ Z' (upd H a<|.lst e) Fs' (M.put η i (m',.lst ts')) no->Step Z H (λb=>tot Fs b\/G b) Z' (upd H a<|.lst e) (tot Fs')->Q (upd H a<|.lst e)):Q (upd H a<|.lst e):=
 yO (R:=no) o A m g hx n f l (λ_ z=>z.elim) (λ_ z=>z.elim) (p.zmono λb h=>h.imp id λq=>⟨q.1,q.2.1,q.2.2,λz=>z⟩) λZ' Fs' c s _=>k Z' Fs' c<|s.mono (λ_ z=>z) λ_ z=>.inl z
end
section
variable {K:J2}{Wx:L2.St->VK}{sl:Cf}{sf sg:Y->j Y}{C:Call}{σ σ2:L2.St}{Z Z' Z1:Fp}{H H' H1:Hp}{Fs Fs' Fs1:Fps}{η η' η1 ηb:Env}{G G' G1 R F F':Fp}{tg is vs ls io:U Y}{pv val:Y->j V}{D:bK}
theorem la {o:j W}{u:Unit}(h:ib o=.ok u):∃m a,o=O (m,.lst a):=by
 cases o with
 |none=>cases h
 |some w=>
  obtain⟨m,t⟩:=w;cases t with
  |lst a=>exact⟨m,a,rfl⟩
  |_=>cases h
theorem At.listAt {i b:Y}{m:Md}{f:U T}(e:sf i=O b)(A:At K ⟨sf,pv⟩ σ Z H Fs η G)(h:rd η i=O (m,.lst f)):∃a c,σ[b]?=O (O<|.ref a)/\H a=O (.lst c):=by obtain⟨v,r,d,_⟩:=A.env i m _ h;obtain⟨a,c,rfl,hx,_⟩:=bg r;exact⟨a,c,d b e,hx⟩
theorem At.ourList {i c:Y}{a:QF}{m:Md}{f:U T}(t:sf i=O c)(o:m≠.s)(k:σ[c]?=O (O<|.ref a))(A:At K ⟨sf,pv⟩ σ Z H Fs η G)(h:rd η i=O (m,.lst f)):
  ∃d,d.length<=LIM/\Fs i a/\H a=O (.lst d)/\RepL K Z H m.kid f d (λb=>Fs i b/\b≠a)/\(∀u,pv i=O u->V.ref a=u):=by
 obtain⟨v,r,n,hp⟩:=A.env i m _ h;have e:=n c t;rw[k] at e;cases e;obtain⟨b,d,e,l,g,hx,p⟩:=eM o r;cases e;exact⟨d,l,g,hx,p,hp⟩
theorem sU {u w r:W}(h:iA u w=O r):∃m a,u=(m,.lst a)/\m≠.s/\a.length<LIM/\r=((m.kid.meet<|lf w.1 w.2).up,.lst<|a++[w.2]):=by
 obtain⟨m,t⟩:=u;obtain⟨n,c⟩:=w;cases m with
 |s=>cases h
 | d =>
  cases t with
  |lst a=>
   have b:(if a.length<LIM then O ((((Md.d.kid.meet (lf n c)).up,.lst (a++[c])):W)) else J)=O r:=h;split at b
   .rename_i e;cases b;exact⟨.d,a,rfl,by simp,e,rfl⟩
   .cases b
  |_=>cases h
 | o m =>
  cases t with
  |lst a=>
   have b:(if a.length<LIM then O (((((Md.o m).kid.meet (lf n c)).up,.lst (a++[c])):W)) else J)=O r:=h;split at b
   .rename_i e;cases b;exact⟨.o m,a,rfl,by simp,e,rfl⟩
   .cases b
  |_=>cases h
theorem tw {u k w r:W}(h:cJ u k w=O r):∃m b n a q,u=(m,.lst b)/\k=(n,.int a)/\m≠.s/\M.ixN b.length a=O q/\r=((m.kid.meet<|lf w.1 w.2).up,.lst<|b.set q w.2):=by
 obtain⟨m,t⟩:=u;obtain⟨n,d⟩:=k;cases m<;>first|(cases h;done)|(cases t<;>first|(cases h;done)|(cases d<;>try (cases h;done)))
 all_goals
  rename_i b a;have c:(M.ixN b.length a).map _=O r:=h;cases e:M.ixN b.length a with
  |none=>rw[e] at c;cases c
  |some q=>rw[e] at c;cases c;exact⟨_,b,n,a,q,rfl,rfl,by simp,e,rfl⟩
theorem tG {a:QF}{m:Md}{g:U T}{i:U V}{w:W}{y:V}{c:Fp}(l:∀b,c b->b≠a)(n:∀b,G b->b≠a)(d:∀b,c b->¬G b)(p:RepL K Z H m g i c)(r:Rep K Z H w.1 w.2 y G):
  ∃G',(∀b,G' b->(c b\/G b)/\b≠a)/\RepL K (λb=>Z b\/((c b\/G b)/\b≠a/\¬G' b)) H (m.meet<|lf w.1 w.2) (g++[w.2]) (i++[y]) G':=by
 obtain⟨G',e,k⟩:=lK (G:=λb=>c b\/G b) (λ_ z=>.inl z) (λ_ z=>.inr z) d p<|RepL.one r.lf;have f:∀b,(c b\/G b)->b≠a:=λb h=>h.elim (l b)<|n b;exact⟨G',λb h=>⟨e b h,f b<|e b h⟩,k.zmono λb h=>h.imp id λq=>⟨q.1,f b q.1,q.2⟩⟩
theorem Di {x:X}{i d:Y}{e:E}(n:sf i=O d)(D:bK)(σ:L2.St)(H:Hp)(h:wS K Wx sf io C (.app x i e) D σ H):
  ∃a l,σ[d]?=O (O<|.ref a)/\H a=O (.lst l)/\wE K sf C e σ H λy H1=>∃l,H1 a=O (.lst l)/\l.length<sizeLine/\D.nx σ (upd H1 a<|.lst<|l++[y]):=by
 obtain⟨pv,Z,Fs,η,N,A,f⟩:=h;obtain⟨u,h0,h1⟩:=bz<|show Fin K Wx ⟨sf,pv⟩ Z H (tot Fs) D (Fl.of η (ib<|rd η i)<|qq (evX C x e) η<|qZ i) from f;obtain⟨m0,t0,t⟩:=la h0;obtain⟨a,L,v,ha⟩:=A.listAt n t;obtain⟨⟨w,η1⟩,h2,h3⟩:=bz<|show Fin K Wx ⟨sf,pv⟩ Z H (tot Fs) D (Fl.of η (evX C x e η)<|qZ i) from h1;obtain⟨η2,g,h5⟩:=eN<|show Fin K Wx ⟨sf,pv⟩ Z H (tot Fs) D (nxO η1<|((rd η1 i).bind λu=>iA u w).map λu=>M.put η1 i u) from h3;refine⟨a,L,v,ha,lA (sl:=⟨sf,pv⟩) A h2 λy Z' H' Fs' G c r s=>?_⟩;cases e1:rd η1 i with
 |none=>rw[e1] at g;cases g
 | some u1 =>
  rw[e1] at g;cases e2:iA u1 w with
  |none=>rw[show(O u1).bind (λu=>iA u w)=iA u1 w from rfl,e2] at g;cases g
  |some r1=>rw[show(O u1).bind (λu=>iA u w)=iA u1 w from rfl,e2] at g;cases g;obtain⟨m,ts,rfl,hm,hlen,rfl⟩:=sU e2;obtain⟨l,hl,Q,hx,p,I⟩:=c.ourList n hm v e1;have e3:=p.length;obtain⟨G',P,g2⟩:=tG (a:=a) (λb h=>h.2) (λb h z=>c.dis b h ⟨i,z ▸ Q⟩) (λb h q=>c.dis b q ⟨i,h.1⟩) p r;refine⟨l,hx,gY hl,?_⟩;refine change (K:=K) (m':=(m.kid.meet<|lf w.1 w.2).up) (dD _) c e1 Q (λk hk=>by rw[show sf i=O k from hk] at n;cases n;exact v) (by rw[Kk,e3,KN];lia) I (λb h=>⟨(P b h).1.imp MC id,(P b h).2⟩) (ts':=ts++[w.2]) (by rw[fx];exact g2.zmono λb h=>h.imp id λq=>⟨q.1.imp MC id,q.2⟩) λZ2 o B2 s2=>h5 σ Z2 _ o B2<|s.trans s2
theorem RepL.setAt:∀{k:U T} {f:U V} {A0 G0 G:Fp} {q:Y} {t:T} {y:V} {m:Md},(∀b,A0 b->G b)->(∀b,G0 b->G b)->(∀b,A0 b->¬G0 b)->RepL K Z H m k f A0->Rep K Z H m t y G0->RepL K Z H m (k.set q t) (f.set q y) G
|[],f,A0,G0,G,q,t,y,m,i,l,d,h,r=>by rw[show f=[] from h];exact rfl
|u::k,f,A0,G0,G,0,t,y,m,i,l,d,⟨x,s,A,c,e,o,g,v,p,q⟩,r=>by rw[e];exact⟨y,s,G0,c,rfl,l,λa h=>i a<|g a h,λa h q=>d a (g a q) h,r,q⟩
|u::k,f,A0,G0,G,n+1,t,y,m,i,l,d,⟨x,s,A,c,e,o,g,v,p,q⟩,r=>by rw[e];refine⟨x,s.set n y,A,λa=>c a\/G0 a,rfl,λa h=>i a<|o a h,λa h=>h.elim (λz=>i a<|g a z)<|l a,λa h q=>q.elim (v a h)<|d a<|o a h,p,?_⟩;exact RepL.setAt (λ_ z=>.inl z) (λ_ z=>.inr z) (λb h=>d b<|g b h) q r
theorem gI (vs:U Y)(η:Env):Nn η (M.share vs η):=λi e=>by
 rw[gg];split
 .rw[e];rfl
 .exact e
theorem rR {x:X}{e:E}{w:W}(h:evX C x e η=.ok (w,η')):Nn η η':=by
 cases x with
 |q vs ls=>
  obtain⟨⟨u,b⟩,c,a⟩:=aa<|show(evE C e<|fh vs ls η).bind (kX vs η)=_ from h;cases a;show Nn η<|after (M.lf u.1 u.2) vs η;cases f:M.lf u.1 u.2 with
  |d=>intro i e;exact e
  |s=>exact gI vs η
  |o m=>exact gI vs η
 |l vs=>exact(gI vs η).trans<|ax e h
theorem Ab {x:X}{i d:Y}{k e:E}(I:sf i=O d)(D:bK)(σ:L2.St)(H:Hp)(h:wS K Wx sf io C (.setI x i k e) D σ H):
  wE K sf C e σ H λy H1=>ku d σ H1 λo H1=>wE K sf C k σ H1 λz H2=>∃a L n q,o=.ref a/\z=.int n/\H2 a=O (.lst L)/\L2.ixN L.length n=O q/\D.nx σ (upd H2 a<|.lst<|L.set q y):=by
 obtain⟨pv,Z,Fs,η,N,A,f⟩:=h;obtain⟨⟨w,η1⟩,h2,h3⟩:=bz<|show Fin K Wx ⟨sf,pv⟩ Z H (tot Fs) D (Fl.of η (evX C x e η)<|wK i (evX C x k) η) from f;obtain⟨⟨v,g⟩,h6,h7⟩:=bz<|show Fin K Wx ⟨sf,pv⟩ Z H (tot Fs) D (Fl.of η (evX C x k η1)<|tD i w) from h3;obtain⟨η3,t,h5⟩:=eN<|show Fin K Wx ⟨sf,pv⟩ Z H (tot Fs) D (nxO g<|((rd g i).bind λu=>cJ u v w).map λu=>M.put g i u) from h7;refine lA (sl:=⟨sf,pv⟩) A h2 λy Z' H' Fs' G c r s=>?_;cases e1:rd g i with
 |none=>rw[e1] at t;cases t
 | some u1 =>
  rw[e1] at t;cases e2:cJ u1 v w with
  |none=>rw[show(O u1).bind (λu=>cJ u v w)=cJ u1 v w from rfl,e2] at t;cases t
  | some r1 =>
   rw[show(O u1).bind (λu=>cJ u v w)=cJ u1 v w from rfl,e2] at t;cases t;obtain⟨m,ts,n,jj,q,rfl,rfl,hm,hq,rfl⟩:=tw e2;have n1:rd η1 i≠none:=λz=>by rw[rR h6 i z] at e1;cases e1
   cases e3:rd η1 i with
   |none=>exact QL e3 n1
   |some u3=>
    obtain⟨v3,r3,l3,p3⟩:=c.env i u3.1 u3.2 e3;refine⟨v3,l3 d I,lA (sl:=⟨sf,pv⟩) c.bare h6 λz Z2 H2 Fs2 G2 B2 rz s2=>?_⟩;obtain⟨B3,s3,d3⟩:=c.frame B2 s2;have r':=r.frame c.gd.own s2 c.dis;have P:=B3.mono (G':=G) λ_ z=>.inl z;obtain⟨v4,r4,l4,p4⟩:=P.env i m _ e1;have hv:v3=v4:=by have e5:=l3 d I;have e6:=l4 d I;rw[e5] at e6;cases e6;rfl
    subst hv;obtain⟨a,L,rfl,hl,hf,hx,p⟩:=eM hm r4;have e7:=p.length;obtain⟨A1,Q,a2⟩:=RepL.weak (c5 m.kid<|lf w.1 w.2).1 p;obtain⟨A2,b1,b2⟩:=Rep.weak (c5 m.kid<|lf w.1 w.2).2 r'.lf;have l:∀b,(Fs2 i b/\b≠a)->¬G b:=λb h q=>P.dis b q ⟨i,h.1⟩;have hG:∀b,G b->b≠a:=λb h z=>P.dis b h ⟨i,z ▸ hf⟩;refine⟨a,L,jj,q,rfl,show z=_ from rz,hx,by rw[e7];exact hq,?_⟩;refine change (K:=K) (G':=λb=>A1 b\/A2 b) (m':=(m.kid.meet<|lf w.1 w.2).up) (dD _) P e1 hf (λk hk=>by rw[show sf i=O k from hk] at I;cases I;exact l3 _ hk) (by rw[KO];exact hl) p4 (λb h=>h.elim (λz=>⟨.inl (Q b z).1,(Q b z).2⟩) λz=>⟨.inr<|b1 b z,hG b<|b1 b z⟩) (ts':=ts.set q w.2) ?_ λZ5 Fs5 B5 s5=>h5 σ Z5 _ Fs5 B5<|(s.trans<|s3.mono (λ_ z=>z) λb h=>h.imp id .inl).trans s5;rw[fx];refine RepL.setAt (A0:=A1) (G0:=A2) (λ_ z=>.inl z) (λ_ z=>.inr z) (λb h q=>l b (Q b h)<|b1 b q) (a2.zmono λb h=>?_)<|b2.zmono λb h=>?_
    .exact h.imp id λq=>⟨.inl q.1.1,q.1.2,λz=>z.elim q.2 λz=>l b q.1<|b1 b z⟩
    .exact h.imp id λq=>⟨.inr q.1,hG b q.1,λz=>z.elim (λz=>l b (Q b z) q.1) q.2⟩
end
section
variable {K:J2}{Wx:L2.St->VK}{sl:Cf}{sf sg:Y->j Y}{C:Call}{σ σ2:L2.St}{Z Z' Z1:Fp}{H H' H1:Hp}{Fs Fs' Fs1:Fps}{η η' η1 ηb:Env}{G G' G1 R F F':Fp}{tg is vs ls io:U Y}{pv val:Y->j V}{D:bK}
def gF (K:J2):U Y->TG
|[a]=>cu a
|[a,l]=>zB K 2<|gz (cu a)<|gz (cu l) xU
|_=>λ_ _ _ _=>QX
theorem rD {fl:Fl}{g:Env->Fl}(f:Fin K Wx sl Z H F D<|Fl.turn fl g):(∃η',fl=.nx η'/\Fin K Wx sl Z H F D (g η'))\/(∃η',fl=.bk η'/\Fin K Wx sl Z H F D (.nx η'))\/(∃w η',fl=.rt w η'/\Fin K Wx sl Z H F D (.rt w η'))\/(∃t η',fl=.ex t η'/\Fin K Wx sl Z H F D (.ex t η')):=by
 cases fl with
 |nx η=>exact .inl ⟨η,rfl,f⟩
 |bk η=>exact .inr<|.inl ⟨η,rfl,f⟩
 |rt w η=>exact .inr<|.inr<|.inl ⟨w,η,rfl,f⟩
 |ex t η=>exact .inr<|.inr<|.inr ⟨t,η,rfl,f⟩
 |no=>exact f.elim
theorem lX {fl:Fl}{g:Env->Fl}{N:L2.St->Hp->Prop}(f:Fin K Wx sl Z H F D<|Fl.turn fl g)(b:∀η' a Z' H' Fs',fl=.nx η'->Fin K Wx sl Z H F D (g η')->At K sl a Z' H' Fs' η' no->Step Z H F Z' H' (tot Fs')->N a H'):Fin K Wx sl Z H F {D with nx:=N,ct:=N,bk:=D.nx} fl:=by
 rcases rD f with⟨η',rfl,f⟩|⟨η',rfl,f⟩|⟨w,η',rfl,f⟩|⟨t,η',rfl,f⟩
 .exactλa Z' H' Fs' A s=>b η' a Z' H' Fs' rfl f A s
 .exact f
 .exact f
 .exact f
theorem r9 {n i:Y}{c:It}{ts:U<|U W}{ws:U W}{s:U Y}{x:V}{Q:L2.St->Hp->Prop}(hn:tg.length=n)(nd:tg.Nodup)(N:uo sf io pv)(g:∀t∈tg,t ∉ io)(e:tg.map sf=s.map O)(hz:∀a,Z1 a->Z a)(st:Stay Z1 H1 H)(o:Yld K c Z1 H1 ts n)(A:At K ⟨sf,pv⟩ σ Z H Fs η no)
  (P:ts[i]?=O ws) (hb:aJ tg ws η=O ηb) (y:c.yld i H x H') (k:∀σ2 I l,At K ⟨sf,pv⟩ σ2 Z I l ηb no->Step Z H (tot Fs) Z I (tot l)->Q σ2 I):gF K s x σ H' Q:=by
 have hi:i<ts.length:=(Le.mp P).1
 match n,o with
 | 1,o =>
  obtain⟨e0,w,f,r⟩:=o H i x H' st hi y;rw[e0];rw[P] at f;cases f
  match tg,hn,s,e with
  |[t],_,[d],e=>
   cases hb;have L:sf t=O d:=by simpa using e
   exact k _ H _ (At.set N (g t<|by simp) L A<|r.zmono hz)<|(Step.refl _ _ _).mono (λ_ z=>z) λa h=>(bq h).elim id λz=>z.elim
  |[t],_,[],e=>simp at e
  |[t],_,_::_::_,e=>simp at e
 | 2,o =>
  obtain⟨p,y1,v,u,w,rfl,sm,hq,f,r1,r2⟩:=o H i x H' st hi y;rw[P] at f;cases f
  match tg,hn,s,e with
  |[t,m],_,[d,j'],e=>
   cases hb;have L:sf t=O d:=by simp at e;exact e.1
   have M:sf m=O j':=by simp at e;exact e.2
   have s0:Step Z H no Z H' no:=gn sm;obtain⟨A1,s1⟩:=A.op bX s0;have sn:Stay Z H H':=lD sm;have r1':Rep K Z H' u.1 u.2 y1 no:=(r1.zmono hz).keep sn (λ_ z=>z) λ_ _ z=>z.elim;have r2':Rep K Z H' w.1 w.2 v no:=(r2.zmono hz).keep sn (λ_ z=>z) λ_ _ z=>z.elim;have A2:=At.set N (g t<|by simp) L A1 r1';have A3:=At.set N (g m<|by simp) M A2 r2';refine⟨p,[y1,v],rfl,hq,rfl,y1,[v],rfl,v,[],rfl,rfl,k _ _ _ A3<|s1.mono (λa h=>h.elim id λz=>z.elim) λa h=>?_⟩;rcases bq h with h|h
   .exact .inl ((bq h).elim id λz=>z.elim)
   .exact h.elim
  |[t,m],_,[],e=>simp at e
  |[t,m],_,[_],e=>simp at e
  |[t,m],_,_::_::_::_,e=>simp at e
theorem ve {n:Y}{k:Ik}{v:U E}{js:U Y}{e:U S}(hn:tg.length=n)(nd:tg.Nodup)(hio:∀t∈tg,t ∉ io)(hjs:tg.map sf=js.map O)(D:bK)(σ:L2.St)(H:Hp)(h:wS K Wx sf io C (.forS vs ls k v tg e) D σ H):
  FC (wI K sf C n k v) (gF K js) (wSs K Wx sf io C e) D σ H:=by
 obtain⟨pv,Z,Fs,η,N,A,f⟩:=h;obtain⟨⟨ws,η2⟩,h1,h2⟩:=bz<|show Fin K Wx ⟨sf,pv⟩ Z H (tot Fs) D (Fl.of η (evL C v<|fh vs ls η)<|xo vs k tg (evSs C e) η) from f;obtain⟨⟨g,η3⟩,h3,h4⟩:=bz<|show Fin K Wx ⟨sf,pv⟩ Z H (tot Fs) D (Fl.of η (ret (M.share vs η)<|bV k ws)<|tS tg<|evSs C e) from h2;obtain⟨ts',ht,e3⟩:=ay h3;have e4:g=ts':=QW NZ e3;have e5:η3=M.share vs η:=QW LO e3;subst e4 e5;have h4':Fin K Wx ⟨sf,pv⟩ Z H (tot Fs) D (aY tg (evSs C e) g (M.share vs η)):=h4;refine⟨pv,_,rV,_,ws,η2,g,A.quiet (vs:=vs) (ls:=ls),h1,ht,λd Z1 H1 Fs1 c s wk yl=>?_⟩;obtain⟨B1,s1⟩:=d8 (G:=no) A bX c.gd.zal (s.mono (F2:=λa=>tot Fs1 a\/no a) (λ_ z=>z) λa h=>h.elim id λz=>z.elim) λa h=>jh h;obtain⟨B2,s2⟩:=B1.share (vs:=vs);have s3:=(s2 s1).mono (F2:=tot<|da Fs vs) (λ_ z=>z) λ_ z=>.inl z;have zz:∀a,Z1 a->((Z1 a/\¬cS Fs vs a)\/cS Fs vs a):=λa h=>(O4<|cS Fs vs a).elim .inr λq=>.inl ⟨h,q⟩;refine⟨λi m w H'=>m=g.length-i/\i<=g.length/\∃r l p,At K ⟨sf,pv⟩ w r H' l p no/\Step (λa=>(Z1 a/\¬cS Fs vs a)\/cS Fs vs a) H1 (tot<|da Fs vs) r H' (tot l)/\Fin K Wx ⟨sf,pv⟩ r H' (tot l) D (aY tg (evSs C e) (g.drop i) p),⟨g.length,by simp,Kx _,_,_,_,B2,Step.refl _ _ _,h4'.step s3⟩,?_⟩;rintro i m σi I ⟨rfl,hi,r,l,p,Ai,si,L⟩;have st:Stay Z1 H1 I:=by have:=B2.gd.own.stay si;exact⟨λa o h=>this.1 a o<|zz a h,this.2⟩
 by_cases u:i<g.length
 .right;refine⟨wk.go I i st u,_,λw H' P=>⟨g.length-(i+1),by lia,P⟩,λx H' y=>?_⟩;have P:g[i]?=O g[i]:=by simp[u]
  rw[eY P] at L;obtain⟨ηb,hb,fb⟩:=bz<|show Fin K Wx ⟨sf,pv⟩ r I (tot l) D (Fl.of p (ofO<|aJ tg g[i] p) λη1=>Fl.turn (evSs C e η1)<|aY tg (evSs C e)<|g.drop<|i+1) from L;refine r9 hn nd N hio hjs (λa h=>si.zm a<|zz a h) st yl Ai P (cZ hb) y λσ2 H2 Q A2 t2=>?_;refine⟨pv,r,Q,ηb,N,A2,lX (fb.step t2) λη' w Z' H' Fs' _ f' A' s'=>⟨rfl,u,Z',Fs',η',A',(si.trans t2).trans s',f'.step s'⟩⟩
 .left;have hi':i=g.length:=by lia
  subst hi';rw[NC] at L;exact⟨wk.stop I _ st<|J9 _,L σi r I l Ai<|Step.refl _ _ _⟩
theorem Cw {x:X}{c:E}{d:U S}(D:bK)(σ:L2.St)(H:Hp)(h:wS K Wx sf io C (.whl x c d) D σ H):uI (wT K sf C c) (wSs K Wx sf io C d) D σ H:=by
 obtain⟨pv,Z,Fs,η,N,A,f⟩:=h;have k:Fin K Wx ⟨sf,pv⟩ Z H (tot Fs) D (kH (evT C x c) (evSs C d) uH η):=f;refine⟨λm g H'=>∃Z' Fs' η',At K ⟨sf,pv⟩ g Z' H' Fs' η' no/\Fin K Wx ⟨sf,pv⟩ Z' H' (tot Fs') D (kH (evT C x c) (evSs C d) m η'),⟨uH,Z,Fs,η,A,k⟩,?_⟩;rintro m l H1 ⟨Z1,Fs1,η1,t,o⟩;cases m with
 |zero=>exact o.elim
 | succ m =>
  obtain⟨⟨b,e⟩,v,p⟩:=bz<|show Fin K Wx ⟨sf,pv⟩ Z1 H1 (tot Fs1) D (Fl.of η1 (evT C x c η1)<|kIf (rF (evSs C d)<|kH (evT C x c) (evSs C d) m) .nx) from o;refine Gp (sl:=⟨sf,pv⟩) t v λn u i a s=>?_;cases b with
  |true=>rw[QG rfl];refine⟨_,λg H' w=>⟨m,M7 m,w⟩,pv,n,i,e,N,a,lX (Fin.step s<|show Fin K Wx ⟨sf,pv⟩ Z1 H1 (tot Fs1) D (Fl.turn (evSs C d e)<|kH (evT C x c) (evSs C d) m) from p) λη' g Z' H' Fs' _ k r y=>⟨Z',Fs',η',r,k.step y⟩⟩
  |false=>rw[QH Kv];exact(show Fin K Wx ⟨sf,pv⟩ Z1 H1 (tot Fs1) D (.nx e) from p) l n u i a s
theorem xp {x:X}{t k g P:Y}{e:E}(hne:t≠k)(hi:t ∉ io)(n:k ∉ io)(hs:sf t=O g)(o:sf k=O P)(D:bK)(σ:L2.St)(H:Hp)(h:wS K Wx sf io C (.asgT x [t,k] e) D σ H):
  nq (wE K sf C e) (zB K 2<|gz (cu g)<|gz (cu P) xU) D σ H:=by
 obtain⟨pv,Z,Fs,η,N,A,f⟩:=h;obtain⟨⟨w,η1⟩,h1,h2⟩:=bz<|show Fin K Wx ⟨sf,pv⟩ Z H (tot Fs) D (Fl.of η (evX C x e η)<|n4 [t,k]) from f;obtain⟨y,M,h4⟩:=eN<|show Fin K Wx ⟨sf,pv⟩ Z H (tot Fs) D (nxO η1<|(D1 w).bind λws=>aJ [t,k] ws η1) from h2;refine lA (sl:=⟨sf,pv⟩) A h1 λv Z' H' Fs' G c r s=>?_;obtain⟨m,t0⟩:=w;cases t0 with
 | tup Q =>
  have i:aJ [t,k] (Q.map λt=>(m.kid,t)) η1=O y:=M
  match Q,i with
  |[a,b],i=>
   cases i;obtain⟨p,xs,rfl,hq,hl,y1,r1,G1,G2,rfl,I,L,d,p1,u,r2,G3,G4,e2,l,g4,d2,p2,q⟩:=r;cases e2;obtain rfl:r2=[]:=q;have B1:=At.setR (w:=(m.kid,a)) (R:=G3) N hi hs c p1 I (λa h=>L a<|l a h) λa h z=>d a z<|l a h;have B2:=At.set (w:=(m.kid,b)) N n o B1 p2;refine⟨p,[y1,u],rfl,hq,rfl,y1,[u],rfl,u,[],rfl,rfl,h4 _ Z' H' _ B2<|s.mono (λ_ z=>z) λa h=>?_⟩;rcases bq h with h|h
   .exact(bq h).imp id (I a)
   .exact .inr (L a<|l a h)
  |[],i=>cases i
  |[_],i=>cases i
  |_::_::_::_,i=>cases i
 |_=>cases M
end
end MR

namespace MR
open PySem PySem.Spec PyProof.Rows L2 L3
section
variable {X:Cx}{sf sg:Y->j Y}{C:M.Call}{pos p2:Pos}{ea eb ec:QQ}{a b c:M.E}{h:QJ}{n:Y}
theorem aj {e:QQ}{t g:TE}(h:PE X e t)(i:∀f H Q,g f H Q->t f H Q):PE X e g:=λd s f H Q I q=>h d s f H Q I<|i f H Q q
theorem rf {e:QQ}{t g:TT}(h:PT X e t)(i:∀f H Q,g f H Q->t f H Q):PT X e g:=λd s f H Q I q=>h d s f H Q I<|i f H Q q
theorem AJ {e:QQ}{t i:TT}(h:PW X e t)(k:∀g H Q,i g H Q->t g H Q):PW X e i:=λd f s g H Q I q=>h d f s g H Q I<|k g H Q q
theorem ml {f:U QQ}{t g:TA}(h:PA X f t)(i:∀e H Q,g e H Q->t e H Q):PA X f g:=λpos d s e H Q I q=>h pos d s e H Q I<|i e H Q q
theorem cQ {s:Q0}{t f:TS}(h:PS X s t)(g:∀D e H,f D e H->t D e H):PS X s f:=λd s e H D I q=>h d s e H D I<|g D e H q
theorem mK {s:U Q0}{t f:TS}(h:PSs X s t)(g:∀D e H,f D e H->t D e H):PSs X s f:=λd s e H D I q=>h d s e H D I<|g D e H q
theorem pB {i e:QQ}{t g:TI}(h:PI X i e t)(k:∀f H R,g f H R->t f H R):PI X i e g:=λd s f H R I q=>h d s f H R I<|k f H R q
theorem HI {g e:QQ}{t i:TI}(h:PI X g e t)(k:PI X g e i):PI X g e (λf H R=>t f H R\/i f H R):=λd s f H R I q=>q.elim (h d s f H R I)<|k d s f H R I
abbrev SE (X:Cx)(sf:Y->j Y)(C:M.Call)(d:QQ)(e:M.E):Prop:=PE X d<|wE X.K sf C e
abbrev SB (X:Cx)(sf:Y->j Y)(C:M.Call)(d:QQ)(e:M.E):Prop:=PT X d<|wT X.K sf C e
abbrev SL (X:Cx)(sf:Y->j Y)(C:M.Call)(e:U QQ)(d:U M.E):Prop:=PA X e<|wL X.K sf C d
abbrev SA (X:Cx)(sf:Y->j Y)(C:M.Call)(e:U QQ)(d:U M.E):Prop:=PA X e<|wA X.K sf C d
abbrev SS (X:Cx)(sf:Y->j Y)(d:U Y)(C:M.Call)(e:Q0)(s:M.S):Prop:=PS X e<|wS X.K (xw X) sf d C s
abbrev SSs (X:Cx)(sf:Y->j Y)(d:U Y)(C:M.Call)(e:U Q0)(s:U M.S):Prop:=PSs X e<|wSs X.K (xw X) sf d C s
theorem sV (d:Y){i:Y}{x:Str}(k:sf i=O d:=by rfl)(f:X.N[d]?=O x:=by rfl)(l:Vis X.env.scope x:=by first|exact Ks rfl|exact Kh (Ks rfl)|exact Kh<|Kh rfl)(g:(x==("__debug__":Str))=false:=by decide)
  (e:(x==("__classdict__":Str))=false:=by decide):SE X sf C (.Name x pos) (.var i):=aj (bN f l g e)<|Ce k
theorem sM (d:Y){i:Y}{x:Str}(k:sf i=O d:=by rfl)(f:X.N[d]?=O x:=by rfl)(l:Vis X.env.scope x:=by first|exact Ks rfl|exact Kh (Ks rfl)|exact Kh<|Kh rfl)(g:(x==("__debug__":Str))=false:=by decide)
  (e:(x==("__classdict__":Str))=false:=by decide):SE X sf C (.Name x pos) (.mv i):=aj (bN f l g e)<|Dx (λ_=>rfl) k
theorem sI {i:Int}{k:Y}:SE X sf C (.Constant (.int i) k pos) (.cst<|.int i):=aj De<|jM λ{_ _}=>rfl
theorem sO {i:QJ}{k:Y}:SE X sf C (.Constant (.bool i) k pos) (.cst<|.bl i):=aj EV<|jM λ{_ _}=>rfl
theorem sN {k:Y}:SE X sf C (.Constant .none k pos) (.cst .non):=aj DO<|jM λ{_ _}=>rfl
theorem ba (s:QZ)(f:s.length<=1000):M.sOk (Str.ofString s)=true:=by
 unfold M.sOk;rw[Str.ofString_eq_toList,Kt];refine⟨?_,QE ?_⟩
 .rw [Oj];intro x hx;rw[List.mem_toArray,Kl] at hx;obtain⟨c,_,rfl⟩:=hx;refine QE ?_;have:=c.valid;have d:c.toNat<0x110000:=by have e:=c.valid;unfold UInt32.isValidChar Nat.isValidChar at e;show c.val.toNat<_;lia
  exact d
 .rw [Ko,J6,Py];exact Ky f<|by decide
theorem sS {s:QZ}{k:Y}(d:s.length<=1000:=by decide):SE X sf C (.Constant (.str<|Str.ofString s) k pos) (.cst<|.str<|Str.ofString s):=aj C4<|jM λ{_ _}=>⟨rfl,ba s d⟩
theorem sl0:SL X sf C [] []:=ml cR B9
theorem slc {d:U QQ}{bs:U M.E}(e:SE X sf C ea a)(f:SL X sf C d bs)(g:J5 (ea::d) X.env=(JY,QY ea X.env)::J5 d X.env:=by rfl):SL X sf C (ea::d) (a::bs):=ml (bw e f g) zj
theorem sT {d:U QQ}{bs:U M.E}{f:Y}(h:SL X sf C d bs)(e:bs.length<=M.LIM:=by decide):SE X sf C (.Tuple d f pos) (.tup bs):=aj (Ef h)<|BK e
theorem sLs {d:U QQ}{bs:U M.E}(e:SL X sf C d bs)(f:bs.length<=M.LIM:=by decide):SE X sf C (.List d pos) (.lst h bs):=aj (CY e)<|Cz f
theorem aV (p:SE X sf C ea a)(t:SE X sf C eb b):SE X sf C (.BinOp ea .Add eb pos) (.op .add h [a,b]):=
 aj (fG (op_add.or<|op_add_str.or<|op_cat.or Ah) p t) (aI (yd (AX X.K) λ{Z H G Q a b x y D} i l o e w r k=>by
  obtain⟨z,f,g⟩:=r;refine⟨a,b,x,y,rfl,rfl,i,l,o,br e,λv A d u=>l8 (m:=.s) w f ?_ g k d u⟩;rw[Kk];exact e))
theorem mX (d:SE X sf C ea a)(e:SE X sf C eb b):SE X sf C (.BinOp ea .Sub eb pos) (.op .sub h [a,b]):=aj (fG Cg d e)<|aI yS
theorem nK (d:SE X sf C ea a)(e:SE X sf C eb b):SE X sf C (.BinOp ea .Mult eb pos) (.op .mul h [a,b]):=aj (fG (op_mul.or DG) d e)<|aI xT
theorem Gi (d:SE X sf C ea a)(e:SE X sf C eb b):SE X sf C (.BinOp ea .FloorDiv eb pos) (.op .fdiv h [a,b]):=aj (fG wH d e)<|aI qW
theorem IK (d:SE X sf C ea a)(e:SE X sf C eb b):SE X sf C (.BinOp ea .Mod eb pos) (.op .mod h [a,b]):=aj (fG EH d e)<|aI Aj
theorem Jz (d:SE X sf C ea a)(e:SE X sf C eb b):SE X sf C (.BinOp ea .Pow eb pos) (.op .pow h [a,b]):=aj (fG BR d e)<|aI Ag
theorem xS (d:SE X sf C ea a):SE X sf C (.UnaryOp .USub ea pos) (.op .neg h [a]):=aj (Hz DB d)<|Bt Ar
theorem sLt (d:SE X sf C ea a)(e:SE X sf C eb b):SE X sf C (.Compare ea [.Lt] [eb] pos) (.op .lt h [a,b]):=aj (dJ sj d e<|bB _)<|aI rm
theorem sLe (d:SE X sf C ea a)(e:SE X sf C eb b):SE X sf C (.Compare ea [.LtE] [eb] pos) (.op .le h [a,b]):=aj (dJ tF d e<|bB _)<|aI ux
theorem sGt (d:SE X sf C ea a)(e:SE X sf C eb b):SE X sf C (.Compare ea [.Gt] [eb] pos) (.op .gt h [a,b]):=aj (dJ AW d e<|bB _)<|aI uv
theorem sGe (d:SE X sf C ea a)(e:SE X sf C eb b):SE X sf C (.Compare ea [.GtE] [eb] pos) (.op .ge h [a,b]):=aj (dJ AH d e<|bB _)<|aI vq
theorem sIx (d:SE X sf C ea a)(e:SE X sf C eb b)(f:jO eb:=by intro _ _;rfl):SE X sf C (.Subscript ea eb pos) (.op .ix h [a,b]):=aj (AS (ix_any.or Er) d e f)<|aI DU
mutual
def th:M.T->Th
|.non=>.non | .bl b=>.bl b | .int i=>.int i | .str x=>.str x | .tup ts=>.tup (ths ts) | .lst ts=>.lst (ths ts) | .dct _ _=>.non | .ins _ _ _=>.non | .scr _=>.non | .gone=>.non
def ths:U M.T->U Th
|[]=>[]
|t::ts=>th t::ths ts
end
mutual
theorem jU {K:J2}{Z:Fp}{H:Hp}:∀{t:M.T} {m:M.Md} {v:V} {G:Fp} {n:Y},M.dp t<=n->n<=64->Rep K Z H m t v G->Has K H (th t) v/\(toD<|th t).canLay0=JZ/\(toD<|th t).depth<=n
|.non,_,_,_,_,_,_,r=>⟨r,rfl,Kx _⟩
|.bl _,_,_,_,_,_,_,r=>⟨r,rfl,Kx _⟩
|.int _,_,_,_,_,_,_,r=>⟨r,rfl,Kx _⟩
|.str x,_,_,_,_,_,_,r=>⟨r.1,by have h:=r.2;unfold M.sOk at h;rw[Kt] at h;exact h.1,Kx _⟩
| .tup ts,m,v,G,n,hd,hn,⟨a,xs,e,q,l,r⟩=>by
 have hd':M.dps ts+1<=n:=hd
 match n,hd' with
 |n+1,hd'=>obtain⟨h1,h2,h3⟩:=gH (n:=n) (by lia) (by lia) r;exact⟨⟨a,xs,e,q,h1⟩,h2,Ox h3⟩
| .lst ts,m,v,G,n,hd,hn,⟨a,xs,e,l,q,r⟩=>by
 have hd':M.dps ts+1<=n:=hd
 match n,hd' with
 |n+1,hd'=>obtain⟨h1,h2,h3⟩:=gH (n:=n) (by lia) (by lia) r;exact⟨⟨a,xs,e,by cases m<;>exact q.2,h1⟩,h2,Ox h3⟩
|.dct _ _,_,_,_,_,hd,hn,_=>by have:1000<=64:=Ky hd hn;lia
|.ins _ _ _,_,_,_,_,hd,hn,_=>by have:1000<=64:=Ky hd hn;lia
|.gone,_,_,_,_,hd,hn,_=>by have:1000<=64:=Ky hd hn;lia
|.scr _,_,_,_,_,hd,hn,_=>by have:1000<=64:=Ky hd hn;lia
theorem gH {K:J2}{Z:Fp}{H:Hp}:∀{ts:U M.T} {m:M.Md} {xs:U V} {G:Fp} {n:Y},M.dps ts<=n->n<=64->RepL K Z H m ts xs G->HasL K H (ths ts) xs/\PyData.canLayAll0 (eO<|ths ts)=JZ/\PyData.depthAll (eO<|ths ts)<=n
|[],_,_,_,_,_,_,r=>⟨r,rfl,Kx _⟩
| t::ts,m,xs,G,n,hd,hn,⟨x,r,G1,G2,e,_,_,_,p,q⟩=>by
 have hd':max (M.dp t) (M.dps ts)<=n:=hd;obtain⟨h1,h2,h3⟩:=jU (n:=n) (by lia) hn p;obtain⟨k1,k2,k3⟩:=gH (n:=n) (by lia) hn q;refine⟨⟨x,r,e,h1,k1⟩,?_,?_⟩
 .show ((toD<|th t).canLay0&&PyData.canLayAll0 (eO<|ths ts))=JZ;rw[h2,k2];rfl
 .show max (toD<|th t).depth (PyData.depthAll<|eO<|ths ts)<=n;lia
end
mutual
theorem mU:∀(t u:M.T),M.dp t<=64->M.dp u<=64->PyData.eqv (toD<|th t) (toD<|th u)=M.eqT t u
|.dct _ _,_,h,_=>by have:1000<=64:=h;lia
|.ins _ _ _,_,h,_=>by have:1000<=64:=h;lia
|.gone,_,h,_=>by have:1000<=64:=h;lia
|.scr _,_,h,_=>by have:1000<=64:=h;lia
|.non,u,_,h=>by cases u<;>first|rfl|(have:1000<=64:=h;lia)
|.bl a,u,_,h=>by cases u<;>first|rfl|(cases a<;>rfl)|(have:1000<=64:=h;lia)
|.int i,u,_,h=>by
 cases u with
 |bl b=>cases b<;>rfl
 |_=>first|rfl|(have:1000<=64:=h;lia)
|.str x,u,_,h=>by cases u<;>first|rfl|(have:1000<=64:=h;lia)
|.tup ts,u,h1,h=>by
 cases u with
 |tup us=>exact jD ts us (by have:M.dps ts+1<=64:=h1;lia) (by have:M.dps us+1<=64:=h;lia)
 |_=>first|rfl|(have:1000<=64:=h;lia)
|.lst ts,u,h1,h=>by
 cases u with
 |lst us=>exact jD ts us (by have:M.dps ts+1<=64:=h1;lia) (by have:M.dps us+1<=64:=h;lia)
 |_=>first|rfl|(have:1000<=64:=h;lia)
theorem jD:∀(ts us:U M.T),M.dps ts<=64->M.dps us<=64->PyData.eqvAll (eO<|ths ts) (eO<|ths us)=M.eqTs ts us
|[],[],_,_=>rfl
|[],_::_,_,_=>rfl
|_::_,[],_,_=>rfl
|t::ts,u::us,h1,h2=>by have h1':max (M.dp t) (M.dps ts)<=64:=h1;have h2':max (M.dp u) (M.dps us)<=64:=h2;show(PyData.eqv (toD<|th t) (toD<|th u)&&PyData.eqvAll (eO<|ths ts) (eO<|ths us))=(M.eqT t u&&M.eqTs ts us);rw[mU t u (by lia)<|by lia,jD ts us (by lia)<|by lia]
end
theorem jx {K:J2}{Z:Fp}{H:Hp}{t:M.T}{m:M.Md}{v:V}{G:Fp}(g:M.dp t<=64)(r:Rep K Z H m t v G):Has K H (th t) v/\j6 (th t):=by obtain⟨d,e,f⟩:=jU g (J9 _) r;refine⟨d,?_⟩;show((toD<|th t).canLay0&&decide ((toD<|th t).depth<=64))=JZ;rw[e,QE f];rfl
theorem tU {K:J2}:Loc K 2 .eq h λl H Q=>∀x y,l=[x,y]->∃t i,Has K H t x/\Has K H i y/\j6 t/\j6 i/\Q (.bl<|PyData.eqv (toD t)<|toD i) H:=by
 intro P w l Z H G Q F e r I za k x y hx;subst hx;obtain⟨⟨m,a⟩,⟨n,b⟩,rfl⟩:=dU r.length.symm;obtain⟨A,D,L,N,d,v,z⟩:=bY r;have g:(if decide (M.dp a<=64)&&decide (M.dp b<=64) then O ((.d,.bl (M.eqT a b)):M.W) else J)=O w:=e;split at g
 .rename_i f;rw[Kt,QM,QM] at f;cases g;obtain⟨o,s⟩:=jx f.1 v;obtain⟨p,u⟩:=jx f.2 z;refine⟨th a,th b,o,p,s,u,?_⟩;rw[mU a b f.1 f.2];exact cz k
 .cases g
theorem sA {K:J2}:Loc K 2 .ne h λl H Q=>∀x y,l=[x,y]->∃t i,Has K H t x/\Has K H i y/\j6 t/\j6 i/\Q (.bl<|!PyData.eqv (toD t) (toD i)) H:=by
 intro P w l Z H G Q F e r I za k x y hx;subst hx;obtain⟨⟨m,a⟩,⟨n,b⟩,rfl⟩:=dU r.length.symm;obtain⟨A,D,L,N,d,v,z⟩:=bY r;have g:(if decide (M.dp a<=64)&&decide (M.dp b<=64) then O ((.d,.bl (!M.eqT a b)):M.W) else J)=O w:=e;split at g
 .rename_i f;rw[Kt,QM,QM] at f;cases g;obtain⟨o,s⟩:=jx f.1 v;obtain⟨p,u⟩:=jx f.2 z;refine⟨th a,th b,o,p,s,u,?_⟩;rw[mU a b f.1 f.2];exact cz k
 .cases g
theorem sEq (f:Room n X.A)(d:SE X sf C ea a)(e:SE X sf C eb b):SE X sf C (.Compare ea [.Eq] [eb] pos) (.op .eq h [a,b]):=aj (dJ (pe f.units) d e<|bB _)<|aI tU
theorem sNe (f:Room n X.A)(d:SE X sf C ea a)(e:SE X sf C eb b):SE X sf C (.Compare ea [.NotEq] [eb] pos) (.op .ne h [a,b]):=aj (dJ (oQ f.units) d e<|bB _)<|aI sA
theorem ifN {d:Type}{b:QJ}{x:j d}{y:d}(h:(if b=JZ then J else x)=O y):b=JY/\x=O y:=by cases b<;>first|exact⟨rfl,h⟩|cases h
theorem oA {K:J2}{Z:Fp}{H:Hp}{G:Fp}{m:M.Md}{f:U M.T}{i:U V}(lo g:j Int)(r:RepL K Z H m f i G):RepL K Z H m (M.cut f lo g) (eG i lo g) G:=by
 have e:=r.length;have k:∀n d o,HT.sIx n d o=M.sIx n d o:=λn d o=>by cases o<;>rfl
 have l:eG i lo g=(i.drop (M.sIx f.length 0 lo)).take (M.sIx f.length f.length g-M.sIx f.length 0 lo):=by unfold eG;rw[k,k,e]
 rw[l];exact(r.drop _).take _
theorem uB (g:U Int)(lo e:j Int):eG (g.map V.int) lo e=(M.cut g lo e).map V.int:=by
 have f:∀n d o,HT.sIx n d o=M.sIx n d o:=λn d o=>by cases o<;>rfl
 unfold eG M.cut;rw[f,f,J6,List.map_take,List.map_drop]
theorem By {f:Type}(d:U f)(lo e:j Int):(M.cut d lo e).length<=d.length:=by unfold M.cut;rw[Lc,Lq];lia
theorem rK {K:J2}{Z:Fp}{H:Hp}{G u:Fp}{Q:VK}{m:M.Md}{a:M.T}{x:V}{w:M.W}{lo hi:j Int}(F:∀b,u b->G b)(D:Own Z H G)(I:∀a,Z a->H a≠J)(r:Rep K Z H m a x u)
  (e:(match a with | .lst o=>M.newL h m.kid (M.cut o lo hi) | .tup o=>O ((.s,.tup<|M.cut o lo hi):M.W) | .scr A=>O (.d,.lst<|(M.cut A lo hi).map M.T.int)|_=>J)=O w) (k:Out K Z H G w Q):xG K x lo hi H Q\/yF K x lo hi H Q:=by
 cases a with
 |lst o=>obtain⟨p,t,rfl,g,y,q⟩:=bg r;refine .inl ⟨p,t,rfl,.inl<|.inl g,λl f=>?_⟩;exact dA D I (Ky (cq t lo hi) y) ⟨u,F,(oA lo hi q).zmono λ_ z=>.inl z⟩ e k f
 |tup o=>obtain⟨p,t,rfl,g,y,q⟩:=cX r;cases e;refine .inr ⟨p,t,rfl,g,λv H' i P=>?_⟩;exact l8 (m:=.s) (G':=no) D (λ_ z=>z.elim) (Ky (cq t lo hi) y) ((RepL.sh<|oA lo hi q).zmono λb N=>N.imp id λz=>⟨F b z,λq=>q⟩) k i P
 |scr A=>obtain⟨p,rfl,L,g⟩:=r;cases e;refine .inl ⟨p,_,rfl,g.sq,λl f=>?_⟩;rw[uB];exact bh (m:=.d) (G':=no) D I (λ_ z=>z.elim) (by rw[J6];exact Ky (By A lo hi) L) (fA _) (by simp) k f
 |_=>cases e
theorem jI {p:Pos}(f:SE X sf C ea a)(g:SE X sf C eb b):SE X sf C (.Subscript ea (.Slice J (O eb) J p) pos) (.op .sl2 h [a,b]):=
 aj (lF (sl_list.or n0) f n9<|ox g) (λz H Q l=>aI (r:=λx y H Q=>∃i,y=.int i/\(xG X.K x J (O i) H Q\/yF X.K x J (O i) H Q)) (by
  intro L w M Z H G Q F e r o v k x y hx;subst hx;obtain⟨⟨m,a⟩,⟨n,b⟩,rfl⟩:=dU r.length.symm;obtain⟨A,D,u,I,d,s,t⟩:=bY r;obtain⟨i,rfl⟩:∃i,b=.int i:=by cases a<;>first|(cases e;done)|(cases b<;>first|exact⟨_,rfl⟩|(cases e;done))
  exact⟨i,t,rK (h:=h) (lo:=J) (hi:=O i) u o v s (by cases a<;>exact e) k⟩) z H Q l)
theorem iz {p:Pos}(f:SE X sf C ea a)(g:SE X sf C eb b):SE X sf C (.Subscript ea (.Slice (O eb) J J p) pos) (.op .sl1 h [a,b]):=
 aj (lF (sl_list.or n0) f (ox g) n9) (λz H Q l=>aI (r:=λx y H Q=>∃i,y=.int i/\(xG X.K x (O i) J H Q\/yF X.K x (O i) J H Q)) (by
  intro L w M Z H G Q F e r o v k x y hx;subst hx;obtain⟨⟨m,a⟩,⟨n,b⟩,rfl⟩:=dU r.length.symm;obtain⟨A,D,u,I,d,s,t⟩:=bY r;obtain⟨i,rfl⟩:∃i,b=.int i:=by cases a<;>first|(cases e;done)|(cases b<;>first|exact⟨_,rfl⟩|(cases e;done))
  exact⟨i,t,rK (h:=h) (lo:=O i) (hi:=J) u o v s (by cases a<;>exact e) k⟩) z H Q l)
theorem kA {K:J2}:Loc K 1 .len h λd H Q=>∃x n,d=[x]/\H9 K x H n/\Q (.int n) H:=by intro l w d Z H G Q g e r i m k;obtain⟨x,n,hx,f,q⟩:=xH (h:=h) l w d Z H G Q g e r i m k;exact⟨x,n,hx,by cases x<;>exact f,q⟩
section
variable {p:Pos}{x1:Str}
theorem eB (hm:X.mg "len"=J)(f:Gl X "len":=by rfl)(ha:SE X sf C ea a)(e:J5 [ea] X.env=(JY,QY ea X.env)::J5 [] X.env:=by rfl)(d:(Kw pos<|J5 [] X.env).any (·.1)=false:=by rfl):SE X sf C (.Call (.Name "len" p) [ea] [] pos) (.op .len h [a]):=
 aj (bb lZ f hm Qa (slc ha sl0 e) (by decide) (by decide) e d) (cf kA rfl)
theorem Ii (f:X.calm=true:=by rfl)(hm:X.mg "sum"=J)(g:Gl X "sum":=by rfl)(ha:SE X sf C ea a)(e:J5 [ea] X.env=(JY,QY ea X.env)::J5 [] X.env:=by rfl)(d:(Kw pos<|J5 [] X.env).any (·.1)=false:=by rfl):SE X sf C (.Call (.Name "sum" p) [ea] [] pos) (.op .sum h [a]):=
 aj (bb (pU f) g hm (by rfl) (slc ha sl0 e) (by decide) (by decide) e d) (cf zd rfl)
theorem Dq (f:X.calm=true:=by rfl)(hm:X.mg "all"=J)(g:Gl X "all":=by rfl)(ha:SE X sf C ea a)(e:J5 [ea] X.env=(JY,QY ea X.env)::J5 [] X.env:=by rfl)(d:(Kw pos<|J5 [] X.env).any (·.1)=false:=by rfl):SE X sf C (.Call (.Name "all" p) [ea] [] pos) (.op .all h [a]):=
 aj (bb (qz f) g hm (by rfl) (slc ha sl0 e) (by decide) (by decide) e d) (cf yR rfl)
theorem G9 (hm:X.mg "list"=J)(f:Gl X "list":=by rfl)(ha:SE X sf C ea a)(e:J5 [ea] X.env=(JY,QY ea X.env)::J5 [] X.env:=by rfl)(d:(Kw pos<|J5 [] X.env).any (·.1)=false:=by rfl):SE X sf C (.Call (.Name "list" p) [ea] [] pos) (.op .list h [a]):=
 aj (cP ka f hm Ma (slc ha sl0 e) (by decide) (by decide) e d) (cf sQ rfl)
theorem JD (g:X.calm=true:=by rfl)(hm:X.mg "max"=J)(i:Gl X "max":=by rfl)(ha:SE X sf C ea a)(hb:SE X sf C eb b)(f:J5 [ea,eb] X.env=(JY,QY ea X.env)::J5 [eb] X.env:=by rfl)(e:J5 [eb] X.env=(JY,QY eb X.env)::J5 [] X.env:=by rfl)(d:(Kw pos<|J5 [eb] X.env).any (·.1)=false:=by rfl):SE X sf C (.Call (.Name "max" p) [ea,eb] [] pos) (.op .max h [a,b]):=
 aj (bb (qw g) i hm (by rfl) (slc ha (slc hb sl0 e) f) (by decide) (by decide) f d) (cf zy rfl)
theorem Jy (g:X.calm=true:=by rfl)(hm:X.mg "min"=J)(i:Gl X "min":=by rfl)(ha:SE X sf C ea a)(hb:SE X sf C eb b)(f:J5 [ea,eb] X.env=(JY,QY ea X.env)::J5 [eb] X.env:=by rfl)(e:J5 [eb] X.env=(JY,QY eb X.env)::J5 [] X.env:=by rfl)(d:(Kw pos<|J5 [eb] X.env).any (·.1)=false:=by rfl):SE X sf C (.Call (.Name "min" p) [ea,eb] [] pos) (.op .min h [a,b]):=
 aj (bb (pM g) i hm (by rfl) (slc ha (slc hb sl0 e) f) (by decide) (by decide) f d) (cf xr rfl)
end
theorem jH {K:J2}{x:V}{H:Hp}{k:QJ}(h:TrV K x H k):vf K x H k:=by
 cases x with
 |ref p=>exact h.imp id .inl
 |byt _=>exact h.elim
 |_=>exact h
theorem tB (o:SE X sf C ea a)(p:∀e,RH ea X.env e=(do let v <- e;standAt ea.pos;L1 [v] (truthy v)):=by intro _;rfl):SB X sf C ea a:=
 rf (uD o p) λy H Q h=>by obtain⟨u,Z,i,x,w,g,b,A,ev,t,k⟩:=h;exact⟨u,Z,i,x,w,g,A,ev,λv m l f G d r s=>⟨b,jH<|fw t r,k m l f d.bare<|s.mono (λ_ z=>z) λ_ z=>.inl z⟩⟩
theorem er (d:SB X sf C ea a):SB X sf C (.UnaryOp .Not ea pos) (.not a):=rf (BH d) Cm
theorem HS {m:L2.St}{H:Hp}{Q:QJ->Hp->Prop}(u:∀i w e,M.evE C a i=.ok (w,e)->∃b,w.2=.bl b)(h:wT X.K sf C a m H Q):Ay (wE X.K sf C a) m H Q:=by obtain⟨x,Z,o,i,w,e,b,A,ev,l,k⟩:=h;refine⟨x,Z,o,i,w,e,A,ev,λv t p f G d r s=>⟨b,?_,k t p f d.bare<|s.mono (λ_ z=>z) λ_ z=>.inl z⟩⟩;obtain⟨y,g⟩:=u _ _ _ ev;rw[g] at l r;cases l;exact r
theorem E6 {o:M.Op}(ho:∀u v w,M.oSem o h [u,v]=O w->∃b,w.2=.bl b):∀f w d,M.evE C (.op o h [a,b]) f=.ok (w,d)->∃b,w.2=.bl b:=λf w d e=>by obtain⟨r,i,k⟩:=dk e;obtain⟨u,m,l,_,e2,rfl⟩:=aL i;obtain⟨v,p,l,_,g,rfl⟩:=aL e2;cases g;exact ho u v w k
theorem cV {op:CmpOp}{r:R2}{o:M.Op}(ho:OpR X (Lh op) r)(f:SE X sf C ea a)(g:SE X sf C eb b)(k:MZ op eb=JY)(i:∀d H Q,wE X.K sf C (.op o h [a,b]) d H Q->tOp r (wE X.K sf C a) (wE X.K sf C b) d H Q)
  (e:∀u v w,M.oSem o h [u,v]=O w->∃b,w.2=.bl b):SB X sf C (.Compare ea [op] [eb] pos) (.op o h [a,b]):=
 rf (yD ho f g k) λd H Q l=>i d H _<|HS (E6 e) l
theorem He {u v w:M.W}(e:M.oSem .eq h [u,v]=O w):∃b,w.2=.bl b:=by
 obtain⟨m,a⟩:=u;obtain⟨n,b⟩:=v;have f:(if decide (M.dp a<=64)&&decide (M.dp b<=64) then O ((.d,.bl (M.eqT a b)):M.W) else J)=O w:=e;split at f
 .cases f;exact⟨_,rfl⟩
 .cases f
theorem GY {u v w:M.W}(e:M.oSem .ne h [u,v]=O w):∃b,w.2=.bl b:=by
 obtain⟨m,a⟩:=u;obtain⟨n,b⟩:=v;have f:(if decide (M.dp a<=64)&&decide (M.dp b<=64) then O ((.d,.bl (!M.eqT a b)):M.W) else J)=O w:=e;split at f
 .cases f;exact⟨_,rfl⟩
 .cases f
theorem we (d:SE X sf C ea a)(f:SE X sf C eb b):SB X sf C (.Compare ea [.Lt] [eb] pos) (.op .lt h [a,b]):=cV sj d f (bB _) (aI rm) λu v w e=>by obtain⟨_,_,_,_,_,_,rfl⟩:=mN e;exact⟨_,rfl⟩
theorem Ij (d:SE X sf C ea a)(f:SE X sf C eb b):SB X sf C (.Compare ea [.LtE] [eb] pos) (.op .le h [a,b]):=cV tF d f (bB _) (aI ux) λu v w e=>by obtain⟨_,_,_,_,_,_,rfl⟩:=nU e;exact⟨_,rfl⟩
theorem mE (d:SE X sf C ea a)(f:SE X sf C eb b):SB X sf C (.Compare ea [.Gt] [eb] pos) (.op .gt h [a,b]):=cV AW d f (bB _) (aI uv) λu v w e=>by obtain⟨_,_,_,_,_,_,rfl⟩:=uP e;exact⟨_,rfl⟩
theorem Iu (d:SE X sf C ea a)(f:SE X sf C eb b):SB X sf C (.Compare ea [.GtE] [eb] pos) (.op .ge h [a,b]):=cV AH d f (bB _) (aI vq) λu v w e=>by obtain⟨_,_,_,_,_,_,rfl⟩:=rh e;exact⟨_,rfl⟩
theorem dX (g:Room n X.A)(d:SE X sf C ea a)(f:SE X sf C eb b):SB X sf C (.Compare ea [.Eq] [eb] pos) (.op .eq h [a,b]):=cV (pe g.units) d f (bB _) (aI tU) λu v w e=>He e
theorem u5 (g:Room n X.A)(d:SE X sf C ea a)(f:SE X sf C eb b):SB X sf C (.Compare ea [.NotEq] [eb] pos) (.op .ne h [a,b]):=cV (oQ g.units) d f (bB _) (aI sA) λu v w e=>GY e
abbrev SW (X:Cx)(sf:Y->j Y)(C:M.Call)(d:QQ)(e:M.E):Prop:=PW X d<|wT X.K sf C e
theorem wA1 (d:SB X sf C ea a):SW X sf C (.BoolOp .And [ea] pos) a:=zK d
theorem wO1 (d:SB X sf C ea a):SW X sf C (.BoolOp .Or [ea] pos) a:=C5 d
theorem tH {rest:U QQ}(d:SB X sf C ea a)(e:SW X sf C (.BoolOp .And (eb::rest) pos) b):SW X sf C (.BoolOp .And (ea::eb::rest) pos) (.and a b):=AJ (DT d e) Cd
theorem wOr {rest:U QQ}(d:SB X sf C ea a)(e:SW X sf C (.BoolOp .Or (eb::rest) pos) b):SW X sf C (.BoolOp .Or (ea::eb::rest) pos) (.or a b):=AJ (GR d e) GW
theorem tW (h:SW X sf C ea a):SB X sf C ea a:=h.pt
theorem yU {i:TE}(l:PE X ea i):PE X (.UnaryOp .Not ea pos) (λf H Q=>i f H λx e=>∃k,vf X.K x e k/\Q (.bl<|!k) e):=by intro d s f H Q I h;refine UnaryOp_<|thn (l d s f H _ I h) λv r ⟨x,e,I1,p,m⟩=>?_;refine not_of<|thn (nQ d r f e x v (λk g=>Q (.bl<|!k) g) I1 p m) λk t ⟨g,I2,o⟩=>⟨.bl<|!k,g,I2,rfl,o⟩
theorem Iy (m:SE X sf C ea a):SE X sf C (.UnaryOp .Not ea pos) (.not a):=aj (yU m) λu H Q h=>by obtain⟨o,Z,g,p,w,f,A,ev,k⟩:=Cc u H Q h;exact⟨o,Z,g,p,w,f,A,ev,λv l i e G d r s=>let ⟨c,t,q⟩:=k v l i e G d r s;⟨c,jH t,q⟩⟩
theorem sIf (f:SB X sf C ec c)(d:SE X sf C ea a)(e:SE X sf C eb b):SE X sf C (.IfExp ec ea eb pos) (.ifx c a b):=aj (rM f d e) Be
theorem de {e:QQ}(d:SE X sf C ea a):PI X e ea (wI X.K sf C 1 .seq [a]):=pB (HI (jq d)<|DX d) DY
theorem qy {f:QQ}{p:Pos}(hm:X.mg "range"=J)(e:Gl X "range":=by rfl)(ha:SE X sf C ea a)(d:J5 [ea] X.env=[(JY,QY ea X.env)]:=by rfl):PI X f (.Call (.Name "range" p) [ea] [] pos) (wI X.K sf C 1 .rng [a]):=pB (qi e hm (slc ha sl0 d) d) yg
noncomputable def lkN:U Y->Y->Y->j Y
|[],_,_=>J
|t::d,n,i=>if i=t then O n else lkN d (n+1) i
theorem nY:∀{l:U Y} {n i d:Y},lkN l n i=O d->∃k,l[k]?=O i/\d=n+k/\i ∉ l.take k
|[],_,_,_,h=>by cases h
| t::o,n,i,d,h=>by
 have f:(if i=t then O n else lkN o (n+1) i)=O d:=h;split at f
 .rename_i e;cases f;exact⟨0,by rw[e];rfl,rfl,by simp⟩
 .rename_i e;obtain⟨k,g,p,m⟩:=nY f;exact⟨k+1,g,by lia,by rw[Na,Kg];exactλz=>z.elim e m⟩
def inF (e d:U Y):Y->j Y:=lkN (e++d) 0
theorem dB {e l m:U Y}(h:l.map sf=m.map O):eP sf (inF e l) e m:=λi d s=>by
 obtain⟨k,g,o,p⟩:=nY<|show lkN (e++l) 0 i=O d from s;rw[LD] at o;subst o;by_cases hk:d<e.length
 .rw [Mr hk] at g;exact .inl ⟨d,g,rfl⟩
 .have f:e.length<=d:=PV hk;rw[L9 f] at g;refine .inr ⟨λr=>p ?_,?_⟩
  .rw [List.take_append,MI f];exact LV _ r
  .have e1:(l.map sf)[d-e.length]?=O (sf i):=by rw [Kz,g]; rfl
   rw[h,Kz] at e1;cases e2:m[d-e.length]? with
   |none=>rw[e2] at e1;cases e1
   |some t=>rw[e2] at e1;exact⟨d-e.length,t,by lia,e2,(KH e1).symm⟩
theorem sv {x:Str}{l:Pos}{e:U Str}{d:Q2}{g:U<|Str×QF}(S:aB [x] e d)(f:QF)(s:J0)(H:Hp)(k:U QF):PG (ak X ([x]++e) d g f s H k) (.Name x l) (gT X.K 1):=
 dH (X:=ak X ([x]++e) d g f s H k) (i:=0) (x:=x) (pos:=l) S.nd rfl (.inl<|lookup_relabel_local<|S.loc x<|by simp) (.inr<|lookup_relabel_local<|S.loc x<|by simp)
end
end MR

namespace MR
open PySem PySem.Spec PyProof.Rows L2 L3
section
variable {X:Cx}{sf sg:Y->j Y}{C:M.Call}{pos p2:Pos}{ea eb ec:QQ}{a b c:M.E}{h:QJ}{n:Y}{io:U Y}
section
variable {elt iter cnd:QQ}{x y:Str}{px py pt:Pos}{kt:Y}{scope:Q2}{cl:U (Str×QF)}{ys:U Str}{tg ls is:U Y}{k:M.Ik}{src:U M.E}{e cd:M.E}
theorem sC1 (ls:U Y)(is:U Y)(cl:U<|Str×QF)(ys:U Str){t:Y}(r:PI X (.Name x px) iter<|wI X.K sf C 1 k src)(o:∀f s H g,SE (ak X ([x]++ys) scope cl f s H g) (inF [t] ls) C elt e)
  (S:aB [x] ys scope) (i:Clo X cl) (fr:Frees X scope cl ys is) (m:X.calm=true:=by rfl) (u:ls.map sf=is.map some:=by rfl)
  (d:Lk scope X.env=pure cl:=by with_unfolding_all rfl) (l:(scope.names.all λp=>p.2 != .free || (cl.lookup p.1).isSome)=true:=by rfl)
  (w:∀v,K7 iter X.env v=pure v:=by intro _;rfl):SE X sf C (.ListComp elt [⟨.Name x px,iter,[],0⟩] scope pos) (.comp h k src [t] J e):=
 aj (qM (pre:=[x]) m r (sv S) (λf s H g=>o f s H g) d S i l fr w) (kP rfl (by simp) (dB u))
theorem Fu (ls:U Y)(is:U Y)(cl:U<|Str×QF)(ys:U Str){t:Y}(u:PI X (.Name x px) iter<|wI X.K sf C 1 k src)(i:∀d s H f,SB (ak X ([x]++ys) scope cl d s H f) (inF [t] ls) C cnd cd)(r:∀d s H f,SE (ak X ([x]++ys) scope cl d s H f) (inF [t] ls) C elt e)
  (S:aB [x] ys scope) (l:Clo X cl) (fr:Frees X scope cl ys is) (o:X.calm=true:=by rfl) (w:ls.map sf=is.map some:=by rfl)
  (g:Lk scope X.env=pure cl:=by with_unfolding_all rfl) (m:(scope.names.all λp=>p.2 != .free || (cl.lookup p.1).isSome)=true:=by rfl)
  (z:∀v,K7 iter X.env v=pure v:=by intro _;rfl):SE X sf C (.ListComp elt [⟨.Name x px,iter,[cnd],0⟩] scope pos) (.comp h k src [t] (O cd) e):=
 aj (iO (pre:=[x]) o u (sv S) (λd s H f=>r d s H f) (λd s H f=>i d s H f) g S l m fr z) (lh rfl (by simp) (dB w))
end
def spS (K:J2)(C:M.Call)(f:Y)(io:U Y):Sp:=λd H Q _=>spC K C f io d H Q
theorem sa0:SA X sf C [] []:=ml cR CL
theorem sac {d:U QQ}{bs:U M.E}(e:SE X sf C ea a)(f:SA X sf C d bs)(g:∀i,a≠.io i:=by intro _ z;cases z)(k:J5 (ea::d) X.env=(JY,QY ea X.env)::J5 d X.env:=by rfl):SA X sf C (ea::d) (a::bs):=ml (bw e f k)<|se g
theorem sai (d:Y){i:Y}{x:Str}{e:U QQ}{bs:U M.E}(l:SA X sf C e bs)(o:sf i=O d:=by rfl)(k:X.N[d]?=O x:=by rfl)(p:Vis X.env.scope x:=by first|exact Ks rfl|exact Kh (Ks rfl)|exact Kh<|Kh rfl)(m:(x==("__debug__":Str))=false:=by decide)
  (f:(x==("__classdict__":Str))=false:=by decide) (g:J5 (.Name x pos::e) X.env=(JY,QY (.Name x pos) X.env)::J5 e X.env:=by rfl):SA X sf C (.Name x pos::e) (.io i::bs):=ml (bw (bN k p m f) l g)<|qh o
def af (P:QN)(w:J8)(K:J2)(i:Str->j B)(d:QS)(n:Y)(C:M.Call)(x:Str)(f:Y)(io:U Y):Prop:=
 ∃e g k,eE P w K i d CX0 n e g k (spS K C f io)/\i x=O (.ref e)/\MK K (.ref e)=JZ/\Binds K g k []
theorem aA {x:Str}{p:Pos}{f:Y}{e:U QQ}{bs:U M.E}(c:af X.prog X.w X.K X.mg X.base n C x f io)(hr:Room n X.A)(D:SA X sf C (ea::e) bs)(l:gP bs 0=io\/M.ios bs=[]:=by first|exact .inl rfl|exact .inr rfl)(N:Gl X x:=by rfl)(i:(x==("__debug__":Str))=false:=by decide)
  (L:J5 (ea::e) X.env=(JY,QY ea X.env)::J5 e X.env:=by rfl) (m:(Kw pos<|J5 e X.env).any (·.1)=false:=by rfl):SE X sf C (.Call (.Name x p) (ea::e) [] pos) (.call f bs):=by
 obtain⟨fa,fd,ps,F,P,hk,I⟩:=c;refine aj (wZ (E:=E0) F hr N P hk I .nil HN D i L m) λσ H Q hw=>?_;have z:=zS l σ H Q hw;obtain⟨pv,Z,v,η,ws,o,A,ev,k⟩:=z;exact⟨pv,Z,v,η,ws,o,A,ev,λu y t g G d r s hv=>by show spS X.K C f io (u++[]) t Q E0;rw[KR];exact k u y t g G d r s hv⟩
theorem ss0:SSs X sf io C [] []:=mK ye zV
theorem ss1 {s:Q0}{t:M.S}(d:SS X sf io C s t):SSs X sf io C [s] [t]:=mK (zk d) x8
theorem ssc {s:Q0}{t:M.S}{r:U Q0}{u:U M.S}(e:SS X sf io C s t)(d:SSs X sf io C r u):SSs X sf io C (s::r) (t::u):=mK (tZ e d) ub
theorem JI (d:Y){i:Y}{x:Str}{r:M.X}{e:Pos}(g:X.N.Nodup)(k:SE X sf C ea a)(m:i ∉ io:=by decide)(p:sf i=O d:=by rfl)(o:X.N[d]?=O x:=by rfl)(hx:L2.Loc X.env.scope x:=by first|exact Ks rfl|exact Kh rfl)
  (f:Lg ea (O<|.Name x e) pos.line X.env=pure false:=by rfl) (l:X.fn x=JZ\/X.env.scope.names.lookup x=O .local:=by first|exact .inl rfl|exact .inr rfl):SS X sf io C (.Assign [.Name x e] ea pos) (.asg r i a):=cQ (Bq (i:=d) g o hx k f l)<|mP m p
theorem aK {e:U Y}(d:SE X sf C ea a):SS X sf io C (.Return (O ea) pos) (.ret e a):=cQ (Eb d) EI
theorem zIf {g:M.X}{r u:U Q0}{s t:U M.S}(f:SB X sf C ec c)(d:SSs X sf io C r s)(e:SSs X sf io C u t):SS X sf io C (.If ec r u pos) (.ite g c s t):=cQ (Hg f d e) BB
theorem IS {f:M.X}{r:U Q0}{s:U M.S}(e:SB X sf C ec c)(d:SSs X sf io C r s)(hp:MP (J4 X.prog X.w) X.A X.env X.xe:=by exact PassesOwn.never):SS X sf io C (.While ec r [] pos) (.whl f c s):=cQ (uw hp e d) Cw
theorem dS (d:Y){t:Y}{x:Str}{m:Pos}{e:QQ}{r:U Q0}{s:U M.S}{H G:U Y}{k:M.Ik}{f:U M.E}(o:X.N.Nodup)(z:PI X (.Name x m) e<|wI X.K sf C 1 k f)(p:SSs X sf io C r s)(g:∀u∈[t],u ∉ io:=by decide)(l:[t].map sf=[d].map some:=by rfl)(D:X.N[d]?=O x:=by rfl)(hx:L2.Loc X.env.scope x:=by first|exact Ks rfl|exact Kh rfl)
  (v:X.calm=true:=by rfl) (hp:MP (J4 X.prog X.w) X.A X.env X.xe:=by exact PassesOwn.never) (y:X.fn x=JZ\/X.env.scope.names.lookup x=O .local:=by first|exact .inl rfl|exact .inr rfl) (F:∀x,K7 e X.env x=pure x:=by intro _;rfl):SS X sf io C (.For (.Name x m) e r [] pos) (.forS H G k f [t] s):=
 cQ (vL hp v z (dH (i:=d) o D hx y) p F) (ve rfl (by simp) g l)
theorem sC (d l:Y){t u:Y}{x y:Str}{F G pt:Pos}{D:Y}{e:QQ}{r:U Q0}{s:U M.S}{vs ls:U Y}{k:M.Ik}{f:U M.E}(p:X.N.Nodup)(L:PI X (.Tuple [.Name x F,.Name y G] D pt) e<|wI X.K sf C 2 k f)(H:SSs X sf io C r s)(m:∀v∈[t,u],v ∉ io:=by decide)(nd:[t,u].Nodup:=by decide)(o:[t,u].map sf=[d,l].map some:=by rfl)(P:X.N[d]?=O x:=by rfl)(Q:X.N[l]?=O y:=by rfl)
  (hx:L2.Loc X.env.scope x:=by first|exact Ks rfl|exact Kh rfl) (hy:L2.Loc X.env.scope y:=by first|exact Ks rfl|exact Kh rfl)
  (z:X.calm=true:=by rfl) (hp:MP (J4 X.prog X.w) X.A X.env X.xe:=by exact PassesOwn.never) (I:X.fn x=JZ\/X.env.scope.names.lookup x=O .local:=by first|exact .inl rfl|exact .inr rfl) (g:X.fn y=JZ\/X.env.scope.names.lookup y=O .local:=by first|exact .inl rfl|exact .inr rfl) (Z:∀x,K7 e X.env x=pure x:=by intro _;rfl):SS X sf io C (.For (.Tuple [.Name x F,.Name y G] D pt) e r [] pos) (.forS vs ls k f [t,u] s):=
 cQ (vL hp z L (uk (n:=2) z<|eU (dH (i:=d) p P hx I)<|eU (dH (i:=l) p Q hy g) om) H Z) (ve rfl nd m o)
theorem xf (e:Y){i:Y}{x:Str}{xx:M.X}{g f y:Pos}(ha:SE X sf C ea a)(hs:sf i=O e:=by rfl)(hN:X.N[e]?=O x:=by rfl)(hv:Vis X.env.scope x:=by first|exact Ks rfl|exact Kh (Ks rfl)|exact Kh<|Kh rfl)(hd:(x==("__debug__":Str))=false:=by decide)(F:(x==("__classdict__":Str))=false:=by decide)
  (m:Ng (.Name x y) "append" X.env (QY (.Name x y) X.env)=QY (.Name x y) X.env:=by rfl)
  (t:((Kw f<|J5 [ea] X.env).all (λx=>!x.1)&&(backToKw f<|Np [] X.env).all (λx=>x.1.isSome)&&decide ([ea].length+([]:U LZ).length+(if([]:U LZ).isEmpty then 0 else 1)<30))=true:=by rfl)
  (o:(g.endLine==f.line)=true:=by rfl) (u:J5 [ea] X.env=(JY,QY ea X.env)::J5 [] X.env:=by rfl) (l:(Kw f<|J5 [] X.env).any (·.1)=false:=by rfl) (I:Lg (.Call (.Attribute (.Name x y) "append" g) [ea] [] f) J pos.line X.env=pure false:=by rfl):
  SS X sf io C (.Expr (.Call (.Attribute (.Name x y) "append" g) [ea] [] f) pos) (.app xx i a):=
 cQ (pD (wm OQ Qk Qj ja (bN hN hv hd F) (bw ha cR u) m t o u l) I) λD σ H hw=>by obtain⟨p,xs,hj,hp,pv,Z,P,η,w,L,A,ev,k⟩:=Di hs D σ H hw;refine⟨.ref p,hj,.inl ⟨rfl,xs,.inl<|.inl hp⟩,pv,Z,P,η,w,L,A,ev,λv Z' Q z G d r s=>?_⟩;obtain⟨ys,h1,h2,h3⟩:=k v Z' Q z G d r s;exact⟨p,ys,v,rfl,rfl,h1,h2,h3⟩
theorem qa (e:Y){i:Y}{x:Str}{xx:M.X}{g f:Pos}(ha:SE X sf C ea a)(hb:SE X sf C eb b)(hs:sf i=O e:=by rfl)(hN:X.N[e]?=O x:=by rfl)(hv:Vis X.env.scope x:=by first|exact Ks rfl|exact Kh (Ks rfl)|exact Kh<|Kh rfl)(hd:(x==("__debug__":Str))=false:=by decide)(F:(x==("__classdict__":Str))=false:=by decide)
  (y:∀ v,Ln (.Subscript (.Name x g) eb f) X.env v=(do
   let ov <- L1 [v] (QY (.Name x g) X.env);let iv <- L1 [v,ov] (QY eb X.env)
   standAt f
   L1 [v,ov,iv] (setItem ov iv v)
   release [v,ov,iv] []):=by intro _;rfl)
  (h1:Rl [.Subscript (.Name x g) eb f] ea pos.line X.env=pure false:=by rfl) (h2:Rn [.Subscript (.Name x g) eb f] ea X.env=pure none:=by rfl) (h3:(Mh [.Subscript (.Name x g) eb f] X.env).map (·.2)=[Ln (.Subscript (.Name x g) eb f) X.env]:=by rfl):
  SS X sf io C (.Assign [.Subscript (.Name x g) eb f] ea pos) (.setI xx i b a):=
 cQ (r6 ha (BO (bN hN hv hd F) hb tq y) h1 h2 h3) λD σ H hw=>by obtain⟨pv,Z,Fs,η,w,L,A,ev,k⟩:=Ab hs D σ H hw;refine⟨pv,Z,Fs,η,w,L,A,ev,λv Z' H' l G d r s=>?_⟩;obtain⟨o,ho,I,Z2,p,P,w2,Q,A2,u,k2⟩:=k v Z' H' l G d r s;refine⟨o,ho,I,Z2,p,P,w2,Q,A2,u,λz Z3 H3 t G3 B3 r3 s3=>?_⟩;obtain⟨q,xs,n,m,rfl,rfl,g1,g2,g3⟩:=k2 z Z3 H3 t G3 B3 r3 s3;exact⟨q,xs,n,m,rfl,rfl,g1,g2,g3⟩
end
end MR

namespace MR
open PySem PySem.Spec PyProof.Rows L2 L3
section
variable {K:J2}{Z:Fp}{H:Hp}
theorem jY:∀{a:U M.W} {n i:Y} {w:M.W},M.rd (a.map O++Kb n J) i=O w->a[i]?=O w
|[],0,i,w,h=>by simp[M.rd] at h
|[],n+1,0,w,h=>by simp[L8,M.rd] at h
|[],n+1,i+1,w,h=>by
 have:M.rd (([]:U M.W).map O++Kb n J) i=O w:=by simpa[L8,M.rd] using h
 have:=jY this;simp at this
|u::a,n,0,w,h=>by simpa[M.rd] using h
|u::a,n,i+1,w,h=>by
 have:M.rd (a.map O++Kb n J) i=O w:=by simpa[M.rd] using h
 simpa using jY this
theorem sD:∀{l:U M.W} {d:U V} {G:Fp},RepW K Z H l d G->∃c:Fps,(∀i a,c i a->G a)/\(∀i b a,c i a->c b a->i=b)/\∀i w,l[i]?=O w->∃v,d[i]?=O v/\Rep K Z H w.1 w.2 v (c i)
|[],d,G,_=>⟨λ_=>no,λ_ _ h=>h.elim,λ_ _ _ h=>h.elim,λi w h=>by simp at h⟩
| w::l,d,G,⟨x,r,n,z,e,t,y,m,p,q⟩=>by
 obtain⟨c,f,o,s⟩:=sD q;subst e;refine⟨λi=>match i with | 0=>n|i+1=>c i,λi a h=>?_,λi b a g k=>?_,λi u h=>?_⟩
 .cases i with
  |zero=>exact t a h
  |succ i=>exact y a<|f i a h
 .cases i with
  |zero=>
   cases b with
   |zero=>rfl
   |succ b=>exact QL (f b a k)<|m a g
  |succ i=>
   cases b with
   |zero=>exact QL (f i a g)<|m a k
   |succ b=>exact QW (·+1)<|o i b a g k
 .cases i with
  |zero=>simp only[M6,OF] at h;subst h;exact⟨x,rfl,p⟩
  |succ i=>simpa using s i u<|by simpa using h
def slN (n:Y):Y->j Y:=λi=>if i<n then O i else J
theorem fu {o:Cf}{s:L2.St}{g:Fps}{k:M.Env}{G:Fp}{d:U V}(A:At K o s Z H g k G):∀{c:U Y} {bs:U M.W},c.Nodup->(∀i∈c,o.pv i=d[i]?/\i<d.length)->M.backs c k=O bs->RepW K Z H bs (atV c d) (λa=>∃i∈c,g i a)
|[],bs,_,_,h=>by simp only[M.backs,OF] at h;subst h;rfl
| i::c,bs,nd,n,h=>by
 simp only[M.backs] at h;cases e:M.rd k i with
 |none=>rw[e] at h;cases h
 | some w =>
  rw[e] at h;simp only[PQ] at h;cases e2:M.backs c k with
  |none=>rw[e2] at h;cases h
  |some t=>
   rw[e2] at h;simp only[PQ,OF] at h;subst h;obtain⟨v,r,_,hp⟩:=A.env i w.1 w.2 e;have l:=n i Ka;obtain⟨u,m⟩:∃u,d[i]?=O u:=⟨d[i]'l.2,Kj l.2⟩;have:=hp u<|l.1.trans m;subst this;refine⟨v,atV c d,g i,λa=>∃b∈c,g b a,?_,λa h=>⟨i,Ka,h⟩,λa ⟨b,f,h⟩=>⟨b,Ke _ f,h⟩,λa h ⟨b,f,p⟩=>?_,r,fu A (K1.mp nd).2 (λb f=>n b<|Ke _ f) e2⟩
   .rw[atV,LW,m];rfl
   .exact(K1.mp nd).1<|A.gd.dis i b a h p ▸ f
end
section
variable {P:QN}{w:J8}{K:J2}{mg:Str->j B}{base:QS}
theorem vM {Z:Fp}{H:Hp}{s:U M.W}{f:U V}{G:Fp}{N:U Str}{n:Y}{io:U Y}(r:RepW K Z H s f G)(o:Own Z H G)(z:∀a,Z a->H a≠J)(F:f.length<=N.length):
  ∃g,(∀a,tot g a->G a)/\At K ⟨slN N.length,λi=>if i∈io then f[i]? else J⟩ (L2.start N f) Z H g (s.map O++Kb n J) no:=by
 obtain⟨g,k,x,y⟩:=sD r;have p:∀i v,f[i]?=O v->(L2.start N f)[i]?=O (O v):=λi v h=>by have A:=(Le.mp h).1;rw[L2.start,Mr<|by simpa using A,Kz,h];rfl
 refine⟨g,λa ⟨i,h⟩=>k i a h,⟨⟨λa ⟨i,h⟩=>o a<|k i a h,x,z⟩,λi m t e=>?_,λa h=>h.elim,λa h=>h.elim,λi u b d c=>?_,λi b c=>?_⟩⟩
 .obtain ⟨v,l,D⟩:=y i (m,t) (jY e);refine⟨v,D,λb c=>?_,λu d=>?_⟩
  .simp only [slN] at c;split at c
   .cases c;exact p i v l
   .cases c
  .simp only at d;split at d
   .rw[l] at d;cases d;rfl
   .cases d
 .simp only at d;simp only[slN] at c;split at c
  .cases c;split at d
   .exact p i u d
   .cases d
  .cases c
 .simp only [slN] at c;split at c
  .cases c;rename_i h;rw[L2.start,Kk,J6,K4];lia
  .cases c
theorem Fun.okM {x m:Str}{st:Q0}{f:QF}{fd:Lb}{N ps:U Str}{k:Y}{C:M.Call}{d:M.Fn}(F:L2.Fun K x m st f fd)(S:aC N ps<|defScope st)(hps:d.ps=ps.length)(hle:ps.length<=N.length)(nd:d.io.Nodup)(hio:∀i∈d.io,i<ps.length)
  (L:∀ (p:B) (A:Kq) (l:U Env) (s:J0) (H:Hp) (E:XK),Room k (A.deeper (Ll m (defScope st) s.heap.objs.size f p)) ->
   SSs (kb CX0 P w K mg base N m (defScope st) f p A l s H E).nox (slN N.length) d.io C (defBody st) d.body) {g:Y} {C':M.Call} (hC:∀ws,C' g ws=M.runF C d ws):eE P w K mg base CX0 (k+1) f fd ps (spS K C' g d.io):=by
 have len:∀D H Q E,spS K C' g d.io D H Q E->D.length=ps.length:=λD H Q E ⟨Z,ws,G,w,bs,r,_,_,hr,_⟩=>by
  rw[hC] at hr;unfold M.runF at hr;split at hr
  .rename_i h;rw[r.length,h,hps]
  .cases hr
 refine F.ok S len λp A l s H D Q E hr h=>⟨_,L p A l s H E hr,?_⟩;have y:=len D H Q E h;obtain⟨Z,ws,G,w,bs,r,o,z,c,q⟩:=h;rw[hC] at c;have hwl:ws.length=d.ps:=by rw[<- r.length,y,hps]
 rw[M.x_run _ _ _ hwl] at c;obtain⟨Fs,ft,A0⟩:=vM (n:=d.ns) (io:=d.io) r o z (N:=N) (by lia);refine⟨_,Z,Fs,_,⟨λi i' b h h'=>?_,λi h=>QH h⟩,A0,?_⟩
 .simp only [slN] at h h';split at h
  .split at h'
   .cases h;cases h';rfl
   .cases h'
  .cases h
 have hv:∀i∈d.io,(if i∈d.io then D[i]? else J)=D[i]?/\i<D.length:=λi hi=>⟨QG hi,y ▸ hio i hi⟩;cases e:M.evSs C d.body (ws.map O++Kb d.ns J) with
 | nx η =>
  rw[e] at c;intro σ' Z' H' Fs' I t;simp only[M.Fl.out] at c;cases e2:M.backs d.io η with
  |none=>rw[e2] at c;cases c
  |some cs=>rw[e2] at c;cases c;refine q .non Z' H' no _ rfl (fu I nd hv e2) (λ_ h=>h.elim) (λa h=>h.elim (λz=>z.elim) λ⟨i,_,z⟩=>I.gd.own a ⟨i,z⟩) (t.mono ft λa h=>h.elim (λz=>z.elim) λ⟨i,_,z⟩=>⟨i,z⟩)
 | rt u η =>
  rw[e] at c;intro v σ' Z' H' Fs' G' I rp t;simp only[M.Fl.out] at c;cases e2:M.backs d.io η with
  |none=>rw[e2] at c;cases c
  |some cs=>rw[e2] at c;cases c;exact q v Z' H' G' _ rp (fu I nd hv e2) (λa h ⟨i,_,z⟩=>I.dis a h ⟨i,z⟩) (λa h=>h.elim (I.own a) λ⟨i,_,z⟩=>I.gd.own a ⟨i,z⟩)<|t.mono ft λa h=>h.elim .inr λ⟨i,_,z⟩=>.inl ⟨i,z⟩
 |bk η=>rw[e] at c;cases c
 |ex t η=>rw[e] at c;cases c
 |no=>rw[e] at c;cases c
end
end MR

namespace MR
open PySem PySem.Spec PyProof.Rows L2 L3
def Hc (K:J2)(H:Hp):Th->V->Prop
|.tup _,x=>∃a c,x=.ref a/\SqT K H a c
|.lst _,x=>∃a c,x=.ref a/\SqL K H a c
|.non,x=>x=.non
|.bl b,x=>x=.bl b
|.int i,x=>x=.int i
|.str z,x=>x=.str z
theorem u6 {X:Cx}{c:QZ}(A:c∈["tuple","str","bool","int","list"]):bI X (.builtin "isinstance") (λy H Q=>∃x t,y=[x,.ty c]/\Hc X.K H t x/\Q (.bl<|isI c t) H):=by
 intro g s G H y L Q I r h;obtain⟨x,t,rfl,d,q⟩:=h;obtain⟨u,M,rfl,f,w⟩:=n5 r;cases w;have e:Mp X.K (.type t.ty) (.type c)=O (isI c t):=kit_type.trans<|D4 A t;have fin:∀tk,EP X g G Q (.bool (isI c t)) {s with toks:=tk}:=λtk=>⟨.bl<|isI c t,H,I.tok tk,rfl,q⟩;cases t with
 |non=>obtain rfl:x=.non:=d;exact dI I f .non e fin
 |bl b=>obtain rfl:x=.bl b:=d;exact dI I f (.bl b) e fin
 |int i=>obtain rfl:x=.int i:=d;exact dI I f (.int i) e fin
 |str z=>obtain rfl:x=.str z:=d;exact dI I f (.str z) e fin
 |tup D=>obtain⟨a,F,rfl,m⟩:=d;cases f;obtain⟨v,_,p,_⟩:=I.tuple m;obtain⟨o,k,l,_⟩:=p;exact Li Pp I.kIn ⟨o,k,l⟩ e (λz=>nomatch z) fin
 |lst D=>obtain⟨a,F,rfl,m⟩:=d;cases f;obtain⟨v,_,p,_⟩:=I.list m;obtain⟨o,n,k,l,_⟩:=p;exact Li OG I.kIn ⟨o,k,l⟩ e (λz=>nomatch z) fin
noncomputable def thT:M.T->Th
|.non=>.non | .bl b=>.bl b | .int i=>.int i | .str x=>.str x | .tup _=>.tup [] | .lst _=>.lst [] | .scr _=>.lst [] | .dct _ _=>.non | .ins _ _ _=>.non | .gone=>.non
theorem zX {K:J2}{Z:Fp}{H:Hp}{t:M.T}{m:M.Md}{x:V}{G:Fp}(a:t.isH=JY)(r:Rep K Z H m t x G):Hc K H (thT t) x/\(thT t).ty=t.ty:=by
 cases t with
 |non=>exact⟨r,rfl⟩
 |bl _=>exact⟨r,rfl⟩
 |int _=>exact⟨r,rfl⟩
 |str _=>exact⟨r.1,rfl⟩
 |tup _=>obtain⟨p,b,e,q,_⟩:=r;exact⟨⟨p,b,e,q⟩,rfl⟩
 |lst _=>obtain⟨p,b,e,_,q,_⟩:=r;exact⟨⟨p,b,e,.inl<|.inl<|by cases m<;>exact q.2⟩,rfl⟩
 |scr _=>obtain⟨p,e,_,q⟩:=r;exact⟨⟨p,_,e,q.sq⟩,rfl⟩
 |dct _ _=>cases a
 |ins _ _ _=>cases a
 |gone=>cases a
theorem Aw {t:Th}{u:M.T}{c:QZ}(h:t.ty=u.ty):isI c t=M.isOne c u:=by unfold isI M.isOne;rw[h]
section
variable {X:Cx}{sf sg:Y->j Y}{C:M.Call}{pos p2 p3:Pos}{ea eb ec:QQ}{a b c:M.E}{h:QJ}{n:Y}{io:U Y}
theorem zR {Z:Fp}{H f:Hp}{G:Fp}(d:∀a o,H a=O o->f a=O o):Step Z H G Z f G:=by
 have g:∀a,H a≠J->f a≠none:=λa h=>by
  cases e:H a with
  |none=>exact QL e h
  |some o=>rw[d a o e];simp
 exact⟨λa o h _=>d a o h,λ_ h=>h,λ_ h=>.inl h,λ_ h=>.inl h,g,λz a h=>g a<|z a h⟩
theorem uJ {K:J2}{Z:Fp}{H e:Hp}{G:Fp}{w:M.W}{Q:VK}(d:∀a o,H a=O o->e a=O o)(k:Out K Z H G w Q):Out K Z e G w Q:=λv i g f r o t=>k v i g f r o<|(zR d).trans t
theorem sZ {H:Hp}{p:QF}{o:HO}(hp:H p=J):∀a u,H a=O u->upd H p o a=O u:=λa u e=>by
 have:a≠p:=λq=>by subst q;rw[hp] at e;cases e
 rw[ae this];exact e
theorem ck {c:QZ}{k:Str}(F:c∈["tuple","str","bool","int","list"])(hv:L6 k=O (.type c))(N:X.mg "isinstance"=J)(g:X.mg k=J)(D:SE X sf C ea a)(L:Gl X "isinstance":=by rfl)(f:Gl X k:=by rfl)(P:k≠"__name__":=by decide)(I:(k==("__debug__":Str))=false:=by decide)
  (t:J5 [ea,.Name k p2] X.env=(JY,QY ea X.env)::J5 [.Name k p2] X.env:=by rfl) (l:J5 [.Name k p2] X.env=(JY,QY (.Name k p2) X.env)::J5 [] X.env:=by rfl) (i:(Kw pos<|J5 [.Name k p2] X.env).any (·.1)=false:=by rfl):
  SE X sf C (.Call (.Name "isinstance" p3) [ea,.Name k p2] [] pos) (.op (.isI [c]) h [a]):=
 aj (bb (u6 F) L N QC (bw D (bw (FV f g hv P I) cR l) t) (by decide) (by decide) t i) λσ H Q hw=>by obtain⟨pv,Z,v,η,w,p,A,ev,k⟩:=hw;obtain⟨ws,z,e⟩:=dk ev;obtain⟨⟨m,u⟩,η1,us,e1,e2,rfl⟩:=aL z;cases e2;obtain⟨o,e⟩:=ifN<|show(if u.isH=JZ then J else O _)=_ from e;cases e;refine⟨pv,Z,v,η,(m,u),p,A,e1,λx Z' H' y G d r s=>?_⟩;obtain⟨t1,t2⟩:=zX o r;refine⟨x,thT u,rfl,t1,?_⟩;have:=cz<|cy d s k;rw[Aw t2];rw[show([c].any λc=>M.isOne c u)=M.isOne c u by simp] at this;exact this
theorem AO {e:U QQ}{g:Y}{pt p:Pos}(hm:X.mg "enumerate"=J)(f:Gl X "enumerate":=by rfl)(ha:SE X sf C ea a)(d:J5 [ea] X.env=[(JY,QY ea X.env)]:=by rfl):PI X (.Tuple e g pt) (.Call (.Name "enumerate" p) [ea] [] pos) (wI X.K sf C 2 .enm [a]):=pB (zq f hm (slc ha sl0 d) d) Dr
end
end MR

namespace MR
open PySem PySem.Spec PyProof.Rows L2 L3
structure Txt (mg:Str->j B):Prop where
 isin:mg "isinstance"=J
 int:mg "int"=J
 tup:mg "tuple"=J
 list:mg "list"=J
 bool:mg "bool"=J
 sum:mg "sum"=J
 len:mg "len"=J
 all:mg "all"=J
 zip:mg "zip"=J
 range:mg "range"=J
 enum:mg "enumerate"=J
 any:mg "any"=J
 max:mg "max"=J
 min:mg "min"=J
 sorted:mg "sorted"=J
 str:mg "str"=J
 repr:mg "repr"=J
 abs:mg "abs"=J
 dict:mg "dict"=J
 set:mg "set"=J
 rev:mg "reversed"=J
theorem frc {X:Cx}{a:Q2}{b:U<|Str×QF}{y:Str}{e:U Str}{i:Y}{d:U Y}{c:QF}(r:Frees X a b e d)(f:X.N[i]?=O y:=by rfl)(g:Vis X.env.scope y:=by first|exact Ks rfl|exact Kh (Ks rfl)|exact Kh<|Kh rfl)(h:X.env.kindOf y=O .cell\/X.env.kindOf y=O .free:=by first|exact Ks rfl|exact Kh rfl)
  (k:X.env.cells.lookup y=O c:=by rfl) (l:b.lookup y=O c:=by rfl) (m:(Mb a X.env).names.lookup y=O .cell\/(Mb a X.env).names.lookup y=O .free:=by first|exact Ks rfl|exact Kh rfl):Frees X a b (y::e) (i::d):=.cons f g h k l m r
theorem kh {X:Cx}{y:Str}{c:QF}{a:U<|Str×QF}(r:Clo X a)(h:X.env.cells.lookup y=O c:=by rfl):Clo X ((y,c)::a):=.cons h r
section
variable {X:Cx}{sf sg:Y->j Y}{C:M.Call}{pos p2 p3:Pos}{ea eb ec:QQ}{a b c:M.E}{h:QJ}{n:Y}{io:U Y}
section
variable {elt iter cnd:QQ}{x y:Str}{px py pt:Pos}{kt:Y}{scope:Q2}{tg:U Y}{k:M.Ik}{src:U M.E}{e cd:M.E}
theorem zC1 (d:Y)(P:U Y)(L:U Y)(l:U<|Str×QF)(I:U Str){z:Str}{Q f:Pos}{xx:M.X}{i t:Y}(hi:PI X (.Name x px) iter<|wI X.K sf C 1 k src)(he:∀m s H o,SE (ak X ([x]++I) scope l m s H o) (inF [t] P) C elt e)
  (S:aB [x] I scope) (r:Clo X l) (fr:Frees X scope l I L) (hN:X.N.Nodup) (A:i ∉ io:=by decide) (F:sf i=O d:=by rfl) (hj:X.N[d]?=O z:=by rfl) (hz:L2.Loc X.env.scope z:=by first|exact Ks rfl|exact Kh rfl)
  (G:Lg (.ListComp elt [⟨(.Name x px),iter,[],0⟩] scope pos) (O<|.Name z Q) f.line X.env=pure true:=by rfl) (hc:X.calm=true:=by rfl) (hl:P.map sf=L.map some:=by rfl)
  (g:Lk scope X.env=pure l:=by with_unfolding_all rfl) (w:(scope.names.all λp=>p.2 != .free || (l.lookup p.1).isSome)=true:=by rfl)
  (hs:∀v,K7 iter X.env v=pure v:=by intro _;rfl) (u:X.fn z=JZ\/X.env.scope.names.lookup z=O .local:=by first|exact .inl rfl|exact .inr rfl):SS X sf io C (.Assign [.Name z Q] (.ListComp elt [⟨(.Name x px),iter,[],0⟩] scope pos) f) (.asg xx i<|.comp h k src [t] J e):=
 cQ (pY (pre:=[x]) hN hj hz G hc hi (sv S) (λm s H o=>he m s H o) g S r w fr hs u) λD Z H hw=>kP rfl (by simp) (dB hl) Z H _ (mP A F D Z H hw)
theorem Iw (d:Y)(P:U Y)(Q:U Y)(o:U<|Str×QF)(r:U Str){z:Str}{Z f:Pos}{xx:M.X}{i t:Y}(hi:PI X (.Name x px) iter<|wI X.K sf C 1 k src)(u:∀g s H l,SB (ak X ([x]++r) scope o g s H l) (inF [t] P) C cnd cd)(he:∀g s H l,SE (ak X ([x]++r) scope o g s H l) (inF [t] P) C elt e)
  (S:aB [x] r scope) (w:Clo X o) (fr:Frees X scope o r Q) (hN:X.N.Nodup) (G:i ∉ io:=by decide) (I:sf i=O d:=by rfl) (hj:X.N[d]?=O z:=by rfl) (hz:L2.Loc X.env.scope z:=by first|exact Ks rfl|exact Kh rfl)
  (L:Lg (.ListComp elt [⟨(.Name x px),iter,[cnd],0⟩] scope pos) (O<|.Name z Z) f.line X.env=pure true:=by rfl) (hc:X.calm=true:=by rfl) (hl:P.map sf=Q.map some:=by rfl)
  (m:Lk scope X.env=pure o:=by with_unfolding_all rfl) (F:(scope.names.all λp=>p.2 != .free || (o.lookup p.1).isSome)=true:=by rfl)
  (hs:∀v,K7 iter X.env v=pure v:=by intro _;rfl) (A:X.fn z=JZ\/X.env.scope.names.lookup z=O .local:=by first|exact .inl rfl|exact .inr rfl):SS X sf io C (.Assign [.Name z Z] (.ListComp elt [⟨(.Name x px),iter,[cnd],0⟩] scope pos) f) (.asg xx i<|.comp h k src [t] (O cd) e):=
 cQ (pK (pre:=[x]) hN hj hz L hc hi (sv S) (λg s H l=>he g s H l) (λg s H l=>u g s H l) m S w F fr hs A) λD σ H hw=>lh rfl (by simp) (dB hl) σ H _ (mP G I D σ H hw)
end
end
end MR

namespace MR
open PySem PySem.Spec PyProof.Rows L2 L3
section
variable {P:QN}{w:J8}{K:J2}{mg:Str->j B}{base:QS}
theorem mj {C:M.Call}{g:Y}{c:U Y}{d:U V}{H:Hp}{Q:VK}{E:XK}(b:∀a,C g a=.no)(h:spS K C g c d H Q E):QX:=by obtain⟨Z,a,G,w,bs,_,_,_,e,_⟩:=h;rw[b] at e;cases e
theorem fn0 {f:QF}{b:Lb}{d:U Str}{k g:Y}{c:U Y}{C:M.Call}(a:∀e,C g e=.no):eE P w K mg base CX0 k f b d (spS K C g c):=
 ⟨λ_ _ _ _ h=>(mj a h).elim,λ_ _ _ _ _ _ _ _ _ _ _ _ _ h=>(mj a h).elim⟩
theorem mM {Z:Fp}{H:Hp}{a:QF}{b:U Int}(c:uq H)(e:b.length<=63)(h:SqL K H a<|b.map V.int):Rep K Z H .d (.scr b) (.ref a) no:=by
 refine⟨a,rfl,Ky e<|by decide,?_⟩;rcases h with(z|⟨o,z⟩)|z
 .rcases c a with y|⟨o,xs,y⟩<;>rw[y] at z<;>cases z
 .exact .inl ⟨o,z⟩
 .exact .inr (.inr z)
theorem C0 {H:Hp}{a:QF}{b:U Int}{C:M.Call}{c:Y}(hp:∃m bs,C c [(.d,.scr b)]=.ok ((m,.bl JZ),bs))(g:b.length<=63)(f:uq H)(h:SqL K H a<|b.map V.int):spS K C c [] [.ref a] H (λv _=>v=.bl JZ) λ_ _ _=>QX:=by obtain⟨m,bs,e⟩:=hp;exact⟨no,[(.d,.scr b)],no,(m,.bl JZ),bs,RepW.one<|mM f g h,bX,λ_ z=>z.elim,e,λv n l i k r _ _ _ _=>r⟩
end
end MR

namespace MR
open PySem PySem.Spec PyProof.Rows L2 L3
structure SBs (as:U QF)(H H':Hp):Prop where
 keep:∀b u,b ∉ as->H b=O u->H' b=O u
 al:∀b,H b≠J->H' b≠J
instance {as:U QF} {H H':Hp}:CoeFun (SBs as H H') (λ_=>∀b u,b ∉ as->H b=O u->H' b=O u):=⟨λs=>s.keep⟩
end MR

namespace MR
open PySem PySem.Spec PyProof.Rows L2 L3
section
variable {X:Cx}{sf sg:Y->j Y}{io:U Y}{C:M.Call}{pos p2:Pos}{ea eb ec:QQ}{a b c:M.E}{h:QJ}{n:Y}
theorem Ad {rest:U QQ}{o l:TE}(p:PE X ea o)(r:PE X (.BoolOp .And (eb::rest) pos) l):PE X (.BoolOp .And (ea::eb::rest) pos) (λe H Q=>o e H λx f=>∃k,vf X.K x f k/\if k=JZ then l e f Q else Q x f):=by
 intro d s e H Q I h;refine BoolOp_and<|thn (p d s e H _ I h) λv u ⟨x,f,I1,m,t⟩=>?_;refine thn (nQ d u e f x v (λk g=>if k=JZ then l e g Q else Q x g) I1 m t) λk w ⟨g,I2,i⟩=>?_;cases k with
 |true=>exact r d w e g Q I2<|by rw[QG rfl] at i;exact i
 |false=>exact⟨x,g,I2,m,by rw[QH Kv] at i;exact i⟩
theorem vA1 (d:SE X sf C ea a):SE X sf C (.BoolOp .And [ea] pos) a:=Ea d
theorem iE {rest:U QQ}(m:SE X sf C ea a)(o:SE X sf C (.BoolOp .And (eb::rest) pos) b):SE X sf C (.BoolOp .And (ea::eb::rest) pos) (.and a b):=aj (Ad m o) λx H Q h=>by obtain⟨p,Z,g,u,w,f,A,ev,k⟩:=BG x H Q h;exact⟨p,Z,g,u,w,f,A,ev,λv l i e G d r s=>let ⟨c,t,q⟩:=k v l i e G d r s;⟨c,jH t,q⟩⟩
theorem sBW (h:SE X sf C ea a):SE X sf C ea a:=h
theorem pP {K:J2}:Loc K 1 .tuple h λu H Q=>∃p d,u=[.ref p]/\((SqL K H p d/\∀l,H l=J->Q (.ref l) (upd H l<|.tup d))\/(SqT K H p d/\Q (.ref p) H)):=by
 intro t w u Z H G Q v e r s A k;obtain⟨⟨m,a⟩,rfl⟩:∃a,t=[a]:=by match t,v with|[a],_=>exact⟨a,rfl⟩
 obtain⟨x,rfl,i⟩:=a0 rfl r;cases a with
 |lst y=>obtain⟨p,d,rfl,g,o,q⟩:=bg i;cases e;exact⟨p,d,rfl,.inl ⟨SqL.of g,λl f=>oV (m:=m.kid.up) (G':=G) s (λ_ z=>z) o (by rw[fx];exact q.zmono λ_ z=>.inl z) k f⟩⟩
 |tup y=>obtain⟨p,d,rfl,g,o,q⟩:=cX i;cases e;exact⟨p,d,rfl,.inr ⟨g,eQ s k i⟩⟩
 |_=>cases e
theorem tX {p:Pos}(hm:X.mg "tuple"=J)(f:Gl X "tuple":=by rfl)(ha:SE X sf C ea a)(e:J5 [ea] X.env=(JY,QY ea X.env)::J5 [] X.env:=by rfl)(d:(Kw pos<|J5 [] X.env).any (·.1)=false:=by rfl):SE X sf C (.Call (.Name "tuple" p) [ea] [] pos) (.op .tuple h [a]):=
 aj (cP iF f hm NQ (slc ha sl0 e) (by decide) (by decide) e d) (cf pP rfl)
end
end MR


namespace MR
open PySem PySem.Spec PyProof.Rows L2 L3
section
variable {X:Cx}{sf sg:Y->j Y}{io:U Y}{C:M.Call}{pos p2:Pos}{ea eb ec:QQ}{a b c:M.E}{h:QJ}{n:Y}
theorem qf {K:J2}{o p:M.Op}{g g':Int->Int->QJ}(inv:∀{u v w:M.W},M.oSem o JY [u,v]=O w->∃m n i e,u=(m,.int i)/\v=(n,.int e)/\w=(.d,.bl<|g i e))(D:∀{u v w:M.W},M.oSem p JY [u,v]=O w->∃m n i e,u=(m,.int i)/\v=(n,.int e)/\w=(.d,.bl<|g' i e))
  (σ:L2.St) (H:Hp) (Q:VK) (hw:wE K sf C (.chain o p a b c) σ H Q):uA (rI0 λi e=>.bl<|g i e) (rI0 λi e=>.bl<|g' i e) (wE K sf C a) (wE K sf C b) (wE K sf C c) σ H Q:=by
 obtain⟨pv,Z,Fs,η,w,η',A,ev,k⟩:=hw;obtain⟨⟨x,η1⟩,h1,h2⟩:=aa<|show(M.evE C a η).bind (M.kC1 o p (M.evE C b)<|M.evE C c)=_ from ev;obtain⟨⟨y,r⟩,h3,h4⟩:=aa<|show(M.evE C b η1).bind (M.kC2 o p (M.evE C c) x)=_ from h2;obtain⟨⟨kk,η3⟩,h5,h6⟩:=aa<|show(M.ret r<|M.oSem o JY [x,y]).bind (λk=>M.onB k.1.2 (M.then' (M.evE C c)<|M.kC3 p y) (M.okW (.d,.bl JY)) k.2)=_ from h4;obtain⟨k',e5,e5'⟩:=ay h5;cases e5';obtain⟨m1,m2,i,e,rfl,rfl,rfl⟩:=inv e5;have dr:∀{Z:Fp} {H:Hp} {F Z1:Fp} {P:Hp} {l:Fps} {G1:Fp},Step Z H F Z1 P (λa=>tot l a\/G1 a)->Step Z H F Z1 P (tot l):=λs=>s.mono (λ_ z=>z) λ_ z=>.inl z;refine iB A h1 λvx Z1 P l G1 A1 r1 _ s1 _=>?_;have I:=A1.bare;refine iB I h3 λvy Z2 H2 L G2 A2 r2 _ s2 _=>⟨i,e,r1,r2,g i e,rfl,?_⟩;have t:=A2.bare;have G:=(dr s1).trans<|dr s2;have f:M.onB (.bl (g i e)) (M.then' (M.evE C c) (M.kC3 p (m2,.int e))) (M.okW (.d,.bl JY)) r=.ok (w,η'):=h6;cases hg:g i e with
 |true=>rw[hg] at f;rw[QG rfl];obtain⟨⟨z,η4⟩,h7,h8⟩:=aa<|show(M.evE C c r).bind (M.kC3 p (m2,.int e))=_ from f;obtain⟨z',e8,e8'⟩:=ay<|show M.ret η4 (M.oSem p JY [(m2,.int e),z])=_ from h8;cases e8';obtain⟨n1,n2,i',j',e9,rfl,rfl⟩:=D e8;cases e9;refine iB t h7 λvz Z3 H3 N G3 A3 r3 _ s3 _=>⟨e,j',r2,r3,?_⟩;exact k _ Z3 H3 N no A3.bare rfl ((G.trans<|dr s3).mono (λ_ z=>z) λ_ z=>z.elim id λq=>q.elim)
 |false=>rw[hg] at f;rw[QH Kv];cases f;exact k _ Z2 H2 L no t rfl (G.mono (λ_ z=>z) λ_ z=>z.elim id λq=>q.elim)
theorem yk (d:SE X sf C ea a)(e:SE X sf C eb b)(f:SE X sf C ec c)(g:lastMarks [.LtE,.Lt] [eb,ec]=false:=by with_unfolding_all rfl):SE X sf C (.Compare ea [.LtE,.Lt] [eb,ec] pos) (.chain .le .lt a b c):=
 aj (rW tF sj d e f g) (qf nU mN)
theorem vQ:OpR X (Lh .IsNot) (λx y H Q=>∃a b,x=.bl a/\y=.bl b/\Q (.bl<|!(a==b)) H):=by intro d s f H x y v u Q I rx e h;obtain⟨a,b,rfl,rfl,q⟩:=h;cases rx;cases e;cases a<;>cases b<;>exact J7<|C1 I q rfl
theorem kz {u v w:M.W}(e:M.oSem .isnB h [u,v]=O w):∃m n a b,u=(m,.bl a)/\v=(n,.bl b)/\w=(.d,.bl<|!(a==b)):=by obtain⟨m,a⟩:=u;obtain⟨n,b⟩:=v;cases a<;>first|(cases e;done)|(cases b<;>first|(cases e;done)|(cases e;exact⟨_,_,_,_,rfl,rfl,rfl⟩))
theorem vw {K:J2}:Loc K 2 .isnB h λf H Q=>∀x y,f=[x,y]->∃a b,x=.bl a/\y=.bl b/\Q (.bl<|!(a==b)) H:=by intro A w f Z H G Q p e r s D k x y hx;subst hx;obtain⟨u,v,rfl⟩:=dU r.length.symm;obtain⟨l,o,t,z,d,g,i⟩:=bY r;obtain⟨m,n,a,b,rfl,rfl,rfl⟩:=kz e;exact⟨a,b,g,i,cz k⟩
theorem DQ (d:SE X sf C ea a)(f:SE X sf C eb b):SB X sf C (.Compare ea [.IsNot] [eb] pos) (.op .isnB h [a,b]):=cV vQ d f (bB _) (aI vw) λu v w e=>by obtain⟨_,_,_,_,_,_,rfl⟩:=kz e;exact⟨_,rfl⟩
theorem HL {e:QQ}(d:SE X sf C ea a):PI X e ea (wI X.K sf C 2 .sq2 [a]):=pB (jq d) DN
theorem GL (d l:Y){t u:Y}{x y:Str}{p r pt:Pos}{o:Y}{L:M.X}(s:X.N.Nodup)(v:SE X sf C ea a)(g:t≠u:=by decide)(A:t ∉ io:=by decide)(f:u ∉ io:=by decide)(G:sf t=O d:=by rfl)(k:sf u=O l:=by rfl)(D:X.N[d]?=O x:=by rfl)(F:X.N[l]?=O y:=by rfl)
  (hx:L2.Loc X.env.scope x:=by first|exact Ks rfl|exact Kh rfl) (I:L2.Loc X.env.scope y:=by first|exact Ks rfl|exact Kh rfl) (w:X.calm=true:=by rfl)
  (z:X.fn x=JZ\/X.env.scope.names.lookup x=O .local:=by first|exact .inl rfl|exact .inr rfl) (e:X.fn y=JZ\/X.env.scope.names.lookup y=O .local:=by first|exact .inl rfl|exact .inr rfl)
  (m:Rl [.Tuple [.Name x p,.Name y r] o pt] ea pos.line X.env=pure false:=by rfl) (H:Rn [.Tuple [.Name x p,.Name y r] o pt] ea X.env=pure none:=by rfl):
  SS X sf io C (.Assign [.Tuple [.Name x p,.Name y r] o pt] ea pos) (.asgT L [t,u] a):=
 cQ (r6 v (uk (n:=2) w<|eU (dH (i:=d) s D hx z)<|eU (dH (i:=l) s F I e) om) m H) (xp g A f G k)
theorem zE {u w:M.W}(e:M.oSem .len JY [u]=O w):∃n:Y,w=(.d,.int n):=by obtain⟨m,a⟩:=u;cases a<;>first|(cases e;exact⟨_,rfl⟩)|(cases e;done)
theorem Ic (e:Y){i:Y}{x:Str}{p y:Pos}(hm:X.mg "len"=J)(L:Gl X "len":=by rfl)(hs:sf i=O e:=by rfl)(G:X.N[e]?=O x:=by rfl)(hv:Vis X.env.scope x:=by first|exact Ks rfl|exact Kh (Ks rfl)|exact Kh<|Kh rfl)(I:(x==("__debug__":Str))=false:=by decide)
  (s:(x==("__classdict__":Str))=false:=by decide) (g:J5 [.Name x y] X.env=(JY,QY (.Name x y) X.env)::J5 [] X.env:=by rfl) (t:(Kw pos<|J5 [] X.env).any (·.1)=false:=by rfl):SE X sf C (.Call (.Name "len" p) [.Name x y] [] pos) (.lenV i):=
 aj (bb lZ L hm Qa (bw (bN G hv I s) cR g) (by decide) (by decide) g t) λσ H Q hw=>by
  obtain⟨pv,Z,F,D,w,η',A,ev,k⟩:=hw;obtain⟨w',e1,e2⟩:=ay<|show M.ret D ((M.rd D i).bind λw=>M.oSem .len JY [w])=_ from ev;cases e2;cases m:M.rd D i with
  |none=>rw[m] at e1;cases e1
  |some l=>rw[m] at e1;have f:M.oSem .len JY [l]=O w:=e1;obtain⟨n,rfl⟩:=zE f;obtain⟨v,r,u⟩:=A.env i l.1 l.2 m;obtain⟨x',n',hx,P,hq⟩:=kA (K:=X.K) (h:=JY) [l] (.d,.int n) [v] Z H (F i) (λv' _=>v'=.int n) rfl f (RepW.one r) (λa o=>A.gd.own a ⟨i,o⟩) A.gd.zal (λ_ _ _ _ r _ _=>r);cases hx;cases hq;exact⟨v,u.1 e hs,v,n,rfl,P,k _ Z H F no A rfl ((Step.refl _ _ _).mono (λ_ z=>z) λa o=>o.elim id λz=>z.elim)⟩
end
end MR

namespace MR
open PySem PySem.Spec PyProof.Rows L2 L3
section
variable {X:Cx}{sf sg:Y->j Y}{C:M.Call}{pos p2 p3:Pos}{ea eb ec:QQ}{a b c:M.E}{h:QJ}{n:Y}{io:U Y}
def A6 (K:J2)(H:Hp):U Y->V->V->Prop
|[],v,u=>u=v
|d::p,v,u=>∃a e x,v=.ref a/\(SqL K H a e\/SqT K H a e)/\e[d]?=O x/\A6 K H p x u
def wP (K:J2)(sf:Y->j Y)(i:Y)(p:U Y):TE:=λe H Q=>∃d v u,sf i=O d/\e[d]?=O (O v)/\A6 K H p v u/\Q u H
abbrev SP (X:Cx)(sf:Y->j Y)(d:QQ)(i:Y)(p:U Y):Prop:=PE X d<|wP X.K sf i p
noncomputable def Hv (d:Fps)(i:Y)(G:Fp):Fps:=λl a=>(l=i/\G a)\/(l≠i/\d l a)
end
end MR

namespace MR
open PySem PySem.Spec PyProof.Rows L2 L3
theorem fsc {N P:U Str}{a:Q2}(b:a.kind=.function:=by rfl)(c:a.isCoroutine=false:=by rfl)(d:a.isGenerator=false:=by rfl)(e:N.Nodup:=by decide +kernel)(f:N.take P.length=P:=by rfl)(g:∀x∈P,a.names.lookup x=O .local\/a.names.lookup x=O .cell:=by decide +kernel)(h:∀y∈a.names,y.2≠.free:=by decide +kernel):aC N P a:=⟨b,c,d,e,f,g,h⟩
theorem csc {pre b:U Str}{a:Q2}(c:a.kind=.function:=by rfl)(d:∀y∈a.names,y.2≠.cell:=by decide +kernel)(e:∀y∈a.names,y.2=.local->a.names.lookup y.1=O .local:=by decide +kernel)(f:∀x∈pre,a.names.lookup x=O .local:=by decide +kernel)(g:(pre++b).Nodup:=by decide +kernel):aB pre b a:=⟨c,d,e,f,g⟩
section
variable {P:QN}{w:J8}{K:J2}{mg:Str->j B}{base:QS}{x:Str}{st:Q0}{ps N:U Str}{n g:Y}{io:U Y}{C C':M.Call}{d:B}{t:M.T}
structure Df (K:J2)(mg:Str->j B)(x:Str)(st:Q0)(ps:U Str):Prop where
 ex:∃f fd,Fun K x x st f fd/\Binds K fd ps []/\mg x=O (.ref f)
theorem Df.ok (e:Df K mg x st ps)(h:∀f a,Fun K x x st f a->eE P w K mg base CX0 n f a ps (spS K C g io)):af P w K mg base n C x g io:=by obtain⟨f,a,F,b,m⟩:=e.ex;exact⟨f,a,ps,h f a F,m,F.kp,b⟩
theorem Df.z (e:Df K mg x st ps)(a:∀b,C g b=.no:=by intro _;rfl):af P w K mg base n C x g io:=e.ok λ_ _ _=>fn0 a
theorem Df.s (a:M.Fn)(e:Df K mg x st ps)(S:aC N ps<|defScope st)
  (r:∀{f:QF} {c:B} {A:Kq} {b:U Env} {s:J0} {H:Hp} {E:XK},Room n (A.deeper<|Ll x (defScope st) s.heap.objs.size f c)->SSs (kb CX0 P w K mg base N x (defScope st) f c A b s H E).nox (slN N.length) a.io C (defBody st) a.body)
  (p:∀o,C' g o=M.runF C a o:=by intro _;rfl) (m:a.ps=ps.length:=by rfl) (l:ps.length<=N.length:=by decide) (nd:a.io.Nodup:=by decide) (k:∀i∈a.io,i<ps.length:=by decide):af P w K mg base (n+1) C' x g a.io:=
 e.ok λ_ _ F=>Fun.okM F S m l nd k (λ_ _ _ _ _ _ h=>r h) p
def Raw (K:J2)(x:Str)(st:Q0)(c:B):Prop:=∃f h i l kV e k an a b,Oa K KC x=O (O<|.ref f)/\K.lookup f=O ⟨h,i,.func<|LQ x x (defArgs st) (defBody st) (defScope st) c kV e k an a b,l⟩/\Nw K a x=JZ/\MK K (.ref f)=JZ
theorem bM {h:QS}(X:K.In h)(G:h.Ns KC mg)(r:Raw K x st .none)(p:∀(kV b i:B) (an:j QF) (a e:B) (c:U B),c.length=ps.length->bindArgs (LQ x x (defArgs st) (defBody st) (defScope st) .none kV b i an a e) ⟨c,[]⟩=pure (ps.zip c)):Df K mg x st ps:=by obtain⟨f,v,y,z,kV,u,i,an,s,e,k,l,m,o⟩:=r;have F:=wq (st:=st) l m o;exact⟨f,_,F,F.binds p,Pc X G k⟩
def DE (K:J2):U Str->Prop
|[]=>Ra
|x::r=>Oa K KC x=O J/\DE K r
theorem CV {h:QS}(X:K.In h)(G:h.Ns KC mg)(r:DE K ["isinstance","int","tuple","list","bool","sum","len","all","zip","range","enumerate","any","max","min","sorted","str","repr","abs","dict","set","reversed"]):Txt mg:=by obtain⟨v,y,A,D,F,H,I,L,M,a,b,c,e,f,i,k,l,o,p,s,u,_⟩:=r;have m:=λ{x:Str} (z:Oa K KC x=O J)=>PySem.W.mg_none_of X G z;exact⟨m v,m y,m A,m D,m F,m H,m I,m L,m M,m a,m b,m c,m e,m f,m i,m k,m l,m o,m p,m s,m u⟩
end
end MR

namespace MR
open PySem PySem.Spec PyProof.Rows L2 L3
section
variable {X:Cx}{sf sg:Y->j Y}{C:M.Call}{pos p p2 p3:Pos}{ea eb ec:QQ}{a b c:M.E}{h:QJ}{n:Y}{io:U Y}{K:J2}
theorem ze:Loc K 1 .any h λi H Q=>∃(a:QF) (bs:U QJ),i=[.ref a]/\SqL K H a (bs.map V.bl)/\Q (.bl<|bs.any id) H:=by
 intro u w i Z H G Q s e r y z k
 match u,s with
 | [(m,a)],_ =>
  obtain⟨x,rfl,t⟩:=a0 rfl r;cases a with
  | lst o =>
   obtain⟨a,i,hx,l,v,p⟩:=bg t;have f:(M.boolsOf o).map (λg=>((.d,.bl (g.any id)):M.W))=O w:=e;cases e1:M.boolsOf o with
   |none=>rw[e1] at f;cases f
   |some g=>rw[e1] at f;cases f;rw[i6 e1 p] at l;exact⟨a,g,by rw[hx],.inl<|.inl l,cz k⟩
  |_=>cases e
theorem JR (f:X.calm=true:=by rfl)(hm:X.mg "any"=J)(g:Gl X "any":=by rfl)(ha:SE X sf C ea a)(e:J5 [ea] X.env=(JY,QY ea X.env)::J5 [] X.env:=by rfl)(d:(Kw pos<|J5 [] X.env).any (·.1)=false:=by rfl):SE X sf C (.Call (.Name "any" p) [ea] [] pos) (.op .any h [a]):=
 aj (bb (qE f) g hm (by rfl) (slc ha sl0 e) (by decide) (by decide) e d) (cf ze rfl)
end
theorem pX {X:Cx}:bI X (.type "range") (λc H Q=>∃a,c=[.int a]/\∀p,H p=J->Q (.ref p) (upd H p<|.rng 0 a)):=by intro b s f H c d Q I r h;obtain⟨a,rfl,q⟩:=h;obtain⟨u,rfl,t,rfl⟩:=cc r;refine call_range_1 ?_;exact⟨.ref s.heap.objs.size,upd H s.heap.objs.size<|.rng 0 a,I.laid (t':=s.toks+2) (λ_ _ e=>Heap.get?_push_of_some _ e) (J9 _) ⟨_,_,_,Heap.get?_push_size _ rfl⟩,rfl,q _ I.fresh⟩
section
variable {X:Cx}{sf sg:Y->j Y}{C:M.Call}{pos p p2 p3:Pos}{ea eb ec:QQ}{a b c:M.E}{h:QJ}{io:U Y}
theorem IF (hm:X.mg "list"=J)(D:X.mg "range"=J)(g:SE X sf C ea a)(i:X.calm=true:=by rfl)(hg:Gl X "list":=by rfl)(x:Gl X "range":=by rfl)
  (P:J5 [.Call (.Name "range" p3) [ea] [] p2] X.env=(JY,QY (.Call (.Name "range" p3) [ea] [] p2) X.env)::J5 [] X.env:=by rfl) (F:(Kw pos<|J5 [] X.env).any (·.1)=false:=by rfl)
  (r:J5 [ea] X.env=(JY,QY ea X.env)::J5 [] X.env:=by rfl) (n:(Kw p2<|J5 [] X.env).any (·.1)=false:=by rfl) {p4:Pos}:
  SE X sf C (.Call (.Name "list" p4) [.Call (.Name "range" p3) [ea] [] p2] [] pos) (.op .rng h [.cst<|.int 0,a]):=
 aj (cP (mz i) hg hm Ma (bw (cP pX x D QA (bw g cR r) (by decide) (by decide) r n) cR P) (by decide) (by decide) P F) fun σ H Q hw=>by
  obtain⟨pv,Z,Fs,η,w,I,A,ev,k⟩:=hw;obtain⟨ws,h1,N⟩:=dk ev;obtain⟨⟨m,u⟩,η1,us,e1,e2,rfl⟩:=aL h1;obtain⟨⟨m',u'⟩,η2,us,e3,e4,rfl⟩:=aL e2;cases e4;cases e1;cases u' with
  | int f =>
   have v:(if(decide ((0:Int).natAbs<4611686018427387904)&&decide (f.natAbs<4611686018427387904)&&M.fits (f-0).toNat)=JZ then O ((.d,.lst ((Kc (f-0).toNat).map λ(k:Y)=>M.T.int (0+k))):M.W) else J)=O w:=N;split at v
   .rename_i i;rw[Kt,Kt,QM,QM] at i;cases v;refine⟨pv,Z,Fs,η,(m',.int f),I,A,e3,λy L t Fs2 G2 s r2 s2=>?_⟩;cases r2;refine⟨f,rfl,λp hp=>⟨p,0,f,rfl,au,⟨by lia,by lia,by lia,by lia⟩,br (cx i.2),λl hl=>?_⟩⟩;have G:=sZ (o:=.rng 0 f) hp;have ow:Own L (upd t p (.rng 0 f)) G2:=λa g=>by obtain⟨z1,ys,z2⟩:=s.own a g;exact⟨z1,ys,G a _ z2⟩
    have za:∀a,L a->upd t p (.rng 0 f) a≠none:=λa g q=>by
     cases e:t a with
     |none=>exact s.gd.zal a g e
     |some o=>rw[G a o e] at q;cases q
    have kk:=uJ G<|cy s s2 k;refine bh (m:=.d) (G':=no) ow za (λ_ z=>z.elim) ?_ ?_ (by simp) kk hl
    .rw[J6,KY];exact cx i.2
    .have q1:((Kc (f-0).toNat).map fun (k:Y)=>M.T.int (0+(k:Int)))=((Kc (f-0).toNat).map fun (k:Y)=>0+(k:Int)).map M.T.int:=by rw [KU]; rfl
     have q2:((Kc (f-0).toNat).map λ(k:Y)=>V.int (0+(k:Int)))=((Kc (f-0).toNat).map λ(k:Y)=>0+(k:Int)).map V.int:=by rw[KU];rfl
     rw[q1,q2];exact fA _
   .cases v
  |_=>cases N
end
section
variable {X:Cx}{sf sg:Y->j Y}{C:M.Call}{pos p p2 p3:Pos}{ea eb ec:QQ}{a b c:M.E}{h:QJ}{io:U Y}{K:J2}
theorem Et {x y:Int}(h:y.natAbs<18446744073709551616):Builtin.divisionGoesByPylong x y=false:=by
 refine PyProof.noPylong_of_log2 ?_;by_cases d:y.natAbs=0
 .rw[d];decide +kernel
 .have e:y.natAbs.log2<64:=(Nat.log2_lt d).mpr h;lia
theorem vC:OpR X (K6 .FloorDiv) (rI (λ_ d=>d≠0/\d.natAbs<18446744073709551616) λi d=>.int<|i.fdiv d):=opI λ_ _ _ _ _ _ _ e q=>floordiv_int e.1 q<|.inl<|Et e.2
theorem qO:Loc K 2 .fdivN h λo H Q=>∀x y,o=[x,y]->rI (λ_ f=>f≠0/\f.natAbs<18446744073709551616) (λi f=>.int<|i.fdiv f) x y H Q:=by
 intro I w o Z H G Q z e r A L k x y hx;subst hx;obtain⟨⟨m,a⟩,⟨n,b⟩,rfl⟩:=dU r.length.symm;obtain⟨u,v,D,F,d,s,t⟩:=bY r;cases a<;>first|(cases e;done)|(cases b<;>try (cases e;done))
 rename_i i f;have g:(if((f != 0)&&decide (f.natAbs<18446744073709551616))=JZ then O ((.d,.int (i.fdiv f)):M.W) else J)=O w:=e;split at g
 .rename_i l;rw[Kt,QM,bne_iff_ne] at l;cases g;exact⟨i,f,s,t,l,aS k⟩
 .cases g
theorem ur:Loc K 2 .modN h λo H Q=>∀x y,o=[x,y]->rI (λ_ f=>f≠0) (λi f=>.int<|i.fmod f) x y H Q:=by
 intro I w o Z H G Q z e r A L k x y hx;subst hx;obtain⟨⟨m,a⟩,⟨n,b⟩,rfl⟩:=dU r.length.symm;obtain⟨u,v,D,F,d,s,t⟩:=bY r;cases a<;>first|(cases e;done)|(cases b<;>try (cases e;done))
 rename_i i f;have g:(if(f != 0)=JZ then O ((.d,.int (i.fmod f)):M.W) else J)=O w:=e;split at g
 .rename_i l;rw[bne_iff_ne] at l;cases g;exact⟨i,f,s,t,l,aS k⟩
 .cases g
theorem vG (d:SE X sf C ea a)(e:SE X sf C eb b):SE X sf C (.BinOp ea .FloorDiv eb pos) (.op .fdivN h [a,b]):=aj (fG vC d e)<|aI qO
theorem fI (d:SE X sf C ea a)(e:SE X sf C eb b):SE X sf C (.BinOp ea .Mod eb pos) (.op .modN h [a,b]):=aj (fG yL d e)<|aI ur
end
end MR




namespace L3
open PySem PySem.Spec PyProof.Rows L2
theorem ff:∀{a:U Int} {b:U B},Q5 b a->Vals (a.map V.int) b
|_,_,.nil=>.nil
|_,_,.cons n t h=>.cons ⟨t,rfl⟩<|ff h
theorem nS {X:Cx}:bI X (.builtin "sorted") (λl H Q=>∃(a:QF) (c:U Int),l=[.ref a]/\SqL X.K H a (c.map V.int)/\c.length<64/\∀b:U Int,b.Perm c->b.Pairwise (·<=·)->∀p,H p=J->Q (.ref p) (upd H p<|.lst<|b.map V.int)):=by intro k s D H l A Q I r h;obtain⟨a,c,rfl,t,o,q⟩:=h;obtain⟨u,rfl,x⟩:=cc r;cases x;obtain⟨d,y,p,z⟩:=I.list t;have g:=bU y;have i:d.length=c.length:=IntsAre.length g;refine sorted_ints p.isList g (by lia) λout b m f n=>?_;obtain⟨e,v⟩:=sortedAll_at s.heap d out;have w:b.length=c.length:=f.length_eq;refine⟨.ref<|s.heap.objs.size+1,upd H (s.heap.objs.size+1)<|.lst<|b.map V.int,I.laid (t':=s.toks) (λ_ _=>sortedAll_old) (La _) ⟨by rw[J6,LA];lia,out.toList,e,ff m,by rw[v,NO]⟩,rfl,q _ f n _<|I.hok.fresh<|La _⟩
end L3
namespace MR
open PySem PySem.Spec PyProof.Rows L2 L3
section
variable {X:Cx}{sf sg:Y->j Y}{C:M.Call}{pos p p2 p3:Pos}{ea eb ec:QQ}{a b c:M.E}{h:QJ}{n:Y}{io:U Y}{K:J2}
theorem pw (x:Int):∀l:U Int,l.Pairwise (·<=·)->(M.insI x l).Perm (x::l)/\(M.insI x l).Pairwise (·<=·)
|[],_=>⟨.refl _,OP _ _⟩
| y::i,hp=>by
 obtain⟨g,k⟩:=Ls.mp hp;obtain⟨a,b⟩:=pw x i k;unfold M.insI;split
 .rename_i d;exact⟨.refl _,Ls.mpr ⟨λz f=>(Kg.mp f).elim (λe=>e ▸ d) λf=>Int.le_trans d<|g z f,hp⟩⟩
 .rename_i d;refine⟨(a.cons y).trans (.swap x y i),Ls.mpr ⟨λz f=>?_,b⟩⟩;rcases Kg.mp (a.mem_iff.mp f) with rfl|f
  .omega
  .exact g z f
theorem du:∀l:U Int,(M.sortI l).Perm l/\(M.sortI l).Pairwise (·<=·)
|[]=>⟨.refl _,.nil⟩
|x::l=>by obtain⟨a,b⟩:=du l;obtain⟨c,d⟩:=pw x _ b;exact⟨c.trans<|a.cons x,d⟩
theorem k6 {d e:U Int}(g:e.Perm d)(i:e.Pairwise (·<=·)):e=M.sortI d:=
 List.Perm.eq_of_pairwise (le:=λa b:Int=>a<=b) (λa b _ _ h f=>Int.le_antisymm h f) i (du d).2 (g.trans (du d).1.symm)
theorem nP:Loc K 1 .sorted h λs H Q=>∃(a:QF) (f:U Int),s=[.ref a]/\SqL K H a (f.map V.int)/\f.length<64/\∀l:U Int,l.Perm f->l.Pairwise (·<=·)->∀p,H p=J->Q (.ref p) (upd H p<|.lst<|l.map V.int):=by
 intro L w s Z H G Q A e r F N k
 match L,A with
 | [(m,a)],_ =>
  obtain⟨x,rfl,I⟩:=a0 rfl r;cases a with
  | lst u =>
   obtain⟨a,s,hx,t,P,p⟩:=bg I;have i:((M.intsOf u).bind λf=>if decide (f.length<64)=JZ then O ((.d,.lst ((M.sortI f).map M.T.int)):M.W) else J)=O w:=e;cases e1:M.intsOf u with
   |none=>rw[e1] at i;cases i
   | some f =>
    rw[e1] at i;have e2:(if decide (f.length<64)=JZ then O ((.d,.lst ((M.sortI f).map M.T.int)):M.W) else J)=O w:=i;split at e2
    .rename_i g;cases e2;have g:=QR g;rw[hW e1 p] at t;refine⟨a,f,by rw[hx],.inl<|.inl t,g,λl v y q D=>?_⟩;rw[k6 v y];have o:(M.sortI f).length=f.length:=(du f).1.length_eq;exact bh (G':=no) F N (λ_ z=>z.elim) (by rw[J6,o];show _<=16777215;lia) (fA _) (by simp) k D
    .cases e2
  |_=>cases e
theorem xj (hm:X.mg "sorted"=J)(f:Gl X "sorted":=by rfl)(ha:SE X sf C ea a)(e:J5 [ea] X.env=(JY,QY ea X.env)::J5 [] X.env:=by rfl)(d:(Kw pos<|J5 [] X.env).any (·.1)=false:=by rfl):SE X sf C (.Call (.Name "sorted" p) [ea] [] pos) (.op .sorted h [a]):=
 aj (bb nS f hm (by rfl) (slc ha sl0 e) (by decide) (by decide) e d) (cf nP rfl)
end
end MR

namespace L3
open PySem PySem.Spec PySem.NumText PyProof.Rows L2
theorem vb {i:Int}(h:i.natAbs<10000000000000000000):i.natAbs.log2<1920:=by
 by_cases a:i.natAbs=0
 .rw[a];decide
 .exact KL ((Nat.log2_lt a).mpr<|show i.natAbs<2 ^ 64 from KL h<|by decide) (by decide)
theorem qK {X:Cx}:bI X (.type "str") (λb H Q=>∃i,b=[.int i]/\i.natAbs<10000000000000000000/\Q (.str<|Str.ofString<|toString i) H):=by intro a s f H b e Q I r h;obtain⟨i,rfl,c,q⟩:=h;obtain⟨u,rfl,d⟩:=cc r;obtain⟨t,rfl⟩:=d;exact PySem.P.str_of_int (vb c) ⟨.str _,H,I.tok _,⟨_,rfl⟩,q⟩
theorem vR {n:Int}(h:n.natAbs<10000000000000000000):(Str.ofString<|toString n).length<=20:=by
 have b:=NY (a:=n) (k:=19) (by decide) h;have:(Str.ofString<|toString n).length=(toString n).length:=by show(Str.ofString<|toString n).cps.size=_;rw[<- KD,signs_ofString,J6,Py]
 lia
end L3
namespace MR
open PySem PySem.Spec PyProof.Rows L2 L3
section
variable {X:Cx}{sf sg:Y->j Y}{C:M.Call}{pos p p2 p3:Pos}{ea eb ec:QQ}{a b c:M.E}{h:QJ}{n:Y}{io:U Y}{K:J2}
theorem yY:Loc K 1 .str h λg H Q=>∃i,g=[.int i]/\i.natAbs<10000000000000000000/\Q (.str<|Str.ofString<|toString i) H:=by
 intro s w g Z H G Q l e r t u k
 match s,l with
 | [(m,a)],_ =>
  obtain⟨x,rfl,o⟩:=a0 rfl r;cases a with
  | int i =>
   have e2:(if decide (i.natAbs<10000000000000000000)=JZ then O ((.d,.str (M.strI i)):M.W) else J)=O w:=e;split at e2
   .rename_i f;cases e2;have f:=QR f;refine⟨i,by rw[show x=_ from o],f,fT k<|ba _ ?_⟩;have:=NY (a:=i) (k:=19) (by decide) f;lia
   .cases e2
  |_=>cases e
theorem Io (hm:X.mg "str"=J)(f:Gl X "str":=by rfl)(ha:SE X sf C ea a)(e:J5 [ea] X.env=(JY,QY ea X.env)::J5 [] X.env:=by rfl)(d:(Kw pos<|J5 [] X.env).any (·.1)=false:=by rfl):SE X sf C (.Call (.Name "str" p) [ea] [] pos) (.op .str h [a]):=
 aj (cP qK f hm Qs (slc ha sl0 e) (by decide) (by decide) e d) (cf yY rfl)
end
end MR

namespace MR
open PySem PySem.Spec PyProof.Rows L2 L3
theorem slx {X:Cx}{d:Y->j Y}{C:M.Call}{b:QQ}{a:M.E}{c:U QQ}{bs:U M.E}(e:SE X d C b a)(f:SL X d C c bs)(g:J5 (b::c) X.env=(JY,QY b X.env)::J5 c X.env):SL X d C (b::c) (a::bs):=slc e f g
theorem sTx {X:Cx}{b:Y->j Y}{C:M.Call}{pos:Pos}{a:U QQ}{bs:U M.E}{d:Y}(c:bs.length<=M.LIM)(h:SL X b C a bs):SE X b C (.Tuple a d pos) (.tup bs):=sT h c
theorem sLx {X:Cx}{b:Y->j Y}{C:M.Call}{pos:Pos}{h:QJ}{a:U QQ}{bs:U M.E}(d:bs.length<=M.LIM)(c:SL X b C a bs):SE X b C (.List a pos) (.lst h bs):=sLs c d
theorem aE {X:Cx}{d:Y->j Y}{C:M.Call}{pos:Pos}{h:QJ}{e c:QQ}{a b:M.E}(f:SE X d C e a)(g:SE X d C c b)(i:jO c):SE X d C (.Subscript e c pos) (.op .ix h [a,b]):=sIx f g i
end MR

namespace TP
open PySem PySem.W
noncomputable def en (P:K0)(k:Str)(t:Y)(v:B):Ri:=⟨PyData.keyHash P k,.str k t,v⟩
def tu (a:U B):Obj:=⟨.type "tuple",J,.seq a.toArray 0,#[]⟩
def fe (a:U B):Obj:=⟨.none,J,.fields a.toArray,#[]⟩
noncomputable def di (a:U Ri)(n:Y):Obj:=⟨.type "dict",J,.dict a.toArray n,#[]⟩
abbrev fl:Str:="/claim/cut.py"
def iv (i:Int):B:=.int i 0
def cdo (n q:Str)(t d:Y)(c e:Y)(f:Y)(a:Y)(b:QJ)(x y z:B):Obj:=
 ⟨.type "code",J,.fields #[.str n t,.str q<|t+1,.str fl<|t+2,iv c,iv e,iv 0,iv 0,iv f,.ref a,.bool b,iv 181,.ref<|a+1,.none,x,y,z,iv d,iv c,.str fl<|d+1],#[]⟩
def ofn (c:B)(h:Q0)(q:Str)(g:Y)(d m:B)(e:B):Obj:=match h with
|.FunctionDef n a b _ _ _ f _ _ _=>⟨c,J,.func {name:=n,qualname:=q,params:=a,body:=.stmts b,scope:=f,globals:=g,closure:=[],defaults:=d,kwdefaults:=.none,pyModule:=m,code:=e},#[]⟩
|_=>default
noncomputable def tks:U Str->Y->U B
|[],_=>[]
|x::r,t=>.str x t::tks r (t+1)
structure R where
 os:U Obj
 ns:U Ri
 tb:U B
 n:Y
 tk:Y
 md:B
inductive Rc where
 |d|m|c
 |x (k:Str) (kt:Y) (v:B) (os:K0->U Obj) (tb:U B) (n tk:Y)
def cv:QQ->B
|.Constant (.bool b) _ _=>.bool b
|_=>.none
def dO (P:K0)(n tk:Y)(e:B)(f:Q0):R:=match f with
| .FunctionDef d g b _ _ _ h _ _ pos =>
 let pr:U Obj×B×Y:=match g.defaults with
  |[]=>([],.none,n)
  |ds=>([tu<|ds.map cv],.ref n,n+1)
 let a:=pr.2.2
 match localNames g h (.stmts b) with
 | none=>⟨pr.1++[tu [],fe [],ofn .none f d 0 .none .none .none,cdo d d tk (tk+3) pos.line g.args.length 3 a JZ .none .none (.ref (a+2)),ofn (.type "function") f d 3 pr.2.1 e (.ref (a+3))],
   [en P d (tk+5)<|.ref<|a+4],[iv pos.line,iv pos.col,.ref<|a+3],a+5,tk+6,e⟩
 | some l =>
  let k:=l.1.length;let c:=l.2.length
  ⟨pr.1++[tu [],fe [],tu (tks l.1 (tk+3)),tu (tks l.2 (tk+3+k)),ofn .none f d 0 .none .none .none,cdo d d tk (tk+3+k+c) pos.line g.args.length 3 a JZ (.ref (a+2)) (.ref (a+3)) (.ref (a+4)),ofn (.type "function") f d 3 pr.2.1 e (.ref (a+5))],
   [en P d (tk+5+k+c)<|.ref<|a+6],[iv pos.line,iv pos.col,.ref<|a+5],a+7,tk+6+k+c,e⟩
|_=>⟨[],[],[],n,tk,e⟩
def one (P:K0)(n tk:Y)(a:B)(b:Q0):Rc->R
|.d=>dO P n tk a b
|.m=>match b with
 |.Assign _ (.Constant (.str s) _ _) _=>⟨[],[],[],n,tk+2,.str s tk⟩
 |_=>⟨[],[],[],n,tk,a⟩
|.c=>match b with
 |.Assign (.Name x _::_) (.Constant (.str s) _ _) _=>⟨[],[en P x (tk+1)<|.str s tk],[],n,tk+2,a⟩
 |.Assign (.Name x _::_) (.Constant (.int i) _ _) _=>⟨[],[en P x (tk+1)<|.int i tk],[],n,tk+2,a⟩
 |_=>⟨[],[],[],n,tk,a⟩
|.x k f v os h g e=>⟨os P,[en P k f v],h,g,e,a⟩
def go (P:K0):U (Q0×Rc)->Y->Y->B->U R
|[],_,_,_=>[]
|(b,r)::l,n,tk,a=>let x:=one P n tk a b r
 x::go P l x.n x.tk x.md
def Ap (x:R):U R->R
|[]=>x
|y::l=>Ap y l
def ds:Data->U Ri
|.dict a _=>a.toList
|_=>[]
noncomputable def ep:Data->Y
|.dict _ n=>n
|_=>0
def r0:R:=⟨[],[],[],15,187,.str "__main__" 164⟩
def rs (P:K0)(l:U<|Q0×Rc):U R:=go P l 15 187<|.str "__main__" 164
def o3 (P:K0)(l:U R):Obj:=di (en P "__name__" 165 (Ap r0 l).md::((ds (boot_o_3 P).data).tail++l.flatMap R.ns))<|ep (boot_o_3 P).data+(l.flatMap R.ns).length
def os (P:K0)(l:U R):U Obj:=
 boot_o_0 P::boot_o_1 P::boot_o_2 P::o3 P l::boot_o_4 P::boot_o_5 P::boot_o_6 P::boot_o_7 P::boot_o_8 P::boot_o_9 P::boot_o_10 P ::
 tu []::fe (l.flatMap R.tb)::cdo "<module>" "<module>" 182 185 1 0 0 11 JY .none .none .none ::
 ⟨.type "frame",J,.plain,#[O<|.ref 13,O<|.ref 3,O<|.ref 3,J,O<|.str "__main__" 164,J,O<|.ref 0]⟩::l.flatMap R.os
def odd {a:Type}:U a->U a×U a
|[]=>([],[])
|x::l=>(x::(odd l).2,(odd l).1)
noncomputable def bt:Y->U Obj->BT
|0,_=>.nil
|_+1,[]=>.nil
|k+1,x::l=>.node x (bt k (odd l).1)<|bt k (odd l).2
noncomputable abbrev p0:Pos:=⟨0,0,0,0⟩
abbrev B0:U Frame:=[topFrame p0]
abbrev an:j B:=O<|.ref 6
noncomputable def ev (p:QN):Env:={scope:=p.main.scope,locals:=mainNs,globals:=mainNs,cells:=[],code:=.ref 13,frame:=O 14}
def cE (p:QN):Code:=.body (MV p)<|ev p
def sT (p:QN)(rc:U Rc)(P:K0)(m n tk:Y)(o:Ry):SharedT:=⟨bt 12<|os P<|rs P<|(p.main.body.zip rc).take m,n,{},#[],{},tk,o⟩
def hp (p:QN)(rc:U Rc)(m n:Y)(P:K0):QS:=absHeap (bt 12<|os P<|rs P<|(p.main.body.zip rc).take m) n {}
def Cut (p:QN)(rc:U Rc)(i n t:Y)(c:Pos)(k N b d:Y)(a:Pos)(w:J8):Prop:=∀o,segRunT L5 p w 11 an 1 N (sT p rc w.params i n t o) (piecesOf ((p.main.body.drop i).take k) (ev p) (cE p) c B0)=O (.next,sT p rc w.params (i+k) b d o,cE p,a)
def Ch (p:QN)(rc:U Rc)(m a c:Y)(i n t:Y)(b:Pos)(M:Y):Prop:=∀w o,topRun L5 p w 11 an M (sT p rc w.params i n t o).abs (restOf (p.main.body.drop i) (ev p) (cE p) b B0)=O (sT p rc w.params m a c o).abs
theorem yi {p:QN}{rc:U Rc}{m d g i n t k N b f M:Y}{e a:Pos}(c:∀w,Cut p rc i n t e k N b f a w)(h:Ch p rc m d g (i+k) b f a M):Ch p rc m d g i n t e (N+M):=λw o=>by have x:=piece_app (segRun_of<|c w o)<|h w o;rw[<- List.drop_drop,Ov] at x;exact x
theorem Br {p:QN}{rc:U Rc}{m a b:Y}{d:Pos}(c:p.main.body.drop m=[]):Ch p rc m a b m a b d 2:=λw o=>by rw[c];exact piece_nil rfl
theorem yy (w:J8):((Lf w.params).isNs KC&&(Nv []:QT Rv).size==0,(Lf w.params).objs.size,(Lf w.params).nsMap KC "__annotations__")=(JZ,11,an):=by kernel_rfl
theorem yV {p q:QN}{a:U Str}{Xt:J0->QJ}{n:Type}{l:J0->n}{i:J8->n}{N M m b h:Y}{rc:U Rc}
  (e:opening p=plainProg p.main.scope.names) (r:Nat.ble 600 N=JZ) (f:∀s,fenceModules? p s=O s) (t:MV p=p.main.body)
  (g:∀w:J8,((Lf w.params).isNs KC&&(Nv []:QT Rv).size==0,(Lf w.params).objs.size,(Lf w.params).nsMap KC "__annotations__")=(JZ,11,an))
  (pre:∀(w:J8) (o:Ry),topGo L5 p w 11 an 12 ⟨Lf w.params,Nv [],boot_drawn,boot_toks,o⟩ (topStub p)=O ((sT p rc w.params 0 15 187 o).abs,⟨denote L5<|cE p,cE p,p0,B0⟩))
  (blk:∀(w:J8) (o:Ry),segRun L5 p w 11 an 1 1 (sT p rc w.params 0 15 187 o).abs (blockOf (MV p) (ev p) (cE p) p0 B0)=O (.next,(sT p rc w.params 0 15 187 o).abs,cE p,p0))
  (ch:Ch p rc m b h 0 15 187 p0 M) (le:Nat.ble (12+(1+M)) N=JZ)
  (c:∀w:J8,(λo=>((staticsOk (Nk p.main.body) (Lf w.params) (hp p rc m b w.params)&&namesBound p (hp p rc m b w.params)&&gensDone ⟨hp p rc m b w.params,#[],{},h,o⟩&&laidKept (Lf w.params) (hp p rc m b w.params)),
    openSeen q a (Nk p.main.body) Xt JZ ⟨hp p rc m b w.params,#[],{},h,o⟩,l ⟨hp p rc m b w.params,#[],{},h,o⟩))=λ_=>(JZ,openGood q a,i w)):LeftO p q a Xt l i N:=
 LeftO.of_pieces (H₀:=Lf) (H₁:=hp p rc m b) (gs₁:=#[]) (d₁:={}) (k₁:=h) (boot_open e r f) g
  (λw o=>go_top (pre w o)<|piece_block (blk w o) (by have x:=ch w o;rw[KQ,<- t] at x;exact x)) le c
noncomputable def cb (c:Q0)(a:Y):Q0:=match c with
|.ClassDef _ _ _ b _ _ _ _ _ _ _=>b.getD a c
|_=>c
noncomputable def drec (d:Q0):PySem.DefRec:=match d with
|.FunctionDef n a b _ _ _ c _ _ pos=>⟨n,a,b,c,pos⟩
|_=>⟨default,default,[],default,default⟩
theorem fR {b:Type}:∀(l:U b) (i:Y),(odd l).1[i]?=l[2 * i]?/\(odd l).2[i]?=l[2 * i+1]?
|[],i=>by simp[odd]
| x::l,i=>by
 refine⟨?_,?_⟩
 .cases i with
  |zero=>simp[odd]
  |succ a=>rw[show 2 * (a+1)=2 * a+1+1 by lia];simp only[odd,Ld];exact(fR l a).2
 .simp only[odd,Ld];exact(fR l i).1
theorem oD {a:Type}:∀(l:U a),(odd l).1.length=(l.length+1) / 2/\(odd l).2.length=l.length / 2
|[]=>by simp[odd]
|x::l=>by have h:=oD l;simp only[odd,Ki,h.1,h.2];exact⟨by lia,trivial⟩
theorem mR:∀(k:Y) (l:U Obj) (a:Y),l.length<2 ^ k->(bt k l).get a=l[a]?
|0,l,a,h=>by have:l=[]:=ON.mp (by simpa using h);subst this;simp[bt,BT.get]
|k+1,[],a,h=>by simp[bt,BT.get]
| k+1,x::l,a,h=>by
 have e:2 ^ (k+1)=2 * 2 ^ k:=by rw[Nat.pow_succ];lia
 have f:=oD l;simp only[Ki] at h;unfold bt;rw[BT.get_node];by_cases c:a=0
 .simp[c]
 .rw [QH c];by_cases d:a % 2=1
  .rw [QG d,mR k _ _<|by lia,(fR l<|a / 2).1];obtain⟨b,rfl⟩:∃b,a=b+1:=⟨a-1,by lia⟩;rw[Ld];congr 1;lia
  .rw [QH d,mR k _ _<|by lia,(fR l<|a / 2-1).2];obtain⟨b,rfl⟩:∃b,a=b+1:=⟨a-1,by lia⟩;rw[Ld];congr 1;lia
def lL (p:QN)(rc:U Rc)(m:Y)(P:K0):U Obj:=os P<|rs P<|(p.main.body.zip rc).take m
def kK (p:QN)(rc:U Rc)(m:Y)(as:U QF)(P:K0):Frag:=as.map λa=>(a,(lL p rc m P).getD a default)
noncomputable def okO:j Obj->QJ
|some ⟨_,_,.freed,_⟩=>JY
|some _=>JZ
|none=>JY
theorem pb {p:QN}{rc:U Rc}{m:Y}{P:K0}{a:QF}{o:Obj}:∀{as:U QF},(kK p rc m as P).lookup a=O o->a∈as/\o=(lL p rc m P).getD a default
|[],h=>by simp[kK] at h
| b::as,h=>by
 unfold kK at h;rw[Ku,Ow] at h;by_cases e:a=b
 .subst e;rw[Q4] at h;exact⟨Ka ..,(KH h).symm⟩
 .rw [beq_false_of_ne e] at h;have x:=pb (as:=as) h;exact⟨Ke _ x.1,x.2⟩
def hkk (p:QN)(rc:U Rc)(m n:Y):Hook where
 α:=QT Obj
 obs s:=s.heap.objs
 val w:=(hp p rc m n w.params).objs
 says w h:=∀a o,(hp p rc m n w.params).get? a=O o->h.get? a=O o
 of w s e a o x:=by unfold Heap.get? at *;rw[e];exact x
 keeps w h h' X k a o x:=k _ _<|X a o x
theorem IZ {p:QN}{rc:U Rc}{m n:Y}{as:U QF}{w:J8}{h:QS}(r:Nat.blt (lL p rc m w.params).length 4096=JZ)(l:(as.all λa=>Nat.blt a n&&okO (lL p rc m w.params)[a]?)=JZ)
  (b:(hkk p rc m n).says w h):(kK p rc m as w.params).In h:=λa o e=>by
 obtain⟨e1,e2⟩:=pb e;obtain⟨f,c⟩:=Ou.mp<|KI.mp l a e1;refine b a o ?_;have i:a<n:=Qr f;have k:(lL p rc m w.params).length<2 ^ 12:=Qr r;have g:=mR 12 (lL p rc m w.params) a k;unfold hp Heap.get?;rw[absHeap_at,QG i];show(match O (((bt 12<|lL p rc m w.params).get a).getD default) with|some ⟨_,_,.freed,_⟩=>J|o=>o)=O o;rw[g];rw[Kf] at e2;rw[<- e2];cases q:(lL p rc m w.params)[a]? with
 |none=>rw[q] at c;cases c
 |some x=>rw[q] at c e2;have e3:o=x:=e2;subst e3;obtain⟨_,_,d,_⟩:=o;cases d<;>first|rfl|cases c
noncomputable def pmO:j Obj->B
|some ⟨_,_,.func f,_⟩=>f.pyModule
|_=>.none
def rfO:j (j B)->Y
|some (O (.ref a))=>a
|_=>0
theorem raw_mk {K:Frag}{x:Str}{a:Q0}{b:B}(c:nsIn K KC x=O (O<|.ref<|rfO<|nsIn K KC x))
  (d:K.lookup (rfO<|nsIn K KC x)=O ⟨.type "function",J,.func<|fnOf x x (L2.defArgs a) (L2.defBody a) (L2.defScope a) b .none .none (pmO<|K.lookup<|rfO<|nsIn K KC x) J (.ref<|rfO (nsIn K KC x)-1) .none,#[]⟩)
  (e:codeIn K (.ref<|rfO (nsIn K KC x)-1) x=JZ) (f:keepIn K (.ref<|rfO<|nsIn K KC x)=JZ):MR.Raw K x a b:=⟨_,_,_,_,_,_,_,_,_,_,c,d,e,f⟩
end TP

namespace MR
open PySem PySem.Spec PyProof.Rows L2 L3
theorem walkX {sx:Str}{C:M.Call}{ix k:Y}{l:OL}{q:QN}{c:U Str}{v:(Str->j B)->QS->Prop}{o:J8->QS->Prop}{d:DefRec}{K:K0->J2}(hp:∀g:U Int,g.length<=63->∃m bs,C ix [(.d,.scr g)]=.ok ((m,.bl JZ),bs))(G:l.most=O 63)(i:d.params.defaults=[])(H:Room k LY)
  (D:∀(w:J8) (h:QS),o w h->(K w.params).In h)
  (F:∀ (w:J8) (e:Str->j B) (p:QF) (h:QS),(K w.params).In h->h.Ns KC e->e d.name=O (.ref p) ->
   ∃r:Lb,(∀(s:J0) (u:B),L0 s r ⟨[u],[]⟩ [(sx,u)])/\∀b:QS,(K w.params).In b->b.Ns KC e->eE l.prog w (K w.params) e b CX0 k p r [sx] (spS (K w.params) C ix [])):
  P6 q c v o l.row.toRowW d [] (λf I=>Oe f I):=
 L2.walk_of (n:=63) (k:=k) (x:=sx) (CX:=λ_=>CX0) (sp:=λw=>spS (K w.params) C ix []) G (by decide) i H D F (λ_ _ a g t y A=>C0 (hp g t) t y A) λ_ _ _ _ _ z=>z
theorem xn {d:Str}{w:J8}{K:J2}{c:Str->j B}{st:Q0}{h:QS}{o:QF}{pr:QN}{k:Y}{p:Sp}(X:K.In h)(G:h.Ns KC c)(m:c "law"=O (.ref o))(r:Raw K "law" st .none)(z:∀(kV l n:B) (an:j QF) (g i:B) (s:J0) (v:B),L0 s (LQ "law" "law" (defArgs st) (defBody st) (defScope st) .none kV l n an g i) ⟨[v],[]⟩ [(d,v)])
  (ok:∀f b,Fun K "law" "law" st f b->∀a,eE pr w K c a CX0 k f b [d] p):∃b:Lb,(∀(s:J0) (v:B),L0 s b ⟨[v],[]⟩ [(d,v)])/\∀a:QS,K.In a->a.Ns KC c->eE pr w K c a CX0 k o b [d] p:=by
 obtain⟨f,A,D,F,kV,l,n,an,g,i,t,u,x,y⟩:=r;have e:=m.symm.trans<|Pc X G t;cases e;exact⟨_,z kV l n an g i,λa _ _=>ok _ _ (wq (st:=st) u x y) a⟩
end MR



namespace MR
open PySem PySem.Spec PyProof.Rows L2 L3
section
variable {X:Cx}{sf sg:Y->j Y}{C:M.Call}{pos p p2 p3:Pos}{ea eb ec:QQ}{a b c:M.E}{h:QJ}{n:Y}{io:U Y}{K:J2}
theorem xE {Z:Fp}{H:Hp}{G:Fp}{Q:VK}{p:QF}(e:Own Z H G)(f:∀a,Z a->H a≠J)(k:Out K Z H G (.d,.dct [] []) Q)(hp:H p=J):Q (.ref p) (upd H p<|.dK []):=by refine k _ Z _ (λa=>a=p) ⟨p,[],rfl,Kx _,⟨rfl,au⟩,⟨List.nodup_nil,λ_ z=>nomatch z⟩,rfl,rfl⟩ ?_<|gp hp e (λa h=>.inr h) Z (λ_ z=>z) λ_ z=>.inl z;rintro a rfl;exact⟨λz=>f a z hp,.inr [],au⟩
theorem zH (e:L2.St)(H:Hp)(Q:VK)(l:wE K sf C (.op .dnew h []) e H Q):vF e H Q:=by obtain⟨m,Z,d,r,w,s,A,ev,k⟩:=l;obtain⟨t,g,i⟩:=dk ev;cases g;cases i;intro p hp;have f:At K ⟨sf,m⟩ e Z H d r no:=A;have o:=cy (F:=tot d) f ((Step.refl Z H<|tot d).mono (λ_ z=>z) λ_ z=>z.elim id λq=>q.elim) k;exact xE bX A.gd.zal o hp
theorem Fe:SE X sf C (.Dict [] [] pos) (.op .dnew h []):=aj rY zH
end
end MR


namespace MR
open L2 L3 M
open PySem (Addr Str sizeLine)
section
variable {K:J2}{Wx:L2.St->VK}{sl:Cf}{sf sg:Y->j Y}{C:Call}{σ σ2:L2.St}{Z Z' Z1:Fp}{H H' H1:Hp}{Fs Fs' Fs1:Fps}{η η' η1 ηb:Env}{G G' G1 R F F':Fp}{tg is vs ls io:U Y}{pv val:Y->j V}{D:bK}
theorem zu {Z:Fp}{H:Hp}{G:Fp}{a:QF}{o:HO}{m:Md}(b:m≠.s)(h:G a/\H a=O o):DctR Z H G a o m:=by
 cases m with
 |s=>exact QL rfl b
 |d=>exact h
 |o m=>exact h
theorem xR {i:Y}{a:QF}{f:U<|Int ⊕ Str}{P:U T}{g:U V}{m':Md}(hm:m'≠.s)(A:At K ⟨sf,pv⟩ σ Z H Fs η G){w0:W}(hi:rd η i=O w0)(ha:Fs i a)(hx:∀d,sf i=O d->σ[d]?=O (O<|.ref a))(hl:f.length<=LIM)(hnd:f.Nodup/\∀k∈f,kOk k=JZ)(hvl:P.length=f.length)(hpv:∀u,pv i=O u->V.ref a=u)
  (hg:∀b,G' b->(Fs i b\/G b)/\b≠a) (hR:∀b,R b->(Fs i b\/G b)/\b≠a) (hRG:∀b,R b->¬G' b) (p:RepL K (λb=>Z b\/((Fs i b\/G b)/\b≠a/\¬G' b/\¬R b)) H (dmd m') P g λ_=>QX) {Q:Hp->Prop}
  (k:∀Z' Fs',At K ⟨sf,pv⟩ σ Z' (upd H a<|.dK<|mkD f g) Fs' (M.put η i (m',.dct f P)) R->Step Z H (λb=>tot Fs b\/G b) Z' (upd H a<|.dK<|mkD f g) (λb=>tot Fs' b\/R b)->(∀{m t v},Rep K (λb=>Z b\/((Fs i b\/G b)/\b≠a/\¬G' b/\¬R b)) H m t v R->Rep K Z' (upd H a<|.dK<|mkD f g) m t v R)->Q (upd H a<|.dK<|mkD f g)):Q (upd H a<|.dK<|mkD f g):=by
 have L:tot Fs a:=⟨i,ha⟩;obtain⟨nza,ys,hya⟩:=A.gd.own a L;have nGa:¬G a:=λq=>A.dis a q L
 have I:∀b,(Z b\/((Fs i b\/G b)/\b≠a/\¬G' b/\¬R b))->b≠a:=λb h z=>by
  subst z;rcases h with h|h
  .exact nza h
  .exact h.2.1 rfl
 have keep:∀b o,H b=O o->b≠a->upd H a (.dK (mkD f g)) b=O o:=λb o e w=>by rw[ae w];exact e
 have neT:∀b xs,H b=O (.tup xs)->b≠a:=λb xs e z=>by rw[z,hya] at e;exact ke e.symm
 have neF:∀b o u,H b=O (.frz o u)->b≠a:=λb o u e z=>by rw[z,hya] at e;exact d9 e.symm
 have stay:∀{c:Fp},(∀b,c b->b≠a)->Stay c H (upd H a (.dK (mkD f g))):=λ{c} hY=>⟨λb o w e=>keep b o e<|hY b w,λb xs e=>by
  rcases e with e|⟨u,e⟩
  .exact .inl (keep b _ e<|neT b xs e)
  .exact .inr ⟨u,keep b _ e<|neF b u _ e⟩,λb o u e=>keep b _ e<|neF b o u e⟩
 have al:∀b,H b≠J->upd H a (.dK (mkD f g)) b≠none:=λb h=>by
  by_cases e:b=a
  .rw[e,au];simp
  .rw[ae e];exact h
 have N:∀b,(Z b\/((Fs i b\/G b)/\b≠a/\¬G' b/\¬R b))->H b≠none:=λb h=>by
  rcases h with h|⟨h|h,_⟩
  .exact A.gd.zal b h
  .obtain⟨_,zs,e⟩:=A.gd.own b ⟨i,h⟩;rw[e];simp
  .obtain⟨_,zs,e⟩:=A.own b h;rw[e];simp
 have listAt:∀b,(tot Fs b\/G b)->∃zs:OO,upd H a (.dK (mkD f g)) b=O zs.ho:=λb h=>by
  by_cases e:b=a
  .exact⟨(.inr<|mkD f g),by rw[e,au];rfl⟩
  .rcases h with h | h
   .obtain⟨_,zs,q⟩:=A.gd.own b h;exact⟨zs,by rw[ae e];exact q⟩
   .obtain⟨_,zs,q⟩:=A.own b h;exact⟨zs,by rw[ae e];exact q⟩
 have nZ:∀b,(Fs i b\/G b)->¬Z b:=λb h z=>h.elim (λy=>(A.gd.own b ⟨i,y⟩).1 z) λy=>(A.own b y).1 z
 have cJ:∀b,tot (jE Fs i λb=>G' b\/b=a) b->(∃d,d≠i/\Fs d b)\/G' b\/b=a:=λb h=>by
  obtain⟨d,h|h⟩:=h
  .exact .inr h.2
  .exact .inl ⟨d,h⟩
 refine k (λb=>Z b\/((Fs i b\/G b)/\b≠a/\¬G' b/\¬R b)) (jE Fs i λb=>G' b\/b=a) ⟨⟨λb h=>⟨λz=>?_,?_⟩,λd l b x hk=>?_,λb h=>al b<|N b h⟩,λl m t e=>?_,λb h=>⟨λz=>?_,listAt b<|(hR b h).1.imp (λz=>⟨i,z⟩) id⟩,λb h q=>?_,A.lk,A.ln⟩ ⟨λb o e n=>keep b o e λz=>n<|.inl<|z ▸ L,λb h=>.inl h,λb h=>h.imp id λq=>.inl<|q.1.imp (λz=>⟨i,z⟩) id,λb h=>?_,al,λ_ b h=>al b<|N b h⟩ λ{m t v} r=>r.keep (stay I) (λ_ z=>z) λb o w e=>keep b o e (hR b w).2
 .rcases cJ b h with ⟨d,x,q⟩ | q | q
  .rcases z with z | ⟨z | z,_⟩
   .exact(A.gd.own b ⟨d,q⟩).1 z
   .exact x (A.gd.dis d i b q z)
   .exact A.dis b z ⟨d,q⟩
  .rcases z with z | z
   .exact nZ b (hg b q).1 z
   .exact z.2.2.1 q
  .exact I b z q
 .rcases cJ b h with ⟨d,x,q⟩ | q | q
  .exact listAt b (.inl ⟨d,q⟩)
  .exact listAt b ((hg b q).1.imp (λz=>⟨i,z⟩) id)
  .exact⟨(.inr<|mkD f g),by rw[q,au];rfl⟩
 .have key:∀ {d:Y},(G' b\/b=a)->Fs d b->d=i:=fun {d} h q=>by
   rcases h with h|h
   .rcases (hg b h).1 with y | y
    .exact A.gd.dis d i b q y
    .exact QL ⟨d,q⟩ (A.dis b y)
   .rw[h] at q;exact A.gd.dis d i a q ha
  rcases x with⟨rfl,x⟩|⟨nj,x⟩
  .rcases hk with ⟨rfl,_⟩ | ⟨nk,hk⟩
   .rfl
   .exact QL (key x hk) nk
  .rcases hk with ⟨rfl,hk⟩ | ⟨nk,hk⟩
   .exact QL (key hk x) nj
   .exact A.gd.dis d l b x hk
 .rw [bp] at e;split at e
  .rename_i hc;obtain⟨rfl,_⟩:=hc;cases e;refine⟨.ref a,⟨a,g,rfl,hl,zu hm ⟨.inl ⟨rfl,.inr rfl⟩,au⟩,hnd,hvl,?_⟩,hx,hpv⟩;exact p.keep (stay I) (λ_ z=>z) λb o w e=>w.elim
  .rename_i hc;have hl':l≠i:=λz=>hc ⟨z,c8 hi⟩;obtain⟨v,r,h⟩:=A.env l m t e;have nea:∀b,Fs l b->b≠a:=λb q z=>hl'<|A.gd.dis l i a (z ▸ q) ha;exact⟨v,((r.keep (stay λb w z=>nza<|z ▸ w) (λ_ z=>z) λb o w e=>keep b o e<|nea b w).zmono λb h=>.inl h).mono λb h=>.inr ⟨hl',h⟩,h⟩
 .rcases z with z | z
  .exact nZ b (hR b h).1 z
  .exact z.2.2.2 h
 .rcases cJ b q with ⟨d,x,y⟩ | y | y
  .rcases (hR b h).1 with z | z
   .exact x (A.gd.dis d i b y z)
   .exact A.dis b z ⟨d,y⟩
  .exact hRG b h y
  .exact(hR b h).2 y
 .rcases h with h | h
  .rcases cJ b h with ⟨d,_,q⟩ | q | q
   .exact .inl (.inl ⟨d,q⟩)
   .exact .inl ((hg b q).1.imp (λz=>⟨i,z⟩) id)
   .exact .inl (.inl<|q ▸ L)
  .exact .inl ((hR b h).1.imp (λz=>⟨i,z⟩) id)
theorem wR {m:Md}{b:U<|Int ⊕ Str}{vs:U T}{v:V}(g:m≠.s)(r:Rep K Z H m (.dct b vs) v G):∃a c,v=.ref a/\b.length<=LIM/\G a/\H a=O (.dK<|mkD b c)/\(b.Nodup/\∀k∈b,kOk k=JZ)/\vs.length=b.length/\RepL K Z H (dmd m) vs c (λ_=>QX):=by
 obtain⟨a,c,e,l,q,n,f,p⟩:=r;cases m with
 |s=>exact QL rfl g
 |d=>exact⟨a,c,e,l,q.1,q.2,n,f,p⟩
 |o m=>exact⟨a,c,e,l,q.1,q.2,n,f,p⟩
def kT:Int ⊕ Str->T
|.inl n=>.int n
|.inr x=>.str x
theorem lQ {k:T}{q:Int ⊕ Str}(h:keyT k=O q):k=kT q:=by
 cases k with
 |int n=>cases h;rfl
 |str x=>cases h;rfl
 |_=>cases h
theorem vi {m:Md}{q:Int ⊕ Str}{v:V}(r:Rep K Z H m (kT q) v G):v=kV q/\kOk q=true:=by
 cases q with
 |inl n=>exact⟨r,rfl⟩
 |inr x=>exact⟨r.1,r.2⟩
noncomputable def ny (k:Int ⊕ Str)(y:V):U (Int ⊕ Str)->U V->U V
|[],_=>[y]
|z::b,x::a=>if z=k then y::a else x::ny k y b a
|_::_,[]=>[]
theorem lB (k:Int ⊕ Str)(t:T):∀(c:U<|Int ⊕ Str) (vs:U T),vs.length=c.length->(aR k t c vs).2.length=(aR k t c vs).1.length/\(aR k t c vs).1.length<=c.length+1
|[],[],_=>⟨rfl,J9 _⟩
|[],_::_,e=>by cases e
|_::_,[],e=>by cases e
| z::d,v::vs,e=>by
 unfold aR;split
 .exact⟨e,La _⟩
 .obtain ⟨a,b⟩:=lB k t d vs<|Lw e;exact⟨by rw[Ki,Ki,a],by rw[Ki,Ki];lia⟩
theorem gJ (k:Int ⊕ Str)(t:T):∀(a:U<|Int ⊕ Str) (vs:U T),vs.length=a.length->∀z,z∈(aR k t a vs).1 ↔ z=k\/z∈a
|[],[],_,z=>by simp[aR]
|[],_::_,e,_=>by cases e
|_::_,[],e,_=>by cases e
| y::c,v::vs,e,z=>by
 unfold aR;split
 .rename_i b;subst b;simp
 .have:=gJ k t c vs (Lw e) z;rw[Kg,this,Kg];constructor
  .rintro (h | h | h)
   .exact .inr (.inl h)
   .exact .inl h
   .exact .inr (.inr h)
  .rintro (h | h | h)
   .exact .inr (.inl h)
   .exact .inl h
   .exact .inr (.inr h)
theorem gL (k:Int ⊕ Str)(t:T):∀(a:U<|Int ⊕ Str) (vs:U T),vs.length=a.length->a.Nodup->(aR k t a vs).1.Nodup
|[],[],_,_=>by simp[aR]
|[],_::_,e,_=>by cases e
|_::_,[],e,_=>by cases e
| y::b,v::vs,e,h=>by
 unfold aR;split
 .exact h
 .rename_i f;obtain⟨c,d⟩:=K1.mp h;refine K1.mpr ⟨λq=>?_,gL k t b vs (Lw e) d⟩;rcases(gJ k t b vs (Lw e) y).mp q with q|q
  .exact f q
  .exact c q
theorem pC (k:Int ⊕ Str)(t:T)(y:V):∀(g:U<|Int ⊕ Str) (vs:U T) (c:U V),vs.length=g.length->c.length=g.length->g.Nodup->dR (mkD g c) k y=mkD (aR k t g vs).1 (ny k y g c)
|[],[],[],_,_,_=>rfl
|[],[],_::_,_,e,_=>by cases e
|[],_::_,_,e,_,_=>by cases e
|_::_,[],_,e,_,_=>by cases e
|_::_,_::_,[],_,e,_=>by cases e
| z::d,v::vs,x::c,e1,e2,nd=>by
 obtain⟨m,n⟩:=K1.mp nd;have l:=pC k t y d vs c (Lw e1) (Lw e2) n;unfold aR ny;by_cases f:z=k
 .rw [QG f,QG f];subst f;have i:∀p∈mkD d c,p.1≠z:=λp hp q=>by obtain⟨a,b⟩:=p;have:=(Nz hp).1;have o:a=z:=q;rw[o] at this;exact m this
  show dR ((z,x)::mkD d c) z y=(z,y)::mkD d c;unfold dR;rw[QG<|by simp];rw[Ku,QG rfl];congr 1
  conv=>rhs;rw[<- List.map_id (mkD d c)]
  refine Mm λp hp=>?_;rw[QH<|i p hp];rfl
 .rw [QH f,QH f];show dR ((z,x)::mkD d c) k y=(z,x)::mkD (aR k t d vs).1 (ny k y d c);rw[<- l];have h:¬(z=k):=f;unfold dR;rw[M1,QP h,P5];split
  .rw[Ku,QH h]
  .rfl
end
end MR



namespace L3
open PySem PySem.Spec PySem.NumText PyProof.Rows L2
theorem mi {X:Cx}(o:X.A.guards=O [])(G:X.A.units+200<Rw):bI X (.builtin "repr") (λm H Q=>∃x t,m=[x]/\Has X.K H t x/\(toD t).showable=JZ/\(toD t).hasDict=JY/\(toD t).depth<=64/\(toD t).shown.length<=sizeLine/\Q (.str (toD t).shown) H):=by
 intro g s D H m L Q I r h;obtain⟨x,t,rfl,c,l,n,hp,k,q⟩:=h;obtain⟨u,rfl,d⟩:=cc r;obtain⟨as,p⟩:=Has.reads I c d;have f:∀a,u=.ref a->QK (J4 X.prog X.w) X.A (call (.builtin "repr") [u]) (EP X g D Q) X.xe s:=λa e=>by subst e;exact repr_of_reads' p l (PyData.noDict_hsm n) o (by lia) (λ_ _ e=>e) (λF u tk hk=>⟨.str _,H,I.kept hk,⟨_,rfl⟩,q⟩) k
 cases t with
 |non=>obtain rfl:x=V.non:=c;obtain rfl:u=Value.none:=d;exact PySem.P.repr_of_none ⟨.str _,H,I.tok _,⟨_,rfl⟩,q⟩
 |bl b=>obtain rfl:x=V.bl b:=c;obtain rfl:u=Value.bool b:=d;exact PySem.P.repr_of_bool ⟨.str _,H,I.tok _,⟨_,by cases b<;>rfl⟩,q⟩
 |int i=>obtain rfl:x=V.int i:=c;obtain⟨t,rfl⟩:∃t,u=Value.int i t:=d;exact PySem.P.repr_of_int (QR l) ⟨.str _,H,I.tok _,⟨_,rfl⟩,q⟩
 |str z=>obtain rfl:x=V.str z:=c;obtain⟨t,rfl⟩:∃t,u=Value.str z t:=d;exact PySem.P.repr_of_str ⟨.str _,H,I.tok _,⟨_,rfl⟩,q⟩ k
 |tup v=>obtain⟨a,y,rfl,_,_⟩:=c;exact f a d
 |lst v=>obtain⟨a,y,rfl,_,_⟩:=c;exact f a d
end L3
namespace MR
open PySem PySem.Spec PyProof.Rows L2 L3
mutual
theorem jV:∀t:M.T,toD (th t)=M.datT t
|.non=>rfl
|.bl _=>rfl
|.int _=>rfl
|.str _=>rfl
|.tup ts=>QW PyData.tuple<|j9 ts
|.lst ts=>QW PyData.list<|j9 ts
|.dct _ _=>rfl
|.ins _ _ _=>rfl
|.scr _=>rfl
|.gone=>rfl
theorem j9:∀ts:U M.T,eO (ths ts)=M.datTs ts
|[]=>rfl
|t::ts=>by show toD (th t)::eO (ths ts)=M.datT t::M.datTs ts;rw[jV t,j9 ts]
end
def eT (a:U Str):Y:=(a.map λs=>s.cps.size+2).sum
theorem ef (p q:Str):(p++q).cps.size=p.cps.size+q.cps.size:=Pf ..
theorem v7:∀(d:U Str) (k:Y) (c:Str),M.sOk c=JZ->(∀s∈d,M.sOk s=JZ)->c.cps.size+eT d<=M.LIM->M.sOk (L7 k c d)=JZ/\(L7 k c d).cps.size<=c.cps.size+eT d
|[],_,c,h,_,i=>⟨h,by show c.cps.size<=_;lia⟩
| s::d,k,c,h,f,i=>by
 have hp:eT (s::d)=s.cps.size+2+eT d:=by unfold eT;rw[Ku,NG]
 have g:=f s Ka
 have e:∀z:Str,M.sOk z=JZ->z.cps.size<=2->M.sOk (L7 (k+1) (c++z++s) d)=JZ/\(L7 (k+1) (c++z++s) d).cps.size<=c.cps.size+eT (s::d):=λz l m=>by
  have e1:(c++z).cps.size=c.cps.size+z.cps.size:=ef _ _;have e2:(c++z++s).cps.size=c.cps.size+z.cps.size+s.cps.size:=by rw[ef,e1]
  obtain⟨a,b⟩:=v7 d (k+1) (c++z++s) (cw (cw h l<|by lia) g<|by lia) (λx hx=>f x<|Ke _ hx) (by lia);exact⟨a,by lia⟩
 show M.sOk (L7 (k+1) (c++(if k>0 then ", " else "":QZ)++s) d)=JZ/\(L7 (k+1) (c++(if k>0 then ", " else "":QZ)++s) d).cps.size<=_;split
 .exact e (Str.ofString ", ") (ba _<|by decide) (by decide)
 .exact e (Str.ofString "") (ba _<|by decide) (by decide)
theorem og:∀(c:U Str),(∀s∈c,M.sOk s=JZ)->eT c<=M.LIM->M.sOk (Str.join ", " c)=JZ/\(Str.join ", " c).cps.size<=eT c
|[],_,_=>⟨ba ""<|by decide,Kx _⟩
|[s],d,f=>⟨d s Ka,by show s.cps.size<=(s.cps.size+2)+0;lia⟩
|s::u::c,d,f=>by
 have hp:eT (s::u::c)=s.cps.size+2+eT (u::c):=by unfold eT;rw[Ku,NG]
 obtain⟨a,b⟩:=og (u::c) (λx hx=>d x<|Ke _ hx) (by lia);have e:Str.join ", " (s::u::c)=s++Str.ofString ", "++Str.join ", " (u::c):=rfl;have g:(Str.ofString ", ").cps.size=2:=by decide
 have e1:(s++Str.ofString ", ").cps.size=s.cps.size+2:=by rw[ef,g]
 rw[e];refine⟨cw (cw (d s Ka) (ba _<|by decide)<|by lia) a<|by lia,?_⟩;rw[ef,e1];lia
mutual
theorem l6:∀t:M.T,M.rOk t=JZ->M.szR t<=M.LIM->(M.datT t).showable=JZ/\M.sOk (M.datT t).shown=JZ/\(M.datT t).shown.cps.size<=M.szR t
|.non,_,_=>⟨rfl,ba _<|by decide,by decide⟩
|.bl b,_,_=>⟨rfl,by cases b<;>exact ba _<|by decide,by cases b<;>decide⟩
|.int i,h,_=>by have hb:i.natAbs<10000000000000000000:=QR h;have hl:=vR hb;have h2:=NY (a:=i) (k:=19) (by decide) hb;exact⟨QE<|vb hb,ba _<|by lia,Ky hl<|show 20<=100 by decide⟩
|.str x,h,_=>by have h:(decide ((NJ x).length<=100)&&M.sOk (NJ x))=true:=h;rw[Kt] at h;exact⟨rfl,h.2,QR h.1⟩
| .tup ts,h,hl=>by
 have hl':M.szRs ts+4<=M.LIM:=hl;obtain⟨a,b,c⟩:=eZ ts h (by lia);obtain⟨d,e⟩:=og _ b (by lia);refine⟨a,?_⟩;show M.sOk (("(":Str)++Str.join ", " (PyData.shownAll<|M.datTs ts)++(if(PyData.shownAll<|M.datTs ts).length==1 then ",)" else ")":QZ))=JZ/\(("(":Str)++Str.join ", " (PyData.shownAll<|M.datTs ts)++(if(PyData.shownAll<|M.datTs ts).length==1 then ",)" else ")":QZ)).cps.size<=M.szRs ts+4;have z1:(Str.ofString "(").cps.size=1:=by decide
 have e1:(Str.ofString "("++Str.join ", " (PyData.shownAll (M.datTs ts))).cps.size=1+(Str.join ", " (PyData.shownAll (M.datTs ts))).cps.size:=by rw[ef,z1]
 have key:∀z:Str,M.sOk z=JZ->z.cps.size<=2->M.sOk (Str.ofString "("++Str.join ", " (PyData.shownAll (M.datTs ts))++z)=JZ/\(Str.ofString "("++Str.join ", " (PyData.shownAll (M.datTs ts))++z).cps.size<=M.szRs ts+4:=λz hz hz2=>
  ⟨cw (cw (ba _<|by decide) d<|by lia) hz<|by lia,by rw[ef,e1];lia⟩
 split
 .exact key (Str.ofString ",)") (ba _<|by decide) (by decide)
 .exact key (Str.ofString ")") (ba _<|by decide) (by decide)
|.lst ts,h,hl=>by
 have hl':M.szRs ts+4<=M.LIM:=hl;obtain⟨a,b,c⟩:=eZ ts h (by lia);have z1:(Str.ofString "[").cps.size=1:=by decide
 have z2:(Str.ofString "]").cps.size=1:=by decide
 obtain⟨d,e⟩:=v7 _ 0 (Str.ofString "[") (ba _<|by decide) b (by lia);refine⟨a,?_⟩;show M.sOk (L7 0 (Str.ofString "[") (PyData.shownAll<|M.datTs ts)++Str.ofString "]")=JZ/\(L7 0 (Str.ofString "[") (PyData.shownAll<|M.datTs ts)++Str.ofString "]").cps.size<=M.szRs ts+4;exact⟨cw d (ba _<|by decide)<|by lia,by rw[ef];lia⟩
|.dct _ _,h,_=>by cases h
|.ins _ _ _,h,_=>by cases h
|.scr _,h,_=>by cases h
|.gone,h,_=>by cases h
theorem eZ:∀ts:U M.T,M.rOks ts=JZ->M.szRs ts<=M.LIM->PyData.showableAll (M.datTs ts)=JZ/\(∀s∈PyData.shownAll (M.datTs ts),M.sOk s=JZ)/\eT (PyData.shownAll<|M.datTs ts)<=M.szRs ts
|[],_,_=>⟨rfl,(λ_ h=>nomatch h),J9 _⟩
| t::ts,h,hl=>by
 have hl':M.szR t+2+M.szRs ts<=M.LIM:=hl;have h':(M.rOk t&&M.rOks ts)=true:=h;rw[Kt] at h';obtain⟨a,b,c⟩:=l6 t h'.1 (by lia);obtain⟨d,e,f⟩:=eZ ts h'.2 (by lia);refine⟨?_,λs hs=>?_,?_⟩
 .show ((M.datT t).showable&&PyData.showableAll (M.datTs ts))=JZ;rw[a,d];rfl
 .have hs:s∈(M.datT t).shown::PyData.shownAll (M.datTs ts):=hs;rcases Kg.mp hs with rfl|hs
  .exact b
  .exact e s hs
 .show eT ((M.datT t).shown::PyData.shownAll (M.datTs ts))<=M.szR t+2+M.szRs ts;unfold eT at f ⊢;rw[Ku,NG];lia
end
section
variable {X:Cx}{sf sg:Y->j Y}{C:M.Call}{pos p p2 p3:Pos}{ea eb ec:QQ}{a b c:M.E}{h:QJ}{n:Y}{io:U Y}{K:J2}
theorem q5:Loc K 1 .repr h λi H Q=>∃x t,i=[x]/\Has K H t x/\(toD t).showable=JZ/\(toD t).hasDict=JY/\(toD t).depth<=64/\(toD t).shown.length<=sizeLine/\Q (.str (toD t).shown) H:=by
 intro F w i Z H G Q s e r I L k
 match F,s with
 | [(m,a)],_ =>
  obtain⟨x,rfl,y⟩:=a0 rfl r;have e2:(if(decide (M.dp a<=64)&&M.rOk a&&M.fits (M.szR a))=JZ then O ((.d,.str (M.datT a).shown):M.W) else J)=O w:=e;split at e2
  .rename_i g;cases e2;rw[Kt,Kt,QM] at g;obtain⟨⟨l,o⟩,f⟩:=g;have f:M.szR a<=M.LIM:=QR f;obtain⟨u,v,o3⟩:=jU (n:=64) l (J9 _) y;obtain⟨z,A,D⟩:=l6 a o f;refine⟨x,th a,rfl,u,?_,PyData.hasDict_of_canLay _ v,o3,?_,?_⟩
   .rw[jV];exact z
   .rw[jV];exact br<|Ky D f
   .rw[jV];exact fT k A
  .cases e2
theorem AU (hr:Room n X.A)(hm:X.mg "repr"=J)(f:Gl X "repr":=by rfl)(ha:SE X sf C ea a)(e:J5 [ea] X.env=(JY,QY ea X.env)::J5 [] X.env:=by rfl)(d:(Kw pos<|J5 [] X.env).any (·.1)=false:=by rfl):SE X sf C (.Call (.Name "repr" p) [ea] [] pos) (.op .repr h [a]):=
 aj (bb (mi hr.gu (by have:=hr.un;lia)) f hm (by rfl) (slc ha sl0 e) (by decide) (by decide) e d) (cf q5 rfl)
end
end MR


namespace MR
open L2 L3 M
open PySem (Addr Str sizeLine)
section
variable {K:J2}{Wx:L2.St->VK}{sl:Cf}{sf sg:Y->j Y}{C:Call}{σ σ2:L2.St}{Z Z' Z1:Fp}{H H' H1:Hp}{Fs Fs' Fs1:Fps}{η η' η1 ηb:Env}{G G' G1 R F F':Fp}{tg is vs ls io:U Y}{pv val:Y->j V}{D:bK}
theorem pV {u l w r:W}(h:eK u l w=O r):∃m c vs n k,u=(m,.dct c vs)/\l=(n,kT k)/\m≠.s/\c.length<LIM/\r=(.o .s,.dct (aR k w.2 c vs).1 (aR k w.2 c vs).2):=by
 obtain⟨m,t⟩:=u;obtain⟨n,k⟩:=l;obtain⟨v,x⟩:=w
 have g:∀c vs,((keyT k).bind λq=>if(decide (c.length<LIM))=JZ then O ((.o .s,.dct (aR q x c vs).1 (aR q x c vs).2):W) else J)=O r->∃f,(n,k)=(n,kT f)/\c.length<LIM/\r=(.o .s,.dct (aR f x c vs).1 (aR f x c vs).2):=λc vs h=>by
  cases e:keyT k with
  |none=>rw[e] at h;cases h
  | some q =>
   rw[e] at h;have i:(if(decide (c.length<LIM))=JZ then O ((.o .s,.dct (aR q x c vs).1 (aR q x c vs).2):W) else J)=O r:=h;split at i
   .rename_i p;cases i;exact⟨q,by rw[lQ e],QR p,rfl⟩
   .cases i
 cases m<;>first|(cases h;done)|(cases t<;>try (cases h;done))
 .obtain ⟨f,a,b,d⟩:=g _ _ h;exact⟨.d,_,_,n,f,rfl,a,by simp,b,d⟩
 .obtain ⟨f,a,b,d⟩:=g _ _ h;exact⟨.o _,_,_,n,f,rfl,a,by simp,b,d⟩
theorem i4 {k:Int ⊕ Str}{t:T}{y:V}(g:Rep K Z H .s t y no):∀(d:U<|Int ⊕ Str) (vs:U T) (c:U V),vs.length=d.length->RepL K Z H .s vs c (λ_=>QX)->RepL K Z H .s (aR k t d vs).2 (ny k y d c) (λ_=>QX)
|[],[],c,_,r=>by cases r;exact⟨y,[],λ_=>QX,λ_=>QX,rfl,λ_ z=>z,λ_ z=>z,λ_ z=>z.elim,g,rfl⟩
|[],_::_,_,e,_=>by cases e
|_::_,[],_,e,_=>by cases e
| z::i,v::vs,c,e,⟨x,f,G1,l,m,n,h,o,p,q⟩=>by
 subst m;unfold aR ny;by_cases b:z=k
 .rw [QG b,QG b];exact⟨y,f,λ_=>QX,l,rfl,λ_ z=>z,h,λ_ z=>z.elim,g,q⟩
 .rw [QH b,QH b];exact⟨x,ny k y i f,G1,λ_=>QX,rfl,n,λ_ z=>z,λa _ z=>z,p,i4 g i vs f (Lw e)<|q.mono h⟩
theorem wD {x:M.X}{i d:Y}{k e:E}(hs:sf i=O d)(D:bK)(σ:L2.St)(H:Hp)(h:wS K Wx sf io C (.setS x i k e) D σ H):
  wE K sf C e σ H λy H1=>ku d σ H1 λo H1=>wE K sf C k σ H1 λz H2=>∃a P q,o=.ref a/\z=kV q/\H2 a=O (.dK P)/\P.length<sizeLine/\D.nx σ (upd H2 a<|.dK<|dR P q y):=by
 obtain⟨pv,Z,Fs,η,N,A,f⟩:=h;obtain⟨⟨w,η1⟩,h2,h3⟩:=bz<|show Fin K Wx ⟨sf,pv⟩ Z H (tot Fs) D (Fl.of η (evX C x e η)<|oY i (evX C x k) η) from f;obtain⟨⟨Q,l⟩,h6,h7⟩:=bz<|show Fin K Wx ⟨sf,pv⟩ Z H (tot Fs) D (Fl.of η (evX C x k η1)<|nr i w) from h3;obtain⟨η3,v,h5⟩:=eN<|show Fin K Wx ⟨sf,pv⟩ Z H (tot Fs) D (nxO l<|((rd l i).bind λu=>eK u Q w).map λu=>M.put l i u) from h7;refine lA (sl:=⟨sf,pv⟩) A h2 λy Z' H' Fs' G c r s=>?_;cases e1:rd l i with
 |none=>rw[e1] at v;cases v
 | some u1 =>
  rw[e1] at v;cases e2:eK u1 Q w with
  |none=>rw[show(O u1).bind (λu=>eK u Q w)=eK u1 Q w from rfl,e2] at v;cases v
  | some r1 =>
   rw[show(O u1).bind (λu=>eK u Q w)=eK u1 Q w from rfl,e2] at v;cases v;obtain⟨m,t,vs,n,L,rfl,rfl,hm,hlen,rfl⟩:=pV e2;have n1:rd η1 i≠none:=λz=>by rw[rR h6 i z] at e1;cases e1
   cases e3:rd η1 i with
   |none=>exact QL e3 n1
   | some u3 =>
    obtain⟨v3,r3,l3,p3⟩:=c.env i u3.1 u3.2 e3;refine⟨v3,l3 d hs,lA (sl:=⟨sf,pv⟩) c.bare h6 λz Z2 H2 Fs2 G2 B2 rz s2=>?_⟩;obtain⟨B3,s3,d3⟩:=c.frame B2 s2;have r':=r.frame c.gd.own s2 c.dis;have B4:=B3.mono (G':=G) λ_ z=>.inl z;obtain⟨v4,r4,l4,p4⟩:=B4.env i m _ e1;have hv:v3=v4:=by have e5:=l3 d hs;have e6:=l4 d hs;rw[e5] at e6;cases e6;rfl
    subst hv;obtain⟨a,xs,rfl,hl,hf,hx,I,g,p⟩:=wR hm r4;have hxl:xs.length=t.length:=by rw[p.length,g]
    obtain⟨q1,q2⟩:=lB L w.2 t vs g;have rz':z=kV L/\kOk L=true:=vi rz;have nGa:¬G a:=λq=>B4.dis a q ⟨i,hf⟩;have pS:RepL K (λb=>Z2 b\/((Fs2 i b\/G b)/\b≠a/\¬no b/\¬no b)) H2 .s vs xs (λ_=>QX):=by have:=RepL.sh p;exact(this.zmono λb h=>h.elim .inl λz=>z.elim).mono λ_ z=>z
    have rS:Rep K (λb=>Z2 b\/((Fs2 i b\/G b)/\b≠a/\¬no b/\¬no b)) H2 .s w.2 y no:=(Rep.sh r').zmono λb h=>h.imp id λq=>⟨.inr q,λe=>nGa<|e ▸ q,λz=>z,λz=>z⟩;refine⟨a,mkD t xs,L,rfl,rz'.1,hx,?_,?_⟩
    .show (t.zip xs).length<_;rw[List.length_zip,hxl,Nat.min_self];exact KL hlen<|br<|J9 _
    .rw [pC L w.2 y t vs xs g hxl I.1];exact xR (K:=K) (m':=.o .s) (G':=no) (R:=no) (by simp) B4 e1 hf (λk hk=>by rw[show sf i=O k from hk] at hs;cases hs;exact l3 _ hk) (by lia) ⟨gL L w.2 t vs g I.1,λz hz=>((gJ L w.2 t vs g z).mp hz).elim (λe=>e ▸ rz'.2)<|I.2 z⟩ q1 p4 (λ_ z=>z.elim) (λ_ z=>z.elim) (λ_ z=>z.elim) (i4 rS t vs xs g pS) λZ5 Fs5 B5 s5 _=>h5 σ Z5 _ Fs5 B5<|(s.trans<|s3.mono (λ_ z=>z) λb h=>h.imp id .inl).trans<|s5.mono (λ_ z=>z) λ_ z=>.inl z
theorem gA {m m':Md}{t:T}{v:V}{G G' Z':Fp}(a:t.leaf=JZ)(r:Rep K Z H m t v G):Rep K Z' H m' t v G':=r.leaf (λ_ _ _ e=>e) a
theorem qb {u w:W}{r:W×W}(h:iU u w=O r):∃m g n f t,u=(m,.lst g)/\m≠.s/\w=(n,.int (f:Y))/\f<1000/\leaves g=JZ/\g[f]?=O t/\r=((.d,t),(m,.lst<|g.eraseIdx f)):=by
 obtain⟨m,t⟩:=u;obtain⟨n,x⟩:=w
 have k:∀g (i:Int),(if(decide (0<=i)&&decide (i<1000)&&leaves g)=JZ then(g[i.toNat]?).map (λt=>(((.d,t),(m,.lst (g.eraseIdx i.toNat))):W×W)) else J)=O r->∃(f:Y) (t:T),i=(f:Int)/\f<1000/\leaves g=JZ/\g[f]?=O t/\r=((.d,t),(m,.lst (g.eraseIdx f))):=λg i h=>by
  split at h
  .rename_i l;rw[Kt,Kt,QM,QM] at l;cases e:g[i.toNat]? with
   |none=>rw[e] at h;cases h
   |some t=>rw[e] at h;cases h;exact⟨i.toNat,t,by lia,by lia,l.2,e,rfl⟩
  .cases h
 cases m<;>first|(cases h;done)|(cases t<;>first|(cases h;done)|(cases x<;>try (cases h;done)))
 .obtain ⟨f,t,rfl,a,b,c,d⟩:=k _ _ h;exact⟨.d,_,n,f,t,rfl,by simp,rfl,a,b,c,d⟩
 .obtain ⟨f,t,rfl,a,b,c,d⟩:=k _ _ h;exact⟨.o _,_,n,f,t,rfl,by simp,rfl,a,b,c,d⟩
theorem fD {m m':Md}{Z':Fp}:∀{c:U T} {f:U V} {G G':Fp} (a:Y),leaves c=JZ->RepL K Z H m c f G->RepL K Z' H m' (c.eraseIdx a) (f.eraseIdx a) G'
|[],_,_,_,a,_,h=>by rw[show _=[] from h];rfl
|t::c,_,G,G',0,d,⟨x,r,G1,g,e,_,_,_,p,q⟩=>by subst e;have b:(t.leaf&&leaves c)=true:=d;rw[Kt] at b;exact RepL.leaves (λ_ _ _ e=>e) b.2 q
|t::c,_,G,G',a+1,d,⟨x,r,G1,g,e,_,_,_,p,q⟩=>by subst e;have b:(t.leaf&&leaves c)=true:=d;rw[Kt] at b;exact⟨x,r.eraseIdx a,λ_=>QX,G',rfl,λ_ z=>z.elim,λ_ z=>z,λ_ z=>z.elim,gA b.1 p,fD (G':=G') a b.2 q⟩
theorem xM {i f:Y}{e:E}(I:sf i=O f)(σ:L2.St)(H:Hp)(Q:VK)(h:wE K sf C (.popN i e) σ H Q):
  ∃a g,σ[f]?=O (O<|.ref a)/\H a=O (.lst g)/\wE K sf C e σ H λz H1=>∃g n y,z=.int ((n:Y):Int)/\n<1000/\H1 a=O (.lst g)/\g[n]?=O y/\Q y (upd H1 a<|.lst<|g.eraseIdx n):=by
 obtain⟨pv,Z,Fs,η,w,η',A,ev,k⟩:=h;obtain⟨_,h0,h1⟩:=aa<|show(ib<|rd η i).bind (f6 (evE C e) η<|gj i)=_ from ev;obtain⟨m0,t0,P⟩:=la h0;obtain⟨a,xs0,hj,ha⟩:=A.listAt I P;obtain⟨⟨u,η1⟩,h2,h3⟩:=aa<|show(evE C e η).bind (gj i)=_ from h1;obtain⟨r,h4,h5⟩:=aa<|show(ofO<|(rd η1 i).bind λw=>iU w u).bind (λr=>.ok (r.1,M.put η1 i r.2))=_ from h3;cases h5;have x:=cZ h4;refine⟨a,xs0,hj,ha,pv,Z,Fs,η,u,η1,A,h2,λz Z' H' Fs' G c rz s=>?_⟩;cases e1:rd η1 i with
 |none=>rw[e1] at x;cases x
 |some u1=>rw[e1] at x;obtain⟨m,ts,n,q,t,rfl,hm,rfl,hq,l,ht,rfl⟩:=qb<|show iU u1 u=O r from x;obtain⟨g,hl,hf,hx,p,hpv⟩:=c.ourList I hm hj e1;obtain⟨y,hy,ry⟩:=RepL.get p ht;have v:t.leaf=true:=KI.mp l t<|LX ht;refine⟨g,q,y,rz,hq,hx,hy,?_⟩;have pl:RepL K (λb=>Z' b\/((Fs' i b\/G b)/\b≠a/\¬no b)) H' m.kid (ts.eraseIdx q) (g.eraseIdx q) no:=fD q l p;have hle:(g.eraseIdx q).length<=LIM:=Ky (List.length_eraseIdx_le ..) hl;refine change (K:=K) (m':=m) (G':=no) (Q:=λN=>Q y N) hm c e1 hf (λk hk=>by rw[show sf i=O k from hk] at I;cases I;exact hj) hle hpv (λ_ z=>z.elim) (ts':=ts.eraseIdx q) pl λZ2 L B2 s2=>?_;exact k y Z2 _ L no B2 (by have:=gA (m':=.d) (G':=no) (Z':=Z2) v ry;exact this.leaf (λb o u e=>by rw[ae (λz=>by rw[z,hx] at e;cases e)];exact e) v)<|(s.trans s2).mono (λ_ z=>z) λb h=>h.elim id λz=>z.elim
end
end MR
namespace MR
open PySem PySem.Spec PyProof.Rows L2 L3
section
variable {X:Cx}{sf sg:Y->j Y}{C:M.Call}{pos p p2 p3:Pos}{ea eb ec:QQ}{a b c:M.E}{h:QJ}{n:Y}{io:U Y}{K:J2}
theorem EW (e:Y)(hr:Room n X.A){i:Y}{x:Str}{xx:M.X}{px Q:Pos}(ha:SE X sf C ea a)(hb:SE X sf C eb b)(hs:sf i=O e:=by rfl)(hN:X.N[e]?=O x:=by rfl)(hv:Vis X.env.scope x:=by first|exact Ks rfl|exact Kh (Ks rfl)|exact Kh<|Kh rfl)(hd:(x==("__debug__":Str))=false:=by decide)(t:(x==("__classdict__":Str))=false:=by decide)
  (u:Lg ea (O<|.Subscript (.Name x px) eb Q) pos.line X.env=pure false:=by rfl):
  SS X sf io C (.Assign [.Subscript (.Name x px) eb Q] ea pos) (.setS xx i b a):=
 cQ (xN (AZ hr) (bN hN hv hd t) hb ha u) λD σ H hw=>by obtain⟨pv,Z,Fs,η,w,I,A,ev,k⟩:=wD hs D σ H hw;refine⟨pv,Z,Fs,η,w,I,A,ev,λv Z' H' f G d r s=>?_⟩;obtain⟨o,ho,F,Z2,g,L,w2,P,A2,m,k2⟩:=k v Z' H' f G d r s;refine⟨o,ho,F,Z2,g,L,w2,P,A2,m,λz Z3 H3 l G3 B3 r3 s3=>?_⟩;obtain⟨q,y,kk,rfl,rfl,g1,g2,g3⟩:=k2 z Z3 H3 l G3 B3 r3 s3;exact⟨q,_,rfl,.inl ⟨y,kk,g1,rfl,g2,rfl⟩,g3⟩
theorem HR (e:Y){i:Y}{x:Str}{l f z:Pos}(ha:SE X sf C ea a)(hs:sf i=O e:=by rfl)(hN:X.N[e]?=O x:=by rfl)(hv:Vis X.env.scope x:=by first|exact Ks rfl|exact Kh (Ks rfl)|exact Kh<|Kh rfl)(hd:(x==("__debug__":Str))=false:=by decide)(I:(x==("__classdict__":Str))=false:=by decide)
  (m:Ng (.Name x z) "pop" X.env (QY (.Name x z) X.env)=QY (.Name x z) X.env:=by rfl)
  (t:((Kw f<|J5 [ea] X.env).all (λx=>!x.1)&&(backToKw f<|Np [] X.env).all (λx=>x.1.isSome)&&decide ([ea].length+([]:U LZ).length+(if([]:U LZ).isEmpty then 0 else 1)<30))=true:=by rfl)
  (o:(l.endLine==f.line)=true:=by rfl) (u:J5 [ea] X.env=(JY,QY (ea) X.env)::J5 [] X.env:=by rfl) (g:(Kw f<|J5 [] X.env).any (·.1)=false:=by rfl):
  SE X sf C (.Call (.Attribute (.Name x z) "pop" l) [ea] [] f) (.popN i a):=
 aj (wm OQ PySem.F.slot_list_pop PySem.F.type_list_pop qV (bN hN hv hd I) (bw ha cR u) m t o u g) λσ H Q hw=>by obtain⟨p,xs,hj,hp,pv,Z,Fs,η,w,M,A,ev,k⟩:=xM hs σ H Q hw;refine⟨.ref p,hj,.inl ⟨rfl,xs,.inl<|.inl hp⟩,pv,Z,Fs,η,w,M,A,ev,λv Z' H' D G d r s=>?_⟩;obtain⟨ys,n,y,rfl,hn,h1,P,h3⟩:=k v Z' H' D G d r s;have L:n<ys.length:=(Le.mp P).1;exact⟨p,ys,(n:Int),n,y,rfl,rfl,h1,by lia,by lia,by unfold seqIndex?;rw[QH (by lia:¬((n:Int)<0))];simp[L],P,h3⟩
theorem ma {Z:Fp}{H:Hp}{G:Fp}{q:Int ⊕ Str}{t:M.T}:∀{d:U<|Int ⊕ Str} {g:U M.T} {l:U V},RepL K Z H .s g l G->M.lookD q d g=O t->∃x,fP (mkD d l) q=O x/\Rep K Z H .s t x no
|[],[],_,_,e=>by cases e
|[],_::_,_,_,e=>by cases e
|_::_,[],_,_,e=>by cases e
| k::d,v::g,l,⟨x,r,z,A,m,_,D,_,p,u⟩,e=>by
 subst m;have f:(if k=q then O v else M.lookD q d g)=O t:=e;by_cases hk:k=q
 .rw [QG hk] at f;cases f;refine⟨x,?_,p.sany⟩;show(((k,x)::mkD d r).find? λi=>decide (i.1=q)).map (·.2)=O x;rw[List.find?_cons_of_pos<|by simpa using hk];rfl
 .rw [QH hk] at f;obtain⟨y,o,w⟩:=ma u f;refine⟨y,?_,w⟩;show(((k,x)::mkD d r).find? λi=>decide (i.1=q)).map (·.2)=O y;rw[List.find?_cons_of_neg<|by simpa using hk];exact o
theorem yh:Loc K 2 .ixD h λu H Q=>∀x y,u=[x,y]->∃a v,x=.ref a/\DGet H a y (O v)/\Q v H:=by
 intro ws w u Z H G Q hn e r P za k x y hx;subst hx;obtain⟨⟨m,a⟩,⟨n,b⟩,rfl⟩:=dU r.length.symm;obtain⟨G1,G2,w1,w2,d,r1,r2⟩:=bY r;obtain⟨f,g,rfl,rfl⟩:∃f g,a=.dct f g/\m=.s:=by cases m<;>first|(cases e;done)|(cases a<;>first|exact⟨_,_,rfl,rfl⟩|(cases e;done))
 have i:((M.keyT b).bind λq=>(M.lookD q f g).map λt=>((.s,t):M.W))=O w:=e;cases e1:M.keyT b with
 |none=>rw[e1] at i;cases i
 | some q =>
  rw[e1] at i;have e2:((M.lookD q f g).map λt=>((.s,t):M.W))=O w:=i;cases e3:M.lookD q f g with
  |none=>rw[e3] at e2;cases e2
  |some t=>rw[e3] at e2;cases e2;obtain⟨ad,ys,F,hl,A,D,L,pr⟩:=r1;have z:=lQ e1;subst z;obtain⟨N,_⟩:=vi r2;obtain⟨v,I,rv⟩:=ma pr e3;have l:x=.ref ad:=F;have o:y=kV q:=N;subst l o;refine⟨ad,v,rfl,?_,eQ P k<|rv.sany⟩;rw[<- I];exact DGet.k A.2
theorem CC (f:Room n X.A)(d:SE X sf C ea a)(e:SE X sf C eb b)(g:Ba eb:=by intro _ _;rfl):SE X sf C (.Subscript ea eb pos) (.op .ixD h [a,b]):=aj (Al (AZ f) d e g)<|aI yh
end
end MR

namespace L3
open PySem PySem.Spec PyProof.Rows L2
theorem qF:MS (.type "list_reverseiterator") "__len__"=pure none:=by rw[Nj,Nq];kernel_rfl
theorem wg:MS (.type "list_reverseiterator") "__length_hint__"=pure (O<|.builtin "list_reverseiterator.__length_hint__"):=by rw[Nj,Nq];kernel_rfl
section
variable {prog:QN}{w:J8}{A:Kq}{E:B->J0->Prop}{s:J0}{it l S:QF}{items:QT B}
theorem xu {Q:B->J0->Prop}(hh:A.handled=J)(u:l≠it)(hn:items.size<=sizeLine)(a:s.heap.IsRevIter it l<|(items.size:Int)-1)(D:s.heap.IsList l items)
  (P:∀h' tk f c,(∀b o,b≠it->s.heap.get? b=O o->h'.get? b=O o)->h'.get? s.heap.objs.size=O {cls:=.type "list",dict:=J,data:=.seq f c,slots:=#[]}->ItemsOf (λi v=>items[items.size-1-i]?=O v) f items.size->Q (.ref s.heap.objs.size) {s with heap:=h',toks:=tk}):
  QK (J4 prog w) A (call (.type "list") [.ref it]) Q E s:=by
 have d:∀h:QS,(∀o,s.heap.get? it=O o->h.get? it=O o)->({s with heap:=h}:J0).TypeIs (.ref it) "list_reverseiterator":=λh k=>(a.at λo e=>k o e:h.IsRevIter it l<|(items.size:Int)-1).typeIs;have r:s.heap.objs.size ∉ [it,l]:=λm=>by have ⟨_,e1,_⟩:=a;have ⟨_,e2,_⟩:=D;rw[Kg,Kg] at m;exact m.elim (λz=>LF (Heap.lt_size e1) z) λm=>m.elim (λz=>LF (Heap.lt_size e2) z) λm=>nomatch m
 refine B6 (T:="list_reverseiterator") (room:=JY) (d _ λ_ e=>e) (by decide) (by decide) (λh M L k x=>wpAny_pyIter_revIter (a.at λo e=>k o e) x) (λh M L k x=>?_) λh c k Z=>?_
 .refine J1 (Nl (d h k) qF (J1 (Nl (d h k) wg ?_)));have I:splitId "list_reverseiterator.__length_hint__"=O ("list_reverseiterator","__length_hint__"):=by decide +kernel
  obtain⟨H,G⟩:∃H:QZ,H="list_reverseiterator.__length_hint__":=⟨_,rfl⟩;rw[<- G] at I ⊢
  wp_delta
  rw[I,G];exact J1<|Nt (b:=JZ) (d h k) (by rw[Ni];kernel_rfl)<|J7 x
 .refine codeAny_extend_loopS (Walks.listRev (prog:=prog) (w:=w) (A:=A.in1.in1) hh it l u items).toS hn _ r .none items.size 0 _ #[] c rfl (Kx _) ⟨Kx _,?_,D.at fun o e=>k _ o e⟩ Z (ItemsOf.nil _) fun y g N F t n=>⟨rfl,?_⟩
  .have:=a.at (h':=h) fun o e=>k _ o e;simpa using this
  .have p:y={ s with heap:=y.heap,toks:=y.toks }:=(Moved.eq_with F).trans rfl;rw[p];refine P _ _ g N (λb o hb e=>F.heap b o (λm=>?_)<|k b o e) t n;rw[Kg,Kg] at m;exact m.elim (λz=>Km (Heap.lt_size e) z) λm=>m.elim hb λm=>nomatch m
end
section
variable {X:Cx}
def HM (K:J2):U V->Hp->VK->Prop:=λc H Q=>∃a b,c=[.ref a]/\SqL K H a b/\b.length<=sizeLine/\∀p,H p=J->Q (.ref p) (upd H p<|.lst b.reverse)
def Hf (K:J2)(b:TA):TE:=λd H Q=>b d H λc a=>HM K c a Q
theorem CZ {b:U B}{c:QT B}(h:ItemsOf (λi v=>b.toArray[b.toArray.size-1-i]?=O v) c b.toArray.size):c.toList=b.reverse:=by
 obtain⟨f,k⟩:=h;have l:c.toList.length=b.reverse.length:=by rw[KD,f,MG,Ko]
 refine OE λa=>?_;by_cases g:a<b.length
 .have d:a<c.size:=by rw [f,Ko]; exact g
  have e:=k a c[a] (MJ d);rw[Ko] at e;have e2:b[b.length-1-a]?=O c[a]:=by simpa using e
  rw[List.getElem?_reverse g,e2];simp[d]
 .rw[Lu<|by rw[l,MG];lia,Lu<|by rw[MG];lia]
theorem zG {a:QQ}{N:TA}{p A pos f:Pos}(hc:X.calm=JZ)(v:Gl X "list")(x:X.mg "list"=J)(hg:Gl X "reversed")(hm:X.mg "reversed"=J)(ha:PA X [a] N)
  (hs:J5 [a] X.env=(JY,QY a X.env)::J5 [] X.env:=by rfl)
  (F:J5 [.Call (.Name "reversed" A) [a] [] f] X.env=(JY,QY (.Call (.Name "reversed" A) [a] [] f) X.env)::J5 [] X.env:=by rfl):
  PE X (.Call (.Name "list" p) [.Call (.Name "reversed" A) [a] [] f] [] pos) (Hf X.K N):=by
 intro t s σ H Q I h;refine MB (cU I v x Ma ?_ (by decide)<|by decide);refine MO ?_ F rfl;rw[F];refine Calls.spliced_cons ?_;refine Call_<|cU I hg hm QB<|MO (thn (ha f t s σ H _ I h) λus g ⟨vs,H1,I1,r1,q1⟩=>?_) hs rfl;obtain⟨ad,Z,rfl,y,m,q⟩:=q1;obtain⟨u,rfl,ru⟩:=cc r1;obtain rfl:u=Value.ref ad:=ru;obtain⟨d,M,⟨o,n,D,h2,h3,h4⟩,hz⟩:=I1.list y;have G:g.heap.IsList ad d.toArray:=⟨o,D,h2,n,h4⟩;refine call_reversed_list G<|Calls.spliced_nil ?_;have lt:ad<g.heap.objs.size:=Heap.lt_size D;have L:∀b r,g.heap.get? b=O r->(g.heap.push (revObj ad ((d.toArray.size:Int)-1))).get? b=O r:=λb r e=>Heap.get?_push_of_some _ e;have w:(g.heap.push (revObj ad ((d.toArray.size:Int)-1))).IsRevIter g.heap.objs.size ad ((d.toArray.size:Int)-1):=⟨_,Heap.get?_push_size _ rfl,rfl,rfl⟩;have len:=M.length;refine xu (s:={g with heap:=g.heap.push<|revObj ad<|(d.toArray.size:Int)-1}) (I.ok.hd hc) (Km lt) (by rw[Ko,<- len];exact m) w (G.at λr e=>L _ r e) λh' tk i c hk hS k=>?_;have z:(g.heap.push (revObj ad ((d.toArray.size:Int)-1))).objs.size=g.heap.objs.size+1:=by simp[Heap.push]
 have l:g.heap.objs.size<=(g.heap.push (revObj ad ((d.toArray.size:Int)-1))).objs.size:=by rw[z];exact La _
 have hv:Vals Z.reverse i.toList:=by rw[CZ k];exact M.reverse
 refine⟨.ref _,upd H1 _<|.lst Z.reverse,I1.laid (t':=tk) (λb P e=>hk b P (Km<|Heap.lt_size e)<|L b P e) l ⟨by rw[MG];exact m,i.toList,c,hv,by rw[NO];exact hS⟩,rfl,q _<|I1.hok.fresh l⟩
end
end L3
namespace MR
open PySem PySem.Spec PyProof.Rows L2 L3
section
variable {X:Cx}{sf sg:Y->j Y}{C:M.Call}{pos p p2 p3:Pos}{ea eb ec:QQ}{a b c:M.E}{h:QJ}{n:Y}{io:U Y}{K:J2}
theorem kq {Z:Fp}{H:Hp}:∀{d:U M.T} {f:U V} {G:Fp},RepL K Z H .s d f G->RepL K Z H .s d.reverse f.reverse no
|[],_,_,r=>by rw[show _=[] from r];rfl
|t::d,_,_,⟨x,r,G1,G2,e,_,_,_,p,q⟩=>by subst e;rw[NT,NT];exact RepL.append (G1:=no) (G2:=no) (λ_ z=>z) (λ_ z=>z) (λ_ z=>z.elim) (kq q)<|RepL.one p.sany
theorem uE:Loc K 1 .revL h (HM K):=by
 intro F w g Z H G Q t e r y I k
 match F,t with
 | [(m,a)],_ =>
  obtain⟨x,rfl,A⟩:=a0 rfl r;cases a with
  | lst D =>
   cases m with
   |s=>obtain⟨a,g,hx,v,f,p⟩:=bg A;have i:O ((.o .s,.lst D.reverse):M.W)=O w:=e;cases i;refine⟨a,g,by rw[hx],.inl<|.inl v,br f,λq u=>?_⟩;exact bh (m:=.o .s) (G':=no) y I (λ_ z=>z.elim) (by rw[MG];exact f) ((kq p).zmono λb l=>.inl l) (by simp) k u
   |d=>cases e
   |o m=>cases e
  |_=>cases m<;>cases e
theorem Hw (e:X.mg "list"=J)(m:X.mg "reversed"=J)(g:SE X sf C ea a)(d:Gl X "list":=by rfl)(l:Gl X "reversed":=by rfl)(i:X.calm=true:=by rfl)(f:J5 [ea] X.env=(JY,QY ea X.env)::J5 [] X.env:=by rfl)
  (k:J5 [.Call (.Name "reversed" p2) [ea] [] p3] X.env=(JY,QY (.Call (.Name "reversed" p2) [ea] [] p3) X.env)::J5 [] X.env:=by rfl):SE X sf C (.Call (.Name "list" p) [.Call (.Name "reversed" p2) [ea] [] p3] [] pos) (.op .revL h [a]):=
 aj (zG i d e l m (slc g sl0 f) f k) (cf uE rfl)
end
end MR

namespace MR
open L2 L3 M
open PySem (Addr Str sizeLine)
section
variable {K:J2}{sl:Cf}{sf sg:Y->j Y}{C:Call}{σ σ2:L2.St}{Z Z' Z1:Fp}{H H' H1:Hp}{Fs Fs' Fs1:Fps}{η η' η1 ηb:Env}{G G' G1 R F F':Fp}{tg is vs ls io:U Y}{pv val:Y->j V}{D:bK}
theorem zt {o:j W}{a:U T}(h:vwT o=O a):∃m,o=O (m,.lst a)/\m≠.s/\leaves a=true:=by
 unfold vwT at h;split at h
 .cases h
 .rename_i m d c;split at h
  .rename_i b;cases h;exact⟨m,rfl,λe=>c<|e ▸ rfl,b⟩
  .cases h
 .cases h
theorem At.away {i:Y}{w:W}(A:At K sl σ Z H Fs η no)(e1:rd η i=O w):At K sl σ Z H (jK Fs i) (del η i) (Fs i):=by
 refine⟨⟨λa ⟨l,d,b⟩=>A.gd.own a ⟨l,b⟩,λl k a d b=>A.gd.dis l k a d.2 b.2,A.gd.zal⟩,λl m o e=>?_,λa c=>A.gd.own a ⟨i,c⟩,λa c ⟨l,d,b⟩=>d<|A.gd.dis l i a b c,A.lk,A.ln⟩;rw[bp] at e;split at e
 .cases e
 .rename_i g;obtain⟨p,n,h⟩:=A.env l m o e;have f:l≠i:=λz=>g ⟨z,c8 e1⟩;exact⟨p,n.mono λa c=>⟨f,c⟩,h⟩
theorem ng {h:QJ}{t r j0:Y}{f:Env->Res (j W×Env)}{te:L2.St->Hp->(j V->Hp->Prop)->Prop}(I:eP sf sg [t] is)(hs:sf r=O j0)
  (hf:∀{η o η'},f η=.ok (o,η')->Nn η η')
  (hte:∀ {val:Y->j V} {σ2:L2.St} {Z:Fp} {H:Hp} {Fs:Fps} {η ηc:Env} {R:Fp} {o:j W} {Q:j V->Hp->Prop},At K ⟨sg,val⟩ σ2 Z H Fs η R->f η=.ok (o,ηc) ->
   (∀oy Z' H' Fs' G,At K ⟨sg,val⟩ σ2 Z' H' Fs' ηc (λc=>R c\/G c)->(match o,oy with|some w,O y=>Rep K Z' H' w.1 w.2 y G|none,J=>Ra|_,_=>QX)->(∀c,R c->¬G c)->Step Z H (tot Fs) Z' H' (λa=>tot Fs' a\/G a)->Q oy H')->te σ2 H Q)
  {e:E} (he:∀η,evE C e η=(ofO<|vwT<|rd η r).bind (kV1 h r t f η)) (σ:L2.St) (H:Hp) (Q:VK) (hw:wE K sf C e σ H Q):
  kO K (ku j0) σ H λg H1=>∃W:Y->Y->U V->Hp->Prop,(∃m,W 0 m [] H1)/\∀i m ys H,W i m ys H ->
   (g.stop i H/\ys.length<=sizeLine/\∀p,H p=J->Q (.ref p) (upd H p<|.lst ys)) \/
   (g.go i H/\ys.length<sizeLine/\∀x H',g.yld i H x H'->gT K 1 x (Kb 1 J++bC σ is) H' λσ2 H2=>(σ2.length=1+(bC σ is).length/\σ2.drop 1=bC σ is)/\te σ2 H2 λoy H3=>∃m',m'<m/\W (i+1) m' (ys++oy.toList) H3):=by
 obtain⟨pv,Z,Fs,η,w,η',A,ev,kk⟩:=hw;rw[he] at ev;obtain⟨P,g1,g2⟩:=aa ev;obtain⟨m0,e1,hm0,hlv⟩:=zt<|cZ g1;obtain⟨⟨w',η2⟩,g3,g4⟩:=aa<|show((az [t] f (P.map λu=>[(.s,u)]) (ag [t]<|del η r) []).bind<|iq h).bind (kV2 r<|rd η r)=_ from g2;cases g4;obtain⟨⟨us,η3⟩,h3,g5⟩:=aa g3;obtain⟨w'',h4,g6⟩:=ay<|show ret η3 _=_ from g5;cases g6;obtain⟨v,r0,l0,p0⟩:=A.env r m0 (.lst P) e1;obtain⟨a,xs,rfl,hl,hfa,hxa,pl⟩:=eM hm0 r0;have A0:=A.away e1;obtain⟨val,v1,A2,v2⟩:=(A0.dels (tg:=[t])).pin;generalize hN:P.map (λu=>[((.s,u):W)])=tss at h3;have hNl:tss.length=xs.length:=by rw[<- hN,J6,pl.length]
 have sH:∀{Z':Fp} {H':Hp} {F':Fp},Step Z H (tot (da (jK Fs r) [t])) Z' H' F'->H' a=O (.lst xs):=λs=>s.keep a _ hxa λ⟨l,_,h1,h2⟩=>h1<|A.gd.dis l r a h2 hfa
 refine⟨.ref a,l0 j0 hs,a,rfl,⟨xs,.inl<|.inl hxa⟩,λi m ys H0=>m=tss.length-i/\i<=tss.length/\ys.length<=i/\∃(Zi:Fp) (Fsi:Fps) (N:Env) (acc:U W) (Ga:Fp),At K ⟨sf,val⟩ σ Zi H0 Fsi N (λc=>Fs r c\/Ga c)/\(∀c,Fs r c->¬Ga c)/\RepW K Zi H0 acc ys Ga/\az [t] f (tss.drop i) N acc=.ok (us,η2)/\(∀n∈[t],rd N n=J)/\(∀n∈[t],∀b,¬Fsi n b)/\Nn (ag [t]<|del η r) N/\Step Z H (tot<|da (jK Fs r) [t]) Zi H0 (λb=>tot Fsi b\/Ga b),
  ⟨tss.length,by simp,Kx _,J9 _,Z,da (jK Fs r) [t],ag [t]<|del η r,[],no,A2.mono λc L=>L.elim id λz=>z.elim,λ_ _ z=>z,rfl,h3,λn hj=>by rw[av,QG hj],λn hj b hb=>hb.1 hj,Nn.refl _,(Step.refl _ _ _).mono (λ_ z=>z) λb hb=>hb.elim id λz=>z.elim⟩,?_⟩
 rintro i m ys H0 ⟨rfl,hi,hlen,Zi,Fsi,N,acc,Ga,Ai,dGa,ra,L,htg,hfp,hnn,si⟩;have hx0:=sH si;by_cases hlt:i<tss.length
 .right;have hix:i<xs.length:=by lia
  have hw:tss[i]?=O tss[i]:=by simp[hlt]
  have hu:∃u,tss[i]=[((.s,u):W)]/\P[i]?=O u:=by
   have hi0:i<P.length:=by rw[<- hN,J6] at hlt;exact hlt
   refine⟨P[i],?_,by simp[hi0]⟩;have:tss[i]?=O [((.s,P[i]):W)]:=by rw[<- hN,Kz];simp[hi0]
   rw[hw] at this;exact KH this
  obtain⟨u,hu1,hu2⟩:=hu;refine⟨⟨xs,xs[i],.inl<|.inl hx0,by simp[hix]⟩,M9 (Ky hlen hi)<|gY<|by lia,λx H2 y=>?_⟩;obtain⟨e0,hyx⟩:=y;subst e0;have hx1:xs[i]?=O x:=hyx xs<|.inl<|.inl hx0;rw[eY hw,hu1] at L;obtain⟨ηb,o,ηc,hb,hfe,hc2⟩:=gi L;have hb':M.put N t (.s,u)=ηb:=KH<|show O (M.put N t (.s,u))=O ηb from hb;subst hb';have hul:u.leaf=true:=KI.mp hlv u<|LX hu2;obtain⟨x',hx',rx⟩:=RepL.get pl hu2;have hxe:x'=x:=by rw[hx'] at hx1;exact KH hx1
  subst hxe;have hfrz:∀b o u,H b=O (.frz o u)->H2 b=O (.frz o u):=λb o u eb=>si.keep b _ eb λ⟨l,hl1,hl2⟩=>by obtain⟨_,zs,e⟩:=A0.gd.own b ⟨l,hl2⟩;rw[e] at eb;exact(d9 eb.symm).elim
  have r':Rep K Zi H2 (Md.s) u x' (Fsi t):=rx.leaf hfrz hul
  have A3:At K ⟨sg,inV val [t]⟩ (O x'::bC σ is) Zi H2 Fsi (M.put N t (.s,u)) (λc=>Fs r c\/Ga c):=by
   refine(Ai.into (σ2:=O x'::bC σ is) I htg (λk j0 v h1 h2=>?_)<|fy I<|by simp[bC,Mn]).put1 r' (λn hj=>?_)<|QG<|by simp
   .rw[KN,Mn,Ld];exact ik h1 h2
   .rcases I t n hj with ⟨k,hk,rfl⟩ | ⟨h,_⟩
    .cases n with
     |zero=>rfl
     |succ _=>simp at hk
    .exact QL (KA.mpr rfl) h
  show(_/\_)/\_;refine⟨⟨by simp[Mn],rfl⟩,?_⟩;refine hte A3 hfe λoy Z4 H4 Fs4 G4 A4 r4 d4 s4=>⟨tss.length-(i+1),by lia,rfl,hlt,?_,?_⟩
  .cases oy<;>simp<;>lia
  .have ra4:RepW K Z4 H4 acc ys Ga:=ra.frame A3.gd.own s4 fun b hb=>A3.dis b (.inr hb)
   have vv:∀n m t',rd (ag [t] ηc) n=O (m,t')->val n≠none:=λn m t' e=>by
    rw[av] at e;split at e
    .cases e
    .rename_i hj;have n1:rd (M.put N t (.s,u)) n≠none:=λz=>by rw[hf hfe n z] at e;cases e
     rw[dg (tg:=[t]) (t:=[(.s,u)]) (η:=N) rfl n hj] at n1;have n2:rd (ag [t] (del η r)) n≠none:=λz=>n1<|hnn n z;cases e2:rd (ag [t]<|del η r) n with
     |none=>exact QL e2 n2
     |some u'=>exact v2 n u'.1 u'.2 e2
   have A5:=(A4.dels (tg:=[t])).outof (sf:=sf) (σ:=σ) (val:=val) (λn hj=>by rw[av,QG hj]) vv Ai.lk Ai.ln
   have s5:Step Z H (tot (da (jK Fs r) [t])) Z4 H4 (λb=>tot (da Fs4 [t]) b\/(Ga b\/G4 b)):=by
    refine(si.trans<|s4.frame Ga).mono (λ_ z=>z) λb hb=>?_;rcases hb with z|z|z
    .exact .inl (.inl<|bH z)
    .exact .inr z
    .exact .inl (.inr z)
   refine⟨Z4,da Fs4 [t],ag [t] ηc,acc++o.toList,λc=>Ga c\/G4 c,A5.mono λc L=>?_,λc L z=>?_,?_,hc2,λn hj=>by rw[av,QG hj],λn hj b hb=>hb.1 hj,λn e=>?_,s5⟩
   .rcases L with z | z | z
    .exact .inl (.inl z)
    .exact .inl (.inr z)
    .exact .inr z
   .rcases z with z | z
    .exact dGa c L z
    .exact d4 c (.inl L) z
   .cases o with
    |none=>
     cases oy with
     |none=>rw[ME,ME,KR,KR];exact ra4.mono λ_ z=>.inl z
     |some _=>exact r4.elim
    |some w4=>
     cases oy with
     |none=>exact r4.elim
     |some y4=>exact RepW.append (λ_ z=>.inl z) (λ_ z=>.inr z) (λc L=>d4 c<|.inr L) ra4<|RepW.one r4
   .have e':=hnn n e;rw[av];split
    .rfl
    .rename_i hj;exact hf hfe n<|by rw[dg (tg:=[t]) (t:=[(.s,u)]) (η:=N) rfl n hj];exact e'
 .left;have hi':i=tss.length:=by lia
  subst hi';rw[NC] at L;cases L;refine⟨⟨xs,.inl<|.inl hx0,by lia⟩,br<|by lia,?_⟩;have Ai':=Ai.unpin v1;have rl:Rep K Zi H0 m0 (.lst P) (.ref a) (Fs r):=r0.frame A0.gd.own (show Step Z H (tot<|jK Fs r) Zi H0 (λb=>tot Fsi b\/Ga b) from si.mono (λ_ z=>bH z) λ_ z=>z) λb hb=>A0.dis b hb;refine lq (G:=Ga) (λb hb=>Ai'.own b<|.inr hb) Ai'.gd.zal ra (by lia) h4 ?_;intro v' Z' H' G' rv ow st;have hR:Own Zi H0 (Fs r):=λb hb=>Ai'.own b<|.inl hb;have oR:=hR.frame st dGa;have stR:Step Zi H0 (λc=>Fs r c\/Ga c) Z' H' (λc=>Fs r c\/G' c):=(st.frame<|Fs r).mono (λ_ z=>z.elim .inr .inl) λ_ z=>z.elim .inr .inl;obtain⟨d,sB⟩:=Ai'.op (G':=λc=>Fs r c\/G' c) (λc L=>L.elim (oR.1 c)<|ow c) stR;have rl':Rep K Z' H' m0 (.lst P) (.ref a) (Fs r):=rl.frame (λb hb=>Ai'.own b<|.inr hb) st dGa;have B2:=d.put (i:=r) (w:=(m0,.lst P)) (G1:=Fs r) (R:=G') rl' (λ_ z=>.inl z) (λ_ z=>.inr z) (λc L z=>oR.2 c z L) (λn hj=>l0 n hj) p0;rw[e1] at kk;refine kk v' Z' H' (jE Fsi r<|Fs r) G' B2 rv ?_
  have s1:Step Z H (tot Fs) Zi H0 (λc=>tot Fsi c\/(Fs r c\/Ga c)):=by
   refine(si.frame<|Fs r).mono (λc L=>?_) λc L=>?_
   .rcases L with z | z
    .obtain ⟨l,_,_,z2⟩:=z;exact⟨l,z2⟩
    .exact⟨r,z⟩
   .rcases L with z | z | z
    .exact .inl (.inl z)
    .exact .inr z
    .exact .inl (.inr z)
  refine(s1.trans sB).mono (λ_ z=>z) λc L=>?_
  .rcases L with z | z
   .rcases bq z with q | q
    .exact .inl q
    .exact .inr (.inl q)
   .exact .inr (.inr z)
theorem vY {h:QJ}{t i0 j0:Y}{g n:E}(I:eP sf sg [t] is)(hs:sf i0=O j0)(σ:L2.St)(H:Hp)(Q:VK)(hw:wE K sf C (.compV h i0 t n g) σ H Q):dy 1 (kO K<|ku j0) is (gT K 1) (wT K sg C n) (wE K sg C g) σ H Q:=by
 have N:=ng (te:=λσ2 H Q=>wT K sg C n σ2 H λok H2=>if ok=JZ then wE K sg C g σ2 H2 λy H'=>Q (O y) H' else Q J H2) I hs (f:=b8 (evE C n)<|evE C g) (λ{η o η'} hf=>by
  obtain⟨⟨u,M⟩,P,h8⟩:=aa<|show(evE C n η).bind (onT (bE<|evE C g)<|okW J)=_ from hf;obtain⟨d,h9,l⟩:=bj h8;cases d with
  |true=>rw[QG rfl] at l;obtain⟨⟨u2,η5⟩,p,L⟩:=aa<|show(evE C g M).bind c9=_ from l;cases L;exact(ax n P).trans<|ax g p
  |false=>rw[QH Kv] at l;cases l;exact ax n P) (λ{val σ2 Z H Fs η ηc R o Q} A hf k=>by
  obtain⟨⟨u,M⟩,P,h8⟩:=aa<|show(evE C n η).bind (onT (bE<|evE C g)<|okW J)=_ from hf;obtain⟨d,h9,l⟩:=bj h8;refine l7 A.bare P h9 λZ1 H1 Fs1 A1 s1=>?_;have A1':=A.frame (A1.mono (G':=no) λ_ z=>z)<|s1.mono (λ_ z=>z) λa ha=>ha.elim id λz=>z.elim;have A2:=A1'.1.mono (G':=R) λ_ z=>.inl z;cases d with
  |true=>rw[QG rfl] at l ⊢;obtain⟨⟨u2,η5⟩,p,L⟩:=aa<|show(evE C g M).bind c9=_ from l;cases L;exact iB A2 p λv Z' H' Fs' G b r d s _=>k (O v) Z' H' Fs' G b r d<|s1.trans s
  |false=>
   rw[QH Kv] at l ⊢;cases l;exact k J Z1 H1 Fs1 no (A2.mono λ_ z=>z.elim id λq=>q.elim) trivial (λ_ _ z=>z) (s1.mono (λ_ z=>z) λa ha=>ha.elim id λz=>z.elim)) (λη=>rfl) σ H Q hw
 obtain⟨x,hx,a,e,sq,W,w0,turn⟩:=N;refine⟨x,hx,a,e,sq,W,w0,λi m ys H w=>?_⟩;rcases turn i m ys H w with c|⟨go,hz,step⟩
 .exact .inl c
 .refine .inr ⟨go,hz,fun x H' y=>?_⟩;have st:=step x H' y;simp only[Po,ME,KR] at st;exact st
end
end MR
namespace MR
open PySem PySem.Spec PyProof.Rows L2 L3
section
variable {X:Cx}{sf sg:Y->j Y}{C:M.Call}{pos p p2 p3:Pos}{ea eb ec:QQ}{a b c:M.E}{h:QJ}{n:Y}{io:U Y}{K:J2}{elt iter cnd:QQ}{x y:Str}{px py pt:Pos}{kt:Y}{scope:Q2}{cl:U (Str×QF)}{ys:U Str}{tg ls is:U Y}{k:M.Ik}{src:U M.E}{e cd:M.E}
theorem JV (d:Y)(ls:U Y)(is:U Y)(cl:U<|Str×QF)(ys:U Str){t i:Y}(o:∀f s H g,SB (ak X ([x]++ys) scope cl f s H g) (inF [t] ls) C cnd cd)(F:∀f s H g,SE (ak X ([x]++ys) scope cl f s H g) (inF [t] ls) C elt e)
  (S:aB [x] ys scope) (r:Clo X cl) (fr:Frees X scope cl ys is) (w:sf i=O d:=by rfl) (z:X.N[d]?=O y:=by rfl) (L:Vis X.env.scope y:=by first|exact Ks rfl|exact Kh (Ks rfl)|exact Kh<|Kh rfl) (D:(y==("__debug__":Str))=false:=by decide) (m:(y==("__classdict__":Str))=false:=by decide) (A:X.calm=true:=by rfl) (G:ls.map sf=is.map some:=by rfl)
  (l:Lk scope X.env=pure cl:=by with_unfolding_all rfl) (u:(scope.names.all λp=>p.2 != .free || (cl.lookup p.1).isSome)=true:=by rfl)
  (I:∀v,K7 (.Name y py) X.env v=pure v:=by intro _;rfl):SE X sf C (.ListComp elt [⟨.Name x px,.Name y py,[cnd],0⟩] scope pos) (.compV h i t cd e):=
 aj (iO (pre:=[x]) A (jq<|bN z L D m) (sv S) (λf s H g=>F f s H g) (λf s H g=>o f s H g) l S r u fr I) (vY (dB G) w)
end
end MR



namespace MR
open L2 L3 M
open PySem (Addr Str sizeLine)
section
variable {K:J2}{Wx:L2.St->VK}{sl:Cf}{sf sg:Y->j Y}{C:Call}{σ σ2:L2.St}{Z Z' Z1:Fp}{H H' H1:Hp}{Fs Fs' Fs1:Fps}{η η' η1 ηb:Env}{G G' G1 R F F':Fp}{tg is vs ls io:U Y}{pv val:Y->j V}{D:bK}
theorem vZ {a b c:j W}{r:W}(h:jT a b c=O r):∃g m f n t q i,a=O (.d,.lst g)/\b=O (m,.int f)/\c=O (n,t)/\M.ixN g.length f=O q/\g[q]?=O (.lst i)/\i.length<LIM/\t.leaf=JZ/\r=(.d,.lst<|g.set q<|.lst<|i++[t]):=by
 unfold jT at h;split at h
 .rename_i g m f n t;cases e:M.ixN g.length f with
  |none=>rw[e] at h;cases h
  | some q =>
   rw[e] at h;have k:apU g q t g[q]?=O r:=h;cases e2:g[q]? with
   |none=>rw[e2] at k;cases k
   | some u =>
    rw[e2] at k;cases u with
    | lst i =>
     have l:(if(decide (i.length<LIM)&&t.leaf)=JZ then O ((.d,.lst (g.set q (.lst (i++[t])))):W) else J)=O r:=k;split at l
     .rename_i o;rw[Kt] at o;cases l;exact⟨g,m,f,n,t,q,i,rfl,rfl,rfl,e,e2,QR o.1,o.2,rfl⟩
     .cases l
    |_=>cases k
 .cases h
theorem RepL.inner {y:V}{t:T}(L:t.leaf=JZ)(Q:Rep K Z H .d t y no)(oz:∀a,Z a->H a≠J):∀{v:U T} {m:U V} {G:Fp} {q:Y} {k:U T},Own Z H G->RepL K Z H .d v m G->v[q]?=O (.lst k)->k.length<LIM ->
 ∃b f,m[q]?=O (.ref b)/\G b/\H b=O (.lst f)/\f.length=k.length/\RepL K Z (upd H b<|.lst<|f++[y]) .d (v.set q<|.lst<|k++[t]) m G
|[],_,_,_,_,_,_,e,_=>by simp at e
| u::v,m,G,q,k,N,⟨x,r,G1,G2,ex,n,l,s,p,P⟩,e,M=>by
 have stay:∀{b:QF} {f zs:U V},G b->H b=O (.lst f)->Stay Z H (upd H b (.lst zs)):=λ{b f zs} g i=>by
  have A:∀a o,H a=O o->(∀f,o≠.lst f)->upd H b (.lst zs) a=O o:=λa o e no=>by rw[ae λz=>by rw[z,i] at e;cases e;exact no _ rfl];exact e
  refine⟨λa o za e=>?_,λa m e=>?_,λa o u e=>A a _ e<|by intro f z;cases z⟩
  .rw[ae<|show a≠b fromλz=>(N b g).1<|z ▸ za];exact e
  .rcases e with e | ⟨o,e⟩
   .exact .inl (A a _ e<|by intro f z;cases z)
   .exact .inr ⟨o,A a _ e<|by intro f z;cases z⟩
 have keep:∀{b:QF} {zs:U V} {G':Fp},¬G' b->∀a o,G' a->H a=O o->upd H b (.lst zs) a=O o:=λ{b zs G'} nb a o w e=>by rw[ae<|show a≠b fromλz=>nb<|z ▸ w];exact e
 subst ex;cases q with
 |zero=>
  rw[M6] at e;cases e;obtain⟨b,f,rfl,hyl,g,i,pr⟩:=eM (by simp) p;have h:f.length=k.length:=pr.length;have I:=stay (zs:=f++[y]) (n b g) i;refine⟨b,f,rfl,n b g,i,h,.ref b,r,G1,G2,rfl,n,l,s,⟨b,f++[y],rfl,?_,⟨g,au⟩,?_⟩,P.keep I (λ_ z=>z)<|keep<|s b g⟩
  .rw[Kk,KN,h];exact M
  .exact RepL.append (G1:=λc=>G1 c/\c≠b) (G2:=no) (λ_ z=>z) (λ_ z=>z.elim) (λ_ _ z=>z) (pr.keep I (λ_ z=>z)<|keep λz=>z.2 rfl) (RepL.one<|Q.leaf I.2.2 L)
 |succ q=>rw[Ld] at e;obtain⟨b,f,e1,g,i,h,pr⟩:=RepL.inner L Q oz (λa w=>N a<|l a w) P e M;refine⟨b,f,e1,l b g,i,h,x,r,G1,G2,rfl,n,l,s,p.keep (stay (l b g) i) (λ_ z=>z)<|keep λz=>s b z g,pr⟩
theorem Ak {i:Y}{b:QF}{d:U V}{w':W}{v:V}(A:At K ⟨sf,pv⟩ σ Z H Fs η no){w0:W}(P:rd η i=O w0)(I:Fs i b)(hx:∀c,sf i=O c->σ[c]?=O (O v))(s:∀u,pv i=O u->v=u)(p:Rep K Z (upd H b<|.lst d) w'.1 w'.2 v<|Fs i):
  At K ⟨sf,pv⟩ σ Z (upd H b<|.lst d) Fs (M.put η i w') no/\Step Z H (tot Fs) Z (upd H b<|.lst d) (tot Fs):=by
 have L:tot Fs b:=⟨i,I⟩;obtain⟨nz,ys,w⟩:=A.gd.own b L
 have g:∀a,H a≠J->upd H b (.lst d) a≠none:=λa h=>by
  by_cases e:a=b
  .rw[e,au];simp
  .rw[ae e];exact h
 have f:∀a o,H a=O o->a≠b->upd H b (.lst d) a=O o:=λa o e ne=>by rw[ae ne];exact e
 have stay:Stay Z H (upd H b (.lst d)):=⟨λa o y e=>f a o e λz=>nz<|z ▸ y,λa xs e=>by
  rcases e with e|⟨o,e⟩
  .exact .inl (f a _ e λz=>by rw[z,w] at e;exact ke e.symm)
  .exact .inr ⟨o,f a _ e λz=>by rw[z,w] at e;exact d9 e.symm⟩,λa o u e=>f a _ e λz=>by rw[z,w] at e;exact d9 e.symm⟩
 refine⟨⟨⟨λa ta=>?_,A.gd.dis,λa y=>g a<|A.gd.zal a y⟩,λl m t e=>?_,λa z=>z.elim,λa z=>z.elim,A.lk,A.ln⟩,⟨λa o e n=>f a o e λz=>n<|z ▸ L,λ_ z=>z,λ_ z=>.inl z,λ_ z=>.inl z,g,λz a h=>g a<|z a h⟩⟩
 .obtain ⟨x,zs,hz⟩:=A.gd.own a ta;refine⟨x,?_⟩;by_cases e:a=b
  .exact⟨.inl d,by rw[e,au];rfl⟩
  .exact⟨zs,by rw[ae e];exact hz⟩
 .rw [bp] at e;split at e
  .rename_i k;obtain⟨rfl,_⟩:=k;cases e;exact⟨v,p,hx,s⟩
  .rename_i k;have Q:l≠i:=λz=>k ⟨z,c8 P⟩;obtain⟨u,r,h⟩:=A.env l m t e;exact⟨u,r.keep stay (λ_ z=>z) λa o N e=>f a o e λz=>Q<|A.gd.dis l i b (z ▸ N) I,h⟩
theorem Dw {i k l Q jk jl:Y}(hi:sf i=O Q)(hk:sf k=O jk)(hl:sf l=O jl)(D:bK)(σ:L2.St)(H:Hp)(h:wS K Wx sf io C (.apN i k l) D σ H):
  ∃a r o b u y,σ[Q]?=O (O<|.ref a)/\σ[jk]?=O (O<|.int o)/\σ[jl]?=O (O y)/\H a=O (.lst r)/\L2.atI r o=O (.ref b)/\H b=O (.lst u)/\u.length<sizeLine/\D.nx σ (upd H b<|.lst<|u++[y]):=by
 obtain⟨pv,Z,Fs,η,N,A,f⟩:=h;obtain⟨η2,x,h5⟩:=eN<|show Fin K Wx ⟨sf,pv⟩ Z H (tot Fs) D (nxO η<|(jT (rd η i) (rd η k)<|rd η l).map λw=>M.put η i w) from f;cases e:jT (rd η i) (rd η k) (rd η l) with
 |none=>rw[e] at x;cases x
 | some r1 =>
  rw[e] at x;cases x;obtain⟨ts,m,o,n,t,q,us,r1,r2,r3,hq,hu,hn,lf,rfl⟩:=vZ e;obtain⟨v,rv,l1,p1⟩:=A.env i _ _ r1;obtain⟨z,rz,l2,_⟩:=A.env k _ _ r2;obtain⟨y,ry,l3,_⟩:=A.env l _ _ r3;obtain⟨a,r,rfl,L,ga,ha,p⟩:=eM (by simp) rv;obtain rfl:z=V.int o:=rz;have P:=p.length;obtain⟨b,u,e1,gb,hb,hyn,pr⟩:=RepL.inner (y:=y) lf (ry.leaf (λ_ _ _ e=>e) lf) A.gd.zal (λc gc=>A.gd.own c ⟨i,gc.1⟩) p hu hn;refine⟨a,r,o,b,u,y,l1 Q hi,l2 jk hk,l3 jl hl,ha,?_,hb,gY<|by lia,?_⟩
  .have I:L2.ixN r.length o=O q:=by rw [P]; exact hq
   unfold L2.atI;rw[I];exact e1
  .obtain ⟨g,s⟩:=Ak (w':=(.d,.lst<|ts.set q<|.lst<|us++[t])) A r1 gb.1 l1 p1 ⟨a,r,rfl,L,⟨ga,by rw [ae<|KS gb.2]; exact ha⟩,pr⟩;exact h5 σ Z _ Fs g s
end
end MR
namespace MR
open PySem PySem.Spec PyProof.Rows L2 L3
section
variable {X:Cx}{sf sg:Y->j Y}{C:M.Call}{pos p p2 p3:Pos}{ea eb ec:QQ}{a b c:M.E}{h:QJ}{n:Y}{io:U Y}{K:J2}
theorem IQ (ji jk jl:Y){i k l:Y}{x y z:Str}{f e F G r A:Pos}(hi:sf i=O ji:=by rfl)(hk:sf k=O jk:=by rfl)(hl:sf l=O jl:=by rfl)(hN:X.N[ji]?=O x:=by rfl)(I:X.N[jk]?=O y:=by rfl)(L:X.N[jl]?=O z:=by rfl)
  (hv:Vis X.env.scope x:=by first|exact Ks rfl|exact Kh (Ks rfl)|exact Kh<|Kh rfl) (hv2:Vis X.env.scope y:=by first|exact Ks rfl|exact Kh (Ks rfl)|exact Kh<|Kh rfl) (hv3:Vis X.env.scope z:=by first|exact Ks rfl|exact Kh (Ks rfl)|exact Kh<|Kh rfl)
  (hd:(x==("__debug__":Str))=false:=by decide) (Q:(y==("__debug__":Str))=false:=by decide) (Z:(z==("__debug__":Str))=false:=by decide) (P:(x==("__classdict__":Str))=false:=by decide) (s:(y==("__classdict__":Str))=false:=by decide) (t:(z==("__classdict__":Str))=false:=by decide)
  (m:Ng (.Subscript (.Name x F) (.Name y G) A) "append" X.env (QY (.Subscript (.Name x F) (.Name y G) A) X.env)=QY (.Subscript (.Name x F) (.Name y G) A) X.env:=by rfl)
  (u:((Kw e<|J5 [Expr.Name z r] X.env).all (λx=>!x.1)&&(backToKw e<|Np [] X.env).all (λx=>x.1.isSome)&&decide ([Expr.Name z r].length+([]:U LZ).length+(if([]:U LZ).isEmpty then 0 else 1)<30))=true:=by rfl)
  (o:(f.endLine==e.line)=true:=by rfl) (w:J5 [Expr.Name z r] X.env=(JY,QY (.Name z r) X.env)::J5 [] X.env:=by rfl) (g:(Kw e<|J5 [] X.env).any (·.1)=false:=by rfl)
  (hsw:Lg (.Call (.Attribute (.Subscript (.Name x F) (.Name y G) A) "append" f) [.Name z r] [] e) J pos.line X.env=pure false:=by rfl):
  SS X sf io C (.Expr (.Call (.Attribute (.Subscript (.Name x F) (.Name y G) A) "append" f) [.Name z r] [] e) pos) (.apN i k l):=
 cQ (pD (wm OQ Qk Qj ja (AS ix_any (bN hN hv hd P) (bN I hv2 Q s)<|by intro _ _;rfl) (bw (bN L hv3 Z t) cR w) m u o w g) hsw) λD σ H hw=>by obtain⟨a,xs,d,b,ys,v,e1,e2,e3,ha,M,hb,hln,hq⟩:=Dw hi hk hl D σ H hw;exact⟨.ref a,e1,.int d,e2,a,xs,d,.ref b,rfl,rfl,.inl<|.inl<|.inl ha,M,.inl ⟨rfl,ys,.inl<|.inl hb⟩,v,e3,b,ys,v,rfl,rfl,hb,hln,hq⟩
end
end MR









namespace L3
open PySem PySem.Spec PyProof.Rows L2
abbrev Ris (a:QT Y):Prop:=a.toList.Pairwise (· < ·)
structure JS (L:QJ)(t:K5):Prop where
 led:t.led=L
 dum:t.dummies=#[]
 ris:Ris t.place
theorem mF {a:QT Y}(h:Ris a){i k:Y}(b:i<k)(hk:k<a.size){d:Y}:a.getD i d<a.getD k d:=by
 have e:∀m,m<a.size->a.getD m d=a.toList.getD m d:=λm g=>by simp[M4,g,Kf]
 rw[e i<|by lia,e k hk];have c:i<a.toList.length:=by rw[KD];lia
 have f:k<a.toList.length:=by rw[KD];lia
 rw[Kf,Kf,Kj c,Kj f];exact Qo.mp h i k c f b
theorem iu {c:QT Y}(h:Ris c)(a:Y):∀(f lo b:Y),b<=c.size->lo<=b->b-lo<=f->(∀i<lo,c.getD i a<a)->(∀i,b<=i->i<c.size->a<=c.getD i a) ->
 SetTable.below.go c a f lo b<=c.size/\(∀i<SetTable.below.go c a f lo b,c.getD i a<a)/\(∀i,SetTable.below.go c a f lo b<=i->i<c.size->a<=c.getD i a)
|0,lo,b,e,o,p,g,k=>by
 have:lo=b:=by lia
 subst this;exact⟨e,g,k⟩
| f+1,lo,b,e,o,p,g,k=>by
 unfold SetTable.below.go;by_cases n:lo<b
 .rw [QG n];dsimp only;by_cases l:c.getD ((lo+b) / 2) a<a
  .rw [QG l];refine iu h a f _ b e (by lia) (by lia) (λi m=>?_) k;rcases N9 i ((lo+b) / 2) with z|z
   .exact O7 (mF h z<|by lia) l
   .have:i=(lo+b) / 2:=by lia
    rw[this];exact l
  .rw [QH l];refine iu h a f lo _ (by lia) (by lia) (by lia) g (λi m r=>?_);rcases N9 ((lo+b) / 2) i with z|z
   .have:=mF h z r (d:=a);lia
   .have:i=(lo+b) / 2:=by lia
    rw[this];lia
 .rw [QH n];have:lo=b:=by lia
  subst this;exact⟨e,g,k⟩
theorem ic {b:QT Y}(h:Ris b)(a:Y):SetTable.below b a<=b.size/\(∀i<SetTable.below b a,b.getD i a<a)/\(∀i,SetTable.below b a<=i->i<b.size->a<=b.getD i a):=
 iu h a b.size 0 b.size (J9 _) (Kx _) (by lia) (λ_ z=>QL z<|Ml _) (λi c d=>by lia)
theorem vj (a:QT Y)(p x:Y):(SetTable.insertAt a p x).toList=a.toList.take p++x::a.toList.drop p:=by unfold SetTable.insertAt;rw[Array.toList_append,OD,Px,Px,Lr];simp[List.extract_eq_drop_take];exact MI<|by rw[Lq,KD];lia
theorem df (a:QT Y){m:Y}(d:Y)(c:m<a.toList.length):a.getD m d=a.toList[m]:=by
 have b:m<a.size:=by rw[<- KD];exact c
 simp[M4,b]
theorem zg {d:QT Y}(h:Ris d){c:Y}(p:d[SetTable.below d c]?≠O c):Ris (SetTable.insertAt d (SetTable.below d c) c):=by
 obtain⟨u,n,l⟩:=ic h c;unfold Ris;rw[vj];have hp:(d.toList.take (SetTable.below d c)++d.toList.drop (SetTable.below d c)).Pairwise (· < ·):=by rw[Ov];exact h
 rw[Pw] at hp ⊢;obtain⟨r,s,t⟩:=hp;have lo:∀a∈d.toList.take (SetTable.below d c),a<c:=λa e=>by obtain⟨i,f,rfl⟩:=NM e;rw[Lc] at f;rw[List.getElem_take,<- df d c (by lia)];exact n i<|by lia
 have f:∀a∈d.toList.drop (SetTable.below d c),c<a:=λa e=>by
  obtain⟨i,f,rfl⟩:=NM e;rw[Lq] at f;rw[List.getElem_drop];have k:SetTable.below d c+i<d.toList.length:=by lia
  have m:=l (SetTable.below d c+i) (by lia) (by rw[<- KD];exact k);rw[df d c k] at m;rcases Nat.lt_or_eq_of_le m with z|z
  .exact z
  .exfalso;rcases Pm i with rfl|hi0
   .refine p ?_;rw[<- M5,Kj<|by lia];rw[Option.some_inj];simpa using z.symm
   .have o:=l (SetTable.below d c) (J9 _) (by rw [<- KD]; lia);rw[df d c<|by lia] at o;have:=Qo.mp h (SetTable.below d c) (SetTable.below d c+i) (by lia) k (by lia);lia
 refine⟨r,Ls.mpr ⟨f,s⟩,λa e b g=>?_⟩;rcases Kg.mp g with rfl|g
 .exact lo a e
 .exact t a e b g
theorem kN {t:K5}(b:t.dummies=#[])(a:Y):SetTable.has t.dummies a=false:=by rw[b];unfold SetTable.has;simp
theorem fH {t:K5}(d:t.dummies=#[])(f:Y->Int)(h:Int):∀(k:Y) (p:SetTable.Probe) (a:Y) (c:j Y),p.dummy=J->SetTable.probe.go t f h k p=O (.empty a c)->c=J/\t.place[SetTable.below t.place a]?≠O a
|0,p,a,c,_,e=>by cases e
| k+1,p,a,c,hp,e=>by
 unfold SetTable.probe.go at e;cases b:t.slot p.j with
 |empty=>rw[b] at e;cases e;refine⟨hp,λz=>?_⟩;unfold SetTable.slot at b;dsimp only at b;rw[z] at b;simp at b
 | dummy =>
  unfold SetTable.slot at b;dsimp only at b;split at b
  .cases b
  .rw [kN d] at b;simp at b
 | live i =>
  rw[b] at e;dsimp only at e;split at e
  .cases e
  .refine fH d f h k _ a c ?_ e;unfold SetTable.advance;split
   .exact hp
   .exact hp
section
variable {L:QJ}{t:K5}
theorem pN (n:Y):Ris (Array.range n):=by unfold Ris;rw[Array.toList_range];exact OY
theorem JS.standIn (a:JS L t)(n:Y):JS L (t.standIn n):=⟨a.led,rfl,pN n⟩
theorem JS.orStandIn (a:JS L t)(n:Y):JS L (t.orStandIn n):=by
 unfold SetTable.orStandIn;split
 .exact a
 .exact a.standIn n
theorem JS.layNew (a:JS L t)(f:QT<|Int×B)(h:Int)(x:B):JS L (NK t f h x).2.1:=by
 unfold NK;cases b:t.freeSlot h with
 |none=>exact a.standIn _
 | some q =>
  obtain⟨d,i⟩:=q;unfold SetTable.freeSlot at b;split at b
  .rename_i c e hp;obtain⟨rfl,g⟩:=fH a.dum _ h _ _ c e rfl hp;cases b;dsimp only[Oy]
   have k:JS L (t.put c).1:=⟨a.led,(by
    show(if SetTable.has t.dummies c=JZ then _ else t.dummies)=#[];rw[kN a.dum,QH Kv];exact a.dum),zg a.ris g⟩
   exact k.orStandIn _
  .cases b
theorem mB (f:Y->j (Y×Y))(d:∀a y,f a=O y->y.1=a)(n:Y):(((Kc n).filterMap f).map (·.1)).Pairwise (· < ·):=by rw[M8,List.pairwise_filterMap];refine OY.imp λ{a b} c y e z g=>?_;rw[d a y e,d b z g];exact c
theorem JS.relayAll (b:JS L t)(d:QT<|Int×B)(n:Y):JS L (N5 t d n).2.1:=by
 unfold N5;cases c:t.relaid (d.map (·.1)) n with
 |none=>exact b.standIn _
 | some q =>
  obtain⟨i,f⟩:=q;dsimp only;split
  .unfold SetTable.relaid SetTable.laid at c;cases h:SetTable.layClean (SetTable.sizeAbove n-1) (d.map (·.1)) with
   |none=>rw[h] at c;cases c
   |some g=>rw[h] at c;cases c;refine⟨b.led,rfl,?_⟩;show(List.toArray _).toList.Pairwise (· < ·);rw[List.toList_toArray];refine mB _ (λa y e=>?_) _;obtain⟨z,_,rfl⟩:=Qt.mp e;rfl
  .exact b.standIn _
end
noncomputable def jo:B->Int
|.int n _=>n
|_=>0
abbrev vals (a:QT<|Int×B):U Int:=a.toList.map λe=>jo e.2
def SetI (prog:QN)(w:J8)(h:QS)(a:QF)(L:QJ)(c:U Int):Prop:=
 ∃o b ep t,h.get? a=O o/\o.ExactSet/\o.data=.set b ep t/\RF (LG prog w) b.toList/\b.size<Q9/\t.fits b.size=JZ/\JS L t/\(vals b).Perm c
section
variable {prog:QN}{w:J8}{A:Kq}{E:B->J0->Prop}{s:J0}{a:QF}{L:QJ}{ks:U Int}{n:Int}{u:Tok}
theorem vT {v:B}{k:Int}(h:(LG prog w).is k v=JZ):∃t,v=.int k t:=Value.isInt_shape h
theorem vo {b:U<|Int×B}(h:RF (LG prog w) b){e:Int×B}(c:e∈b):∃k t,e.2=.int k t:=by obtain⟨⟨k,hk,_⟩,_⟩:=h e c;obtain⟨t,e⟩:=vT hk;exact⟨k,t,e⟩
theorem k8 {c:QT<|Int×B}(h:RF (LG prog w) c.toList)(k:Int):(∃e∈c.toList,(LG prog w).is k e.2=JZ) ↔ k∈vals c:=by
 constructor
 .rintro ⟨e,b,hk⟩;obtain⟨t,q⟩:=vT hk;exact Kl.mpr ⟨e,b,by rw[q];rfl⟩
 .intro hk;obtain⟨e,b,q⟩:=Kl.mp hk;obtain⟨f,t,d⟩:=vo h b;rw[d] at q;have q:f=k:=q;subst q;exact⟨e,b,by rw[d];exact intKind_is prog w _ t⟩
theorem ou {g:QJ->Sem Unit}(Q:∀(b:QJ) (k:J0) (y:Unit->J0->Prop),y () k->QK (J4 prog w) A (g b) y E k){o:Obj}{m:QT<|Int×B}{ep:Nat}{t:K5}(ho:s.heap.get? a=O o)(hex:o.ExactSet)(F:o.data=.set m ep t)
  {c:QT<|Int×B} {e:K5} (G:RF (LG prog w) c.toList) (p:c.size<Q9) (P:e.fits c.size=JZ) (I:JS L e) (hp:(vals c).Perm ks) {i:QJ} {R:j QJ->J0->Prop}
  (h:∀v,Heap.SameBut a s.heap v->SetI prog w v a L ks->R (O JZ) {s with heap:=v}):
  QK (J4 prog w) A (do
   storeSet a c e
   if i=JZ then do
    g (relayAll e c<|SetTable.grown c.size).2.2
    storeSet a (relayAll e c<|SetTable.grown c.size).1 (relayAll e c<|SetTable.grown c.size).2.1
    pure (O JZ)
   else pure (O JZ)) R E s:=by
 have f:∀(h:QS) (o:Obj) (m:QT (Int×B)) (ep:Nat) (t:K5) (d:QT (Int×B)) (l:K5),h.get? a=O o->o.data=.set m ep t->(h.update a (Obj.putSet d l)).get? a=O {o with data:=.set d (ep+1) l}:=λh o m ep t d l Z M=>by rw[Heap.get?_update_self (Obj.putSet d l) Z<|by rw[putSet_of d l M];rfl,putSet_of d l M]
 refine J1<|wpAny_storeSet_of ho F ?_<|Nu p;have x:=f _ _ _ _ _ c e ho F;have N:=Heap.SameBut.update s.heap a<|Obj.putSet c e;cases i with
 |false=>rw[QH Kv];exact J7<|h _ N ⟨_,c,_,e,x,hex,rfl,G,p,P,I,hp⟩
 |true=>
  rw[QG rfl];have r:=relayAll_perm e c<|SetTable.grown c.size;have D:=relayAll_fits e c<|SetTable.grown c.size;have H:=I.relayAll c<|SetTable.grown c.size;generalize N5 e c (SetTable.grown c.size)=Y at r D H ⊢;have z:Y.1.size=c.size:=by rw[<- KD,r.length_eq,KD]
  refine J1<|Q _ _ _<|J1<|wpAny_storeSet_of x rfl ?_ (by rw[z];exact Nu p);exact J7<|h _ (N.trans<|Heap.SameBut.update _ a _) ⟨_,Y.1,_,Y.2.1,f _ _ _ _ _ Y.1 Y.2.1 x rfl,hex,rfl,G.perm r,by rw[z];exact p,D,H,(r.map _).trans hp⟩
noncomputable def dz (ks:U Int)(n:Int):U Int:=if n∈ks then ks else ks++[n]
theorem wW {Q:QJ->J0->Prop}(hS:SetI prog w s.heap a L ks)(hk:ks.length+1<Q9)(h:∀b g,Heap.SameBut a s.heap g->SetI prog w g a L (dz ks n)->Q b {s with heap:=g}):
  QK (J4 prog w) A (setAddHashed a (.int n u)<|Mc n) Q E s:=by
 obtain⟨o,d,ep,t,ho,hex,y,l,hb,N,js,hp⟩:=hS;have hl:d.size=ks.length:=by rw[<- hp.length_eq,J6,KD]
 unfold setAddHashed setAddHashedIn;refine K2<|J1<|MA ho y N ?_;dsimp only;rw[byScan_of (knd:=LG prog w) rfl hb l,QG rfl];unfold setAddByScan;refine J1<|J1<|Mu<|J1<|wpAny_setScan_of (knd:=LG prog w) (intKind_is prog w n u) ho y N l ?_;cases hr:List.findIdx? (λe=>(LG prog w).is n e.2) d.toList with
 |some c=>obtain⟨hj,Z,_⟩:=List.findIdx?_eq_some_iff_getElem.mp hr;have P:n∈ks:=hp.mem_iff.mp<|(k8 l n).mp ⟨d.toList[c],Lj hj,Z⟩;have q:=h JY s.heap (Heap.SameBut.refl a s.heap) ⟨o,d,ep,t,ho,hex,y,l,hb,N,js,by unfold dz;rw[QG P];exact hp⟩;exact J7<|J7 q
 | none =>
  have P:n ∉ ks:=λz=>by obtain⟨e,q1,q2⟩:=(k8 l n).mpr<|hp.mem_iff.mpr z;have:=List.findIdx?_eq_none_iff.mp hr e q1;rw[q2] at this;cases this
  dsimp only;have m:=layNew_perm t d (Mc n)<|.int n u;have G:=layNew_fits t d (Mc n)<|.int n u;have H:=js.layNew d (Mc n)<|.int n u
  have M:∀(b:QJ) (f:J0) (I:Unit->J0->Prop),I () f->QK (J4 prog w) A (match b with|true=>rule "set.scan.the-table-gave-way" |false=>pure ()) I E f:=λb f I hq=>by
   cases b
   .exact J7 hq
   .exact Mu hq
  show QK _ _ (match NK t d (Mc n) (.int n u) with|(d,t,p,r)=>_) _ _ _;generalize NK t d (Mc n) (.int n u)=Y at m G H ⊢;obtain⟨i,t1,wd,r⟩:=Y;dsimp only at m G H ⊢;rw[OD] at m;have D:RF (LG prog w) i.toList:=(l.push (k:=n) (x:=.int n u) (intKind_is prog w n u) rfl).perm m;have F:(vals i).Perm (dz ks n):=by unfold dz;rw[QH P];refine(m.map λe=>jo e.2).trans ?_;rw[Mk];exact hp.append_right _
  have v:i.size<Q9:=by rw[<- KD,m.length_eq,Kk,KD];show d.size+1<_;lia
  refine J1<|M _ _ _ ?_;have fin:∀g,Heap.SameBut a s.heap g->SetI prog w g a L (dz ks n)->QK (J4 prog w) A (pure JZ) Q E {s with heap:=g}:=λg sb q=>J7<|h JZ g sb q;cases hpl:t1.plain with
  |true=>rw[QG rfl];refine J1 ?_;rw[hashByValue_scannable 8 (x:=.int n u) rfl];refine J7 ?_;rw[show plainKind (.int n u)=JZ from rfl,QG rfl];exact ou M ho hex y D v G H F fin
  |false=>rw[QH Kv];refine J1<|J7 ?_;rw[QG rfl];exact ou M ho hex y D v G H F fin
end
end L3

namespace L3
open PySem PySem.Spec PyProof.Rows L2
section
variable {prog:QN}{w:J8}{A:Kq}{E:B->J0->Prop}{s:J0}
theorem sW (a:B){b:B->J0->Prop}(h:b (.ref s.heap.objs.size) {s with heap:=s.heap.push {cls:=.type "set",dict:=J,data:=.set #[] 0 (.fresh 0 0<|!w.params.followText "set-order")}}):
  KZ (J4 prog w) A (.call (.builtin "set.__new__") ⟨[.type "set",a],[]⟩) (Rh b E) s:=by
 apply codeAny_of_tree
 have k:QK (J4 prog w) A.in1 (K9.«set.__new__» ⟨[.type "set",a],[]⟩) (λfin c=>match fin with | .done f=>Rh b E (.ok f) c | .again i=>i.quiet=JZ/\KZ (J4 prog w) A i (Rh b E) c) (λe c=>Rh b E (.error e) c) s:=by
  unfold K9.«set.__new__» Builtin.Frozenset.newClass;have z:=sub_set_self;obtain⟨hp,g,d,tk,os⟩:=s;dsimp only
  wp_walk
  exact Mz<|J7<|J1<|wpAny_alloc<|J7<|J7 h
 have ask:QK (J4 prog w) A.in1 (do checkBuiltinCall "set.__new__" ⟨[.type "set",a],[]⟩;again (.builtin "set.__new__" ⟨[.type "set",a],[]⟩)) (λfin c=>match fin with | .done f=>Rh b E (.ok f) c | .again i=>i.quiet=JZ/\KZ (J4 prog w) A i (Rh b E) c) (λe c=>Rh b E (.error e) c) s:=
  J1 (Me (F.newCall_set_1 a)<|J7 ⟨MY F.plain_set_new _,Mx F.entry_set_new<|by rw[Around.under_plainId F.plain_set_new _];exact k⟩)
 exact ask
end
theorem kx:∀{b:U B} {a:U Int} {i:Y} {v:B},Q5 b a->b[i]?=O v->∃y t,a[i]?=O y/\v=Value.int y t
|_,_,_,_,.nil,h=>by simp at h
|_,_,0,_,.cons y t r,h=>by rw[M6] at h;cases h;exact⟨y,t,rfl,rfl⟩
|_,_,i+1,_,.cons y t r,h=>by rw[Ld] at h;obtain⟨z,c,e1,e2⟩:=kx r h;exact⟨z,c,by rw[Ld];exact e1,e2⟩
theorem SetI.at {prog:QN}{w:J8}{h h':QS}{a:QF}{L:QJ}{b:U Int}(x:SetI prog w h a L b)(e:∀o,h.get? a=O o->h'.get? a=O o):SetI prog w h' a L b:=by obtain⟨o,c,ep,t,d,f⟩:=x;exact⟨o,c,ep,t,e o d,f⟩
theorem lI (a:U Int)(n:Int):(dz a n).length<=a.length+1:=by
 unfold dz;split
 .omega
 .rw[Kk,KN];lia
theorem iI {prog:QN}{w:J8}{A:Kq}(Z:A.handled=J){R:Rq->J0->Prop}{I S t:QF}{L:QJ}(n:S≠I)(P:S≠t)(Q:t≠I){a:QT B}{c:U Int}(p:Q5 a.toList c)(h:c.length<1000):∀(k i:Y) (s:J0) (ks:U Int),i+k=c.length->ks.length<=i->s.heap.IsListIter I t i->s.heap.IsList t a->SetI prog w s.heap S L ks ->
 (∀g tk,(∀b o,b≠S->b≠I->s.heap.get? b=O o->g.get? b=O o)->SetI prog w g S L ((c.drop i).foldl dz ks)->R (Except.ok<|Flow.ret Value.none) {s with heap:=g,toks:=tk}) ->
 KZ (J4 prog w) A (Code.builtin "set.update.loop" {pos:=[Value.ref S,Value.ref I]}) R s
|0,i,s,ks,hk,hl,z,r,G,q=>by have m:a.toList.length=c.length:=p.length;have hn:a[i]?=none:=OX (by rw[<- KD];lia);refine Mx Qu ?_;unfold K9.«set.update.loop»;refine J1<|Rg Z z r hn λg N=>?_;refine J7 ?_;have e:c.drop i=[]:=List.drop_eq_nil_of_le (by lia);rw[e] at q;exact q g s.toks (λb o _ d h=>N b o d h)<|G.at λo g1=>N S o n g1
| k+1,i,s,ks,hk,hl,z,r,G,q=>by
 have m:a.toList.length=c.length:=p.length;have hi:i<c.length:=by lia
 obtain⟨v,hv⟩:∃v,a.toList[i]?=O v:=⟨_,Kj<|by lia⟩;obtain⟨y,t',hy,rfl⟩:=kx p hv;refine Mx Qu ?_;unfold K9.«set.update.loop»;refine J1<|Rb z r (x:=Value.int y t') (by simpa using hv) λg D F=>?_;refine J1<|K2 ?_;unfold setAdd;refine K2<|J1<|wpAny_pyHash_int ?_;refine wW (L:=L) (ks:=ks) (G.at λo e=>(F.2 S n).trans e) (by have hsb:2000<Q9:=(by decide);lia) λb g2 f H=>?_;refine J7 ⟨(by first|rfl|kernel_rfl|(unfold Code.quiet;kernel_rfl)|simp[Code.quiet]),?_⟩;have ed:c.drop i=y::c.drop (i+1):=by rw[OR hi];have:=Kj hi;rw[this] at hy;cases hy;rfl
 rw[ed] at q;refine iI Z n P Q p h k (i+1) _ (dz ks y) (by lia) ?_ (D.at λo e=>(f.2 I<|KS n).trans e) ?_ H λu tk keep M=>q u tk (λb o l d h=>keep b o l d<|(f.2 b l).trans<|(F.2 b d).trans h) M
 .have:=lI ks y;lia
 .obtain ⟨o,e1,e2⟩:=r;exact⟨o,(f.2 t<|KS P).trans<|(F.2 t Q).trans e1,e2⟩
theorem qJ {prog:QN}{w:J8}{A:Kq}{E:B->J0->Prop}{s:J0}{t:QF}{d:QT B}{Q:B->J0->Prop}(D:A.handled=J)(p:s.heap.IsList t d){l:U Int}(I:Q5 d.toList l)(k:l.length<1000)
  (q:∀g tk,(∀b o,s.heap.get? b=O o->g.get? b=O o)->SetI prog w g s.heap.objs.size (!w.params.followText "set-order") (l.foldl dz [])->Q (.ref s.heap.objs.size) {s with heap:=g,toks:=tk}):QK (J4 prog w) A (call (Value.type "set") [Value.ref t]) Q E s:=by
 obtain⟨c0,P,G⟩:=F.called_set.mro;generalize v:(!w.params.followText "set-order")=L at q;refine Rr<|codeAny_of_tree ?_;refine J7 ?_;refine⟨(by first|rfl|kernel_rfl),Mx F.entry_type_call ?_⟩;rw[Around.under_plain (weight_type_call_type _ _ _) rfl];unfold K9.«type.__call__»;refine MU (by rfl) ?_;refine MU (by show decide _=JY;rw[F.called_set.canCreate];rfl) ?_;rw[F.typeCall_set_1];refine J1<|J7 ?_;rw[G];refine J1<|J7 ?_;refine MU (by rfl) ?_;rw[F.called_set.made];refine J1<|J7 ?_;refine J1<|J7 ?_;refine J1<|K2<|Rr<|sW _ ?_;rw[v];have m:Shared.TypeIs {heap:=s.heap.push {cls:=Value.type "set",data:=Data.set #[] 0 (SetTable.fresh 0 0 L)},gens:=s.gens,drawn:=s.drawn,toks:=s.toks,os:=s.os} (Value.ref s.heap.objs.size) "set":=⟨_,Heap.get?_push_size _ rfl,rfl⟩;refine J1<|Nt (T:="set") (b:=JZ) m F.called_set.sub ?_;refine MU (by rfl) ?_;refine J1<|K2<|MT m F.called_set.init<|Rr<|codeAny_call_builtin F.called_set.init.plain F.entry_set_init<|check_set_init_1 m ?_;have f:Heap.IsList (s.heap.push {cls:=Value.type "set",data:=Data.set #[] 0 (SetTable.fresh 0 0 L)}) t d:=by obtain⟨o,e,r⟩:=p;exact⟨o,Heap.get?_push_of_some _ e,r⟩
 have H:t≠s.heap.objs.size:=by obtain⟨o,e,_⟩:=p;exact Km<|Heap.lt_size e
 unfold K9.«set.__init__»;have i:(s.heap.push {cls:=Value.type "set",data:=Data.set #[] 0 (SetTable.fresh 0 0 L)}).get? s.heap.objs.size=O {cls:=Value.type "set",data:=Data.set #[] 0 (SetTable.fresh 0 0 L)}:=Heap.get?_push_size _ rfl;have M:=F.sub_list_set;have N:=F.sub_list_frozenset;have y:Shared.TypeIs {heap:=s.heap.push {cls:=Value.type "set",data:=Data.set #[] 0 (SetTable.fresh 0 0 L)},gens:=s.gens,drawn:=s.drawn,toks:=s.toks,os:=s.os} (Value.ref t) "list":=by obtain⟨o,e,c,_⟩:=f;exact⟨o,e,c⟩
 refine J1<|Me (a:=()) rfl ?_
 wp_walk using MX f
 have e1:(s.heap.push {cls:=Value.type "set",data:=Data.set #[] 0 (SetTable.fresh 0 0 L)}).objs.size=s.heap.objs.size+1:=Heap.size_push ..;have n:t<s.heap.objs.size:=by obtain⟨o,e,_⟩:=p;exact Heap.lt_size e
 have x:SetI prog w ((s.heap.push {cls:=Value.type "set",data:=Data.set #[] 0 (SetTable.fresh 0 0 L)}).push {cls:=Value.type "list_iterator",data:=Data.fields #[Value.ref t,Value.int 0 0]}) s.heap.objs.size L []:=
  ⟨_,#[],0,SetTable.fresh 0 0 L,Heap.get?_push_of_some _ i,⟨rfl,rfl,rfl⟩,rfl,(λe z=>by cases z),by decide,by cases L<;>rfl,⟨rfl,rfl,Pg⟩,NI _⟩
 refine iI (A:=A.in1.in1) (L:=L) D (by rw[e1];exact Km<|M7 _) (KS H) (by rw[e1];exact Km<|LK n) I k l.length 0 _ [] (LD _) (Kx _) ⟨_,Heap.get?_push_size _ rfl,rfl,rfl⟩ (by obtain⟨o,e,r⟩:=f;exact⟨o,Heap.get?_push_of_some _ e,r⟩) x λg tk keep u=>?_;refine J7<|J7 ?_;refine MU (by rfl)<|J7 ?_;refine q g tk (λb o k=>?_) (by rw[KQ] at u;exact u);have h:b<s.heap.objs.size:=Heap.lt_size k;exact keep b o (Km h) (by rw[e1];exact Km<|LK h)<|Heap.get?_push_of_some _<|Heap.get?_push_of_some _ k
end L3

namespace L3
open PySem PySem.Spec PyProof.Rows L2
theorem slot_setiter_next:Slot "set_iterator" "__next__" "set_iterator.__next__":=
 .of (owner:="set_iterator") (n:="__next__") (by rw[Nj,Nq];kernel_rfl) (by decide +kernel) (by decide +kernel) (by decide +kernel)
  (by first|exact .inl (by decide +kernel)|exact .inr<|by decide +kernel) (by rw[Ni];kernel_rfl)
theorem b6:entryFor table "set_iterator.__next__"=O K9.«set_iterator.__next__»:=PySem.entryFor_of_tree<|by kernel_rfl
theorem gS:entryFor table "set.__iter__"=O K9.«frozenset.__iter__»:=Pu (id':="frozenset.__iter__") (by kernel_rfl) rfl (by decide +kernel) (by kernel_rfl)
theorem cj (a:B):argsOk "set_iterator.__next__" ⟨[a],[]⟩:=by unfold argsOk;kernel_rfl
structure SetAt (h:QS)(a:QF)(es:QT (Int×B))(ep:Y)(t:K5):Prop where
 at_:∃o,h.get? a=O o/\o.ExactSet/\o.data=.set es ep t
 fit:t.fits es.size=JZ
def SIt (h:QS)(I a:QF)(first:B)(i n ep:Y):Prop:=∃o,h.get? I=O o/\o.cls=.type "set_iterator"/\o.data=.fields #[first,Kr i,.ref a,Kr n,Kr ep]
section
variable {prog:QN}{w:J8}{A:Kq}{E:B->J0->Prop}{s:J0}{I a:QF}{es:QT (Int×B)}{ep:Y}{t:K5}{i n:Y}{slot:Y}
theorem kS {Q:j B->J0->Prop}(f:A.handled=J)(k:∀d,(∀b o,s.heap.get? b=O o->d.get? b=O o)->Q J {s with heap:=d}):
  QK (J4 prog w) A.in1 (newExc (.type "StopIteration") [] >>= λe=>(raiseNew e:Sem Fin)) (λfin c=>∃r,fin=.done (.ret r)/\QK (J4 prog w) A (pure (O r)) Q E c) (λe c=>QK (J4 prog w) A (do if <- isInstance e (.type "StopIteration") then pure J else throw e) Q E c) s:=by
 refine J1 ?_;simp only[newTuple,newExc];refine J1 (Ly ?_<|by size_fits);refine J1 (m:=firstArgMember _ _) (Me (a:=Value.none) (by first|rfl|(simp only[firstArgMember];rfl))<|Ly ?_<|by size_fits);simp only[raiseNew];refine J1<|wpAny_handled ?_;rw[show A.in1.handled=J from f];refine J1<|J7<|wpAny_throw ?_;refine J1<|Nt (T:="StopIteration") (b:=JZ) ⟨_,Heap.get?_push_size _ rfl,rfl⟩ isSubtype_stop ?_;exact J7<|k _ λb o e=>Heap.get?_push_of_some _<|Heap.get?_push_of_some _ e
theorem dN {Q:j B->J0->Prop}(G:SIt s.heap I a (Kr slot) i es.size ep)(H:SetAt s.heap a es ep t)(N:A.handled=J)(r:j<|B×Y)(P:∀(y:Kq) (z:B->J0->Prop) (l:j (B×Y)->J0->Prop),l r s->QK (J4 prog w) y (RA a slot i ep) l z s)
  (D:∀x f c,r=O (x,f)->SIt c I a (Kr f) (i+1) es.size ep->Heap.SameBut I s.heap c->Q (O x) {s with heap:=c})
  (F:∀c,r=J->Heap.ExtBut I s.heap c->Q J {s with heap:=c}):
  QK (J4 prog w) A (LL<|.ref I) Q E s:=by
 obtain⟨o,ho,v,d⟩:=id G;obtain⟨⟨os,h,hex,g⟩,M⟩:=H;have u:s.TypeIs (.ref I) "set_iterator":=⟨o,ho,v⟩;unfold LL
 refine J1 (wpAny_attempt (MT (name:=Str.ofString "__next__") u slot_setiter_next
  (L4 slot_setiter_next u b6 ?_<|cj _)))
 unfold K9.«set_iterator.__next__»;refine J1<|Me (a:=(Value.ref I,[])) rfl ?_;dsimp only;refine J1<|wpAny_fieldsOf ho d ?_;show QK _ _ (setEntries a >>= _) _ _ s;refine J1<|NX h g M ?_;rw[QH<|by simp];show QK _ _ (RA a (slot:Int).toNat (i:Int).toNat (ep:Int).toNat >>= _) _ _ s;rw[LJ,LJ,LJ];refine J1<|P _ _ _ ?_;cases r with
 |some p=>obtain⟨x,f⟩:=p;dsimp only;refine J1<|Mw ho d (by simp) ?_;have m:=Heap.get?_update_self (Obj.mapFields (·.setIfInBounds 0 (Kr f))) ho<|Obj.isFreed_of_fields<|Obj.data_mapFields d _;refine J1<|Mw m (Obj.data_mapFields d _) (by simp) ?_;refine J7 ⟨x,rfl,J7<|D x f _ rfl ?_ ((Heap.SameBut.update _ I _).trans<|Heap.SameBut.update _ I _)⟩;refine⟨_,Heap.get?_update_self _ m<|Obj.isFreed_of_fields<|Obj.data_mapFields (Obj.data_mapFields d _) _,by rw[Obj.cls_mapFields,Obj.cls_mapFields];exact v,?_⟩;rw[Obj.data_mapFields<|Obj.data_mapFields d _];simp[Kr]
 |none=>dsimp only;refine J1<|Mw ho d (by simp) ?_;show QK _ _ (newExc (.type "StopIteration") [] >>= _) _ _ _;exact kS N λc k=>F c rfl λb o L e=>k b o<|(Heap.get?_update_other _ _<|KS L).trans e
theorem gD {Q:j B->J0->Prop}{T:QF}{f:U Y}(L:SIt s.heap I a (.ref T) i es.size ep)(M:SetAt s.heap a es ep t)(m:s.heap.IsTuple T (f.map λ(k:Y)=>Kr k).toArray)(N:A.handled=J)
  (hp:∀k∈f,k<es.size)
  (G:∀x k c,f[i]?=O k->es[k]?=O x->SIt c I a (.ref T) (i+1) es.size ep->Heap.SameBut I s.heap c->Q (O x.2) {s with heap:=c})
  (H:∀c,f[i]?=J->Heap.ExtBut I s.heap c->Q J {s with heap:=c}):
  QK (J4 prog w) A (LL<|.ref I) Q E s:=by
 obtain⟨o,ho,y,d⟩:=id L;obtain⟨⟨os,l,hex,g⟩,z⟩:=M;obtain⟨ot,p,P,Z,D⟩:=m;have u:s.TypeIs (.ref I) "set_iterator":=⟨o,ho,y⟩;unfold LL
 refine J1 (wpAny_attempt (MT (name:=Str.ofString "__next__") u slot_setiter_next
  (L4 slot_setiter_next u b6 ?_<|cj _)))
 unfold K9.«set_iterator.__next__»;refine J1<|Me (a:=(Value.ref I,[])) rfl ?_;dsimp only;refine J1<|wpAny_fieldsOf ho d ?_;show QK _ _ (setEntries a >>= _) _ _ s;refine J1<|NX l g z ?_;rw[QH<|by simp];show QK _ _ (seqItems? (.ref T) >>= _) _ _ s;refine J1<|wpAny_seqItems p D ?_;dsimp only;show QK _ _ (match (f.map λ(k:Y)=>Kr k).toArray[((i:Y):Int).toNat]? with|some (.int r _)=>_|some _=>_|none=>_) _ _ s;rw[LJ,List.getElem?_toArray,Kz];cases hk:f[i]? with
 |some k=>have h:k<es.size:=hp k<|LX hk;show QK _ _ (setNextDrawn a (k:Int).toNat ((ep:Y):Int).toNat >>= _) _ _ s;rw[LJ,LJ];unfold setNextDrawn;refine J1<|J1<|MA l g z ?_;dsimp only;rw[QH<|by simp,MJ h];refine J1<|J7<|J7 ?_;refine J1<|Mw ho d (by simp) ?_;refine J7 ⟨_,rfl,J7<|G es[k] k _ hk (MJ h) ?_ (Heap.SameBut.update _ I _)⟩;refine⟨_,Heap.get?_update_self _ ho<|Obj.isFreed_of_fields<|Obj.data_mapFields d _,by rw[Obj.cls_mapFields];exact y,?_⟩;rw[Obj.data_mapFields d];simp[Kr]
 |none=>dsimp only[Option.map_none];refine J1<|Mw ho d (by simp) ?_;have F:=Heap.get?_update_self (Obj.mapFields (·.setIfInBounds 0 (Kr 0))) ho<|Obj.isFreed_of_fields<|Obj.data_mapFields d _;refine J1<|Mw F (Obj.data_mapFields d _) (by simp) ?_;show QK _ _ (newExc (.type "StopIteration") [] >>= _) _ _ _;exact kS N λc k=>H c hk λb o v e=>k b o<|(Heap.get?_update_other _ _<|KS v).trans<|(Heap.get?_update_other _ _<|KS v).trans e
end
end L3

namespace L3
open PySem PySem.Spec PyProof.Rows L2
theorem cp:Slot "set_iterator" "__iter__" "set_iterator.__iter__":=
 .of (owner:="set_iterator") (n:="__iter__") (by rw[Nj,Nq];kernel_rfl) (by decide +kernel) (by decide +kernel) (by decide +kernel)
  (by first|exact .inl (by decide +kernel)|exact .inr<|by decide +kernel) (by rw[Ni];kernel_rfl)
theorem ee:entryFor table "set_iterator.__iter__"=O K9.«dict_keyiterator.__iter__»:=Pu (id':="dict_keyiterator.__iter__") (by kernel_rfl) rfl (by decide +kernel) (by kernel_rfl)
theorem ez (a:B):argsOk "set_iterator.__iter__" ⟨[a],[]⟩:=by unfold argsOk;kernel_rfl
section
variable {prog:QN}{w:J8}{A:Kq}{E:B->J0->Prop}{s:J0}{I a:QF}{es:QT (Int×B)}{ep:Y}{t:K5}{i n:Y}{slot:Y}
theorem gQ {b:Type}{l:U b}{i:Y}(h:i<l.length):(l[i]::l.eraseIdx i).Perm l:=by rw[List.eraseIdx_eq_take_drop_succ];refine List.perm_middle.symm.trans ?_;rw[<- OR h,Ov]
theorem qI {b:Source}{n:Y}{Q:Y->J0->Prop}(c:0<n)(h:∀k d,k<n->Q k {s with drawn:=d}):QK (J4 prog w) A (choose b n) Q E s:=fun e p _=>⟨by lia,h _ _<|Nat.mod_lt _ c⟩
theorem oM {f:Type}:∀(n:Y) (c:U f) {s:J0} {Q:U f->J0->Prop},c.length=n->(∀e d,e.Perm c->Q e {s with drawn:=d})->QK (J4 prog w) A (drawOrder n c) Q E s
|0,c,s,Q,b,h=>by rw[ON.mp b] at h ⊢;unfold drawOrder;exact J7<|h [] s.drawn<|NI _
|n+1,[],s,Q,b,h=>by cases b
|n+1,x::c,s,Q,b,h=>by unfold drawOrder;refine J1<|qI (by rw[b];lia) λk d hk=>?_;rw[Kj hk];dsimp only;refine J1<|oM n ((x::c).eraseIdx k) (by rw[OT hk,b];rfl) λe g hp=>J7 ?_;exact h _ _<|(hp.cons _).trans<|gQ hk
theorem oZ {b:Type}(next:Y->Y):∀(f k:Y) (left:U b) (out:QT b),left.length=f->(pickOrder.go next f k left out).toList.Perm (out.toList++left)
|0,k,left,out,h=>by rw[ON.mp h,KR];exact NI _
|f+1,k,left,out,h=>by
 have hk:next k % left.length<left.length:=Nat.mod_lt _<|by lia
 unfold pickOrder.go;rw[Kj hk];refine(oZ next f (k+1) _ _ (by rw[OT hk,h];rfl)).trans ?_;rw[OD,Lr];exact List.Perm.append_left _<|gQ hk
theorem dF {c:Type}(next:Y->Y)(b:QT c):(LM next b).toList.Perm b.toList:=by
 have:=oZ next b.size 0 b.toList #[] (KD)
 exact this
theorem i8 (g:SetAt s.heap a es ep t)(d:w.params.followText "set-order"=JZ){Q:j (B×Y)->J0->Prop}(h:Q (((LM (w.params.setOrder a ep) es)[i]?).map λe=>(e.2,slot)) s):QK (J4 prog w) A (RA a slot i ep) Q E s:=by obtain⟨⟨os,c,hex,b⟩,f⟩:=g;unfold RA Ru;refine J1<|MA c b f ?_;dsimp only;refine J1<|J1<|Mz<|J7 ?_;rw[show(J4 prog w).w.params.followText "set-order"=JZ from d,QG rfl,QH<|by simp];unfold setWalk Ru;refine J1<|J1<|MA c b f ?_;dsimp only;refine J1<|J1<|Mz<|J7 ?_;rw[show(J4 prog w).w.params.followText "set-order"=JZ from d,QG rfl];refine J1<|Mz<|J7<|J7 ?_;exact h
theorem ie (f:SetAt s.heap a es ep t)(e:w.params.followText "set-order"=JY)(k:t.led=JZ)(hp:(!t.plain&&decide (es.size>1))=JY){Q:j (B×Y)->J0->Prop}
  (h:Q (match es[SetTable.below t.place slot]?,t.place[SetTable.below t.place slot]? with|some (_,x),O b=>O (x,b+1)|_,_=>J) s):QK (J4 prog w) A (RA a slot i ep) Q E s:=by
 obtain⟨⟨os,d,hex,c⟩,g⟩:=f;unfold RA Ru;refine J1<|MA d c g ?_;dsimp only;refine J1<|J1<|Mz<|J7 ?_;rw[show(J4 prog w).w.params.followText "set-order"=JY from e,QH Kv];rw[QH<|by show¬((!t.plain&&decide (es.size>1))=JZ);rw[hp];exact Kv];show QK _ _ ((if(!t.led&&!es.isEmpty)=JZ then unsupported "set:maker-not-led" else pure ()) >>= _) _ _ _;rw[k,QH<|by simp];exact J1<|J7<|J7 h
end
end L3

namespace L3
open PySem PySem.Spec PyProof.Rows L2
abbrev itO (a:QF)(first:B)(n ep:Y):Obj:={cls:=.type "set_iterator",data:=.fields #[first,Kr 0,.ref a,Kr n,Kr ep]}
section
variable {prog:QN}{w:J8}{A:Kq}{E:B->J0->Prop}{s:J0}{I a:QF}{es:QT (Int×B)}{ep:Y}{t:K5}{i n:Y}
theorem SetAt.ty (d:SetAt s.heap a es ep t):s.TypeIs (.ref a) "set":=by obtain⟨⟨o,b,c,_⟩,_⟩:=d;exact⟨o,b,c.1⟩
theorem rH {Q:B->J0->Prop}(p:SetAt s.heap a es ep t)(y:es.size<Q9)(D:(w.params.followText "set-order"=JZ\/(w.params.followText "set-order"=JY/\(!t.plain&&decide (es.size>1))=JY))->Q (.ref s.heap.objs.size) {s with heap:=s.heap.push<|itO a (Kr 0) es.size ep})
  (G:∀(g:U Y) d,g.Perm (Kc es.size)->Q (.ref<|s.heap.objs.size+1) {s with heap:=(s.heap.push {cls:=.type "tuple",data:=.seq (g.map λ(k:Y)=>Kr k).toArray}).push<|itO a (.ref s.heap.objs.size) es.size ep,drawn:=d}):
  QK (J4 prog w) A (RI<|.ref a) Q E s:=by
 have u:=p.ty;obtain⟨⟨os,f,hex,c⟩,l⟩:=id p;refine wpAny_pyIter_slot u F.slot_set_iter<|L4 F.slot_set_iter u gS ?_<|F.args_set_iter_1 _;unfold K9.«frozenset.__iter__» Builtin.Frozenset.slot0 slotArgs;simp only[List.isEmpty_nil,NF,Oi,↓reduceIte,bind_assoc,OK,Q8];unfold Builtin.Frozenset.addrOf Builtin.Frozenset.sizeOf;refine J1<|J7 ?_
 try dsimp only
 refine J1<|J7 ?_;refine J1<|J1<|NX f c l<|J7 ?_;unfold setDrawn Ru;refine J1<|J1<|MA f c l ?_;dsimp only;refine J1<|J1<|Mz<|J7<|J7 ?_
 have fin:∀(first:B) (b:J0),(∀o,s.heap.get? a=O o->b.heap.get? a=O o)->Q (.ref b.heap.objs.size) {b with heap:=b.heap.push<|itO a first es.size ep}->QK (J4 prog w) A.in1 (do
   let ep' <- setEpoch a;let it <- newFields "set_iterator" [first,Kr 0,.ref a,Kr es.size,Kr ep']
   ret it) (λfin b=>∃v,fin=.done (.ret v)/\∃m r,b.TypeIs v m/\MS (.type m) "__next__"=pure (O r)/\Q v b) E b:=λfirst b k q=>
  J1 (wpAny_setEpoch_of (k _ f) c l<|J1<|Ly<|J7 ⟨_,rfl,"set_iterator",_,⟨_,Heap.get?_push_size _ rfl,rfl⟩,slot_setiter_next.lookup,q⟩)
 cases h:(!w.params.followText "set-order"&&(!t.plain&&decide (es.size>1))) with
 |false=>
  rw[QH<|by show¬((!w.params.followText "set-order"&&(!t.plain&&decide (es.size>1)))=JZ);rw[h];exact Kv];refine J1<|J7<|fin _ s (λ_ e=>e)<|D ?_;cases x:w.params.followText "set-order" with
  |true=>exact .inl rfl
  |false=>rw[x] at h;exact .inr ⟨rfl,h⟩
 | true =>
  rw[QG<|by show(!w.params.followText "set-order"&&(!t.plain&&decide (es.size>1)))=JZ;exact h];refine J1<|oM es.size (Kc es.size) (KY) λg d hp=>?_;unfold newTuple;refine J1<|Ly ?_<|by show(g.map λ(k:Y)=>Kr k).toArray.size<=sizeLine;rw[Ko,J6,hp.length_eq,KY];exact Nu y
  exact fin _ _ (λo e=>Heap.get?_push_of_some _ e) (by
   have z:=G g d hp;rw[Heap.size_push];exact z)
theorem SIt.at {h h':QS}{first:B}(x:SIt h I a first i n ep)(e:∀o,h.get? I=O o->h'.get? I=O o):SIt h' I a first i n ep:=by obtain⟨o,b,c⟩:=x;exact⟨o,e o b,c⟩
theorem SetAt.at' {h b:QS}(x:SetAt h a es ep t)(e:∀o,h.get? a=O o->b.get? a=O o):SetAt b a es ep t:=by obtain⟨⟨o,c,d⟩,f⟩:=x;exact⟨⟨o,e o c,d⟩,f⟩
theorem SIt.self {first:B}{Q:B->J0->Prop}(x:SIt s.heap I a first i n ep)(h:Q (.ref I) s):QK (J4 prog w) A (RI<|.ref I) Q E s:=by obtain⟨o,c,d,_⟩:=x;have b:s.TypeIs (.ref I) "set_iterator":=⟨o,c,d⟩;refine wpAny_pyIter_slot b cp<|L4 cp b ee ?_<|ez _;show QK _ _ (ret<|.ref I) _ _ s;exact J7 ⟨_,rfl,"set_iterator",_,b,slot_setiter_next.lookup,h⟩
theorem qS (u:A.handled=J)(l:a≠I)(r:w.params.followText "set-order"=JZ):Walks prog w A I [I,a] [I] es.size (λi v=>((LM (w.params.setOrder a ep) es).toList.map (·.2))[i]?=O v) (λi h=>SIt h I a (Kr 0) i es.size ep/\SetAt h a es ep t) where
 sub:=λb d=>by simp at d;simp[d]
 frame:=λ_ _ _ c hk=>⟨c.1.at λo e=>hk I (by simp) o e,c.2.at' λo e=>hk a (by simp) o e⟩
 item:=λi s Q E N c g=>by
  have hp:=dF (w.params.setOrder a ep) es;have L:(LM (w.params.setOrder a ep) es).size=es.size:=by rw[<- KD,hp.length_eq,KD]
  have k:(LM (w.params.setOrder a ep) es)[i]?=O (LM (w.params.setOrder a ep) es)[i]:=MJ (by lia);refine dN (slot:=0) c.1 c.2 u _ (λD F G m=>i8 c.2 r m) (λx M f e y p=>?_) λf e _=>?_
  .rw [k] at e;cases e;exact g _ f s.toks (by rw[Kz,M5,k];rfl) ⟨y,c.2.at' λo e=>(p.2 a l).trans e⟩ λb o d e=>(p.2 b λz=>d<|by simp[z]).trans e
  .rw[k] at e;cases e
 done:=λs Q E c g=>by
  have hp:=dF (w.params.setOrder a ep) es;have L:(LM (w.params.setOrder a ep) es).size=es.size:=by rw[<- KD,hp.length_eq,KD]
  have k:(LM (w.params.setOrder a ep) es)[es.size]?=none:=OX (by lia);refine dN (slot:=0) c.1 c.2 u _ (λD F G m=>i8 c.2 r m) (λx M f e y p=>?_) λf e H=>?_
  .rw[k] at e;cases e
  .exact g f s.toks λb o d e=>H b o (λz=>d<|by simp[z]) e
 self:=λ_ _ _ _ c g=>c.1.self g
def slN (t:K5):Y->Y
|0=>0
|i+1=>t.place.getD i 0+1
theorem kQ {t:K5}(f:Ris t.place):∀i,i<=t.place.size->SetTable.below t.place (slN t i)=i
|0,_=>by
 obtain⟨g,c,e⟩:=ic f 0;rcases Pm (SetTable.below t.place 0) with z|z
 .exact z
 .exact QL (c 0 z) (Ml _)
| i+1,u=>by
 show SetTable.below t.place (t.place.getD i 0+1)=i+1;obtain⟨g,c,e⟩:=ic f<|t.place.getD i 0+1;have l:∀k d h,k<t.place.size->t.place.getD k d=t.place.getD k h:=λk d h hk=>by simp[M4,hk]
 generalize r:SetTable.below t.place (t.place.getD i 0+1)=b at g c e ⊢;rcases Nat.lt_trichotomy b (i+1) with z|z|z
 .have m:=e i (by lia) (by lia);have o:=l i (t.place.getD i 0+1) 0 (by lia);lia
 .exact z
 .have m:=c (i+1) z;have o:=mF f (show i<i+1 by lia) (by lia) (d:=0);have p:=l (i+1) (t.place.getD i 0+1) 0 (by lia);lia
theorem nD (D:A.handled=J)(p:a≠I)(y:w.params.followText "set-order"=JY)(F:t.led=JZ)(G:Ris t.place)(hz:t.place.size=es.size)(hp:(!t.plain&&decide (es.size>1))=JY):Walks prog w A I [I,a] [I] es.size (λi v=>(es.toList.map (·.2))[i]?=O v) (λi h=>SIt h I a (Kr<|slN t i) i es.size ep/\SetAt h a es ep t) where
 sub:=λb f=>by simp at f;simp[f]
 frame:=λ_ _ _ c hk=>⟨c.1.at λo e=>hk I (by simp) o e,c.2.at' λo e=>hk a (by simp) o e⟩
 item:=λi s Q E Z c k=>by
  have d:=kQ G i (by lia);have l:es[i]?=O es[i]:=MJ Z;have m:t.place[i]?=O (t.place.getD i 0):=by rw[MJ<|by lia];simp[M4,show i<t.place.size by lia]
  refine dN (slot:=slN t i) c.1 c.2 D _ (λL M N r=>ie c.2 y F hp r) (λx nx g e H u=>?_) λg e _=>?_
  .rw [d,l,m] at e;cases e;exact k _ g s.toks (by rw[Kz,M5,l];rfl) ⟨H,c.2.at' λo e=>(u.2 a p).trans e⟩ λb o f e=>(u.2 b λz=>f<|by simp[z]).trans e
  .rw[d,l,m] at e;cases e
 done:=λs Q E c k=>by
  have d:=kQ G es.size (by lia);have l:es[es.size]?=none:=OX<|J9 _;refine dN (slot:=slN t es.size) c.1 c.2 D _ (λL M N r=>ie c.2 y F hp r) (λx nx g e H u=>?_) λg e P=>?_
  .rw[d,l] at e;cases e
  .exact k g s.toks λb o f e=>P b o (λz=>f<|by simp[z]) e
 self:=λ_ _ _ _ c k=>c.1.self k
theorem mJ {T:QF}{d:U Y}(G:A.handled=J)(F:a≠I)(D:T≠I)(hp:d.Perm<|Kc es.size):Walks prog w A I [I,a,T] [I] es.size (λi v=>(d.map λk=>((es[k]?).getD (0,.none)).2)[i]?=O v) (λi h=>SIt h I a (.ref T) i es.size ep/\SetAt h a es ep t/\h.IsTuple T (d.map λ(k:Y)=>Kr k).toArray) where
 sub:=λb f=>by simp at f;simp[f]
 frame:=λ_ _ _ c hk=>⟨c.1.at λo e=>hk I (by simp) o e,c.2.1.at' λo e=>hk a (by simp) o e,by obtain⟨o,r,u⟩:=c.2.2;exact⟨o,hk T (by simp) o r,u⟩⟩
 item:=λi s Q E M c l=>by
  have y:∀k∈d,k<es.size:=λk hk=>KW.mp<|hp.mem_iff.mp hk;have m:d.length=es.size:=by rw[hp.length_eq,KY]
  refine gD c.1 c.2.1 c.2.2 G y (λx k g e1 e2 H p=>?_) λg e _=>?_
  .exact l _ g s.toks (by rw[Kz,e1];show O ((es[k]?).getD (0,.none)).2=_;rw[e2];rfl) ⟨H,c.2.1.at' λo e=>(p.2 a F).trans e,by obtain⟨o,r,u⟩:=c.2.2;exact⟨o,(p.2 T D).trans r,u⟩⟩ λb o f e=>(p.2 b λz=>f<|by simp[z]).trans e
  .rw[Kj<|by lia] at e;cases e
 done:=λs Q E c l=>by
  have y:∀k∈d,k<es.size:=λk hk=>KW.mp<|hp.mem_iff.mp hk;have m:d.length=es.size:=by rw[hp.length_eq,KY]
  refine gD c.1 c.2.1 c.2.2 G y (λx k g e1 e2 H p=>?_) λg e L=>?_
  .rw[Lu<|by lia] at e1;cases e1
  .exact l g s.toks λb o f e=>L b o (λz=>f<|by simp[z]) e
 self:=λ_ _ _ _ c l=>c.1.self l
end
end L3

namespace L3
open PySem PySem.Spec PyProof.Rows L2
section
variable {prog:QN}{w:J8}{A:Kq}{E:B->J0->Prop}{s:J0}{I a:QF}{es:QT (Int×B)}{ep:Y}{t:K5}{i n:Y}
theorem kJ {Q:QJ->J0->Prop}(d:s.TypeIs (.ref a) "set")(h:Q JY s):QK (J4 prog w) A (Builtin.List.listLengthHint<|.ref a) Q E s:=by
 unfold Builtin.List.listLengthHint;refine J1<|Nl d PySem.F.slot_set_len.lookup ?_;generalize c:("set.__len__":QZ)=e
 wp_delta
 rw[show splitId e=O ("set","__len__") from by subst c;decide +kernel];subst c;refine J1<|Nt (T:="set") (b:=JZ) d (by rw[Ni];kernel_rfl) ?_;refine NU (λz=>QL z<|by decide) λ_=>?_;refine NU (λ_=>?_) λz=>QL (by decide +kernel) z;exact J1<|Mv d<|J7 h
theorem qU {d:U B}{c:QT B}(h:ItemsOf (λi v=>d[i]?=O v) c d.length):c.toList=d:=by
 refine OE λb=>?_;rw[M5];cases e:c[b]? with
 |some v=>exact(h.2 b v e).symm
 |none=>have:=Array.getElem?_eq_none_iff.mp e;rw[h.1] at this;exact(Lu<|by lia).symm
theorem gR {R:Rq->J0->Prop}{S:QF}{fp:U QF}{L:U B}{St:Y->QS->Prop}{l:B}{p:Y}{h0:QS}(W:Walks prog w A.in1 I fp [I] L.length (λi v=>L[i]?=O v) St)(st:St 0 s.heap)(hn:L.length<=sizeLine)(F:S ∉ fp)(hSI:S≠I)(N:s.heap.get? S=O {cls:=.type "list",data:=.seq #[] p})(hI:h0.get? I=J)
  (k0:∀b o,b≠S->h0.get? b=O o->s.heap.get? b=O o)
  (hR:∀M tk d D,(∀b o,b≠S->h0.get? b=O o->M.get? b=O o)->M.get? S=O {cls:=.type "list",dict:=J,data:=.seq d D,slots:=#[]}->d.toList=L->R (.ok<|.ret l) {s with heap:=M,toks:=tk}) {u:QJ}:
  QK (J4 prog w) A.in1 (if u=JZ then(rule "list.extend.makes-room" >>= λ_=>Builtin.List.listTouch (.ref S) >>= λ_=>again<|.builtin "list.extend.loop" ⟨[.ref S,.ref I,l],[]⟩) else again<|.builtin "list.extend.loop" ⟨[.ref S,.ref I,l],[]⟩)
   (λfin y=>match fin with | .done f=>R (.ok f) y | .again D=>D.quiet=JZ/\KZ (J4 prog w) A D R y) (λe y=>R (.error e) y) s:=by
 have r:∀(h:QS) (g:Y),St 0 h->(∀b o,b≠S->h0.get? b=O o->h.get? b=O o)->h.get? S=O {cls:=.type "list",data:=.seq #[] g}->KZ (J4 prog w) A (.builtin "list.extend.loop" ⟨[.ref S,.ref I,l],[]⟩) R {s with heap:=h}:=λh g Z k1 Q=>by
  refine codeAny_extend_loopS W.toS hn S F l L.length 0 {s with heap:=h} #[] g rfl (Kx _) Z Q (ItemsOf.nil _) λy d D hm P G=>?_;rw[Moved.eq_with hm];refine hR y.heap y.toks d D (λb o m e=>hm.heap b o (λz=>?_)<|k1 b o m e) P<|qU G;rcases Kg.mp z with z|z
  .exact m z
  .rw[KA.mp z] at e;rw[hI] at e;cases e
 cases u with
 |false=>rw[QH Kv];exact J7 ⟨MY OS _,r _ p st k0 N⟩
 |true=>rw[QG rfl];refine J1<|Mu<|J1 ?_;show QK _ _ (updateSeq S (·.push .none) >>= λ_=>updateSeq S (·.pop)) _ _ _;refine J1<|NV N rfl ?_;have k:=Heap.get?_update_self (Obj.mapSeq (·.push Value.none)) N rfl;refine NV (hz:=by seq_fits) k rfl ?_;have x:=Heap.get?_update_self (Obj.mapSeq (·.pop)) k rfl;have H:∀b o,b≠S->s.heap.get? b=O o->((s.heap.update S (Obj.mapSeq (·.push Value.none))).update S (Obj.mapSeq (·.pop))).get? b=O o:=λb o m e=>(Heap.get?_update_other _ _<|KS m).trans<|(Heap.get?_update_other _ _<|KS m).trans e;exact J7 ⟨MY OS _,r _ _ (W.frame 0 _ _ st λb m o e=>H b o (λz=>F<|z ▸ m) e) (λb o m e=>H b o m<|k0 b o m e) x⟩
theorem mZ {R:Rq->J0->Prop}{S:QF}{ks:U Int}(hh:A.handled=J)(hX:SetI prog w s.heap a (!w.params.followText "set-order") ks)(G:S≠a)(res:B)(M:Y)(hS:s.heap.get? S=O {cls:=.type "list",data:=.seq #[] M})
  (hR:∀D tk d h y,(∀b o,b≠S->s.heap.get? b=O o->D.get? b=O o)->D.get? S=O {cls:=.type "list",dict:=J,data:=.seq h y,slots:=#[]}->(h.toList.map jo).Perm ks->(∀v∈h.toList,∃k u,v=.int k u)->R (.ok<|.ret res) {s with heap:=D,toks:=tk,drawn:=d}):
  QK (J4 prog w) A.in1 (Builtin.List.listExtendWith (.ref S) (.ref a) res)
   (λfin s'=>match fin with | .done f=>R (.ok f) s' | .again y=>y.quiet=JZ/\KZ (J4 prog w) A y R s') (λe s'=>R (.error e) s') s:=by
 obtain⟨o,es,ep,t,ho,hex,hd,he,hb,hf,js,hp⟩:=hX;have hA:SetAt s.heap a es ep t:=⟨⟨o,ho,hex,hd⟩,hf⟩;have hz:t.place.size=es.size:=by simp only[SetTable.fits,Kt,beq_iff_eq,QM] at hf;exact hf.1
 have L:a<s.heap.objs.size:=Heap.lt_size ho;have m:S<s.heap.objs.size:=Heap.lt_size hS;have p:es.size<=sizeLine:=Nu hb
 -- what comes of a permutation of its things
 have fin:∀vs:U B,vs.Perm (es.toList.map (·.2))->(vs.map jo).Perm ks/\∀v∈vs,∃k u,v=.int k u:=λvs hv=>by
  refine⟨(hv.map jo).trans ?_,λv hm=>?_⟩
  .rw[KU];exact hp
  .obtain ⟨e,h1,rfl⟩:=Kl.mp<|hv.mem_iff.mp hm;exact vo he h1
 have hT:=hA.ty;unfold Builtin.List.listExtendWith;refine J1<|Mv (T:="set") hT ?_;have hs1:Builtin.List.listSameRef (.ref S) (.ref a)=false:=by simp[Builtin.List.listSameRef,G]
 rw[hs1,QH<|by decide +kernel];refine J1<|rH hA hb (λhm=>?_) λz d x=>?_
 .have H:Shared.TypeIs { s with heap:=s.heap.push (itO a (Kr 0) es.size ep) } (.ref a) "set":=⟨o,Heap.get?_push_of_some _ ho,hex.1⟩;refine J1 (K2 (kJ H ?_));have st:SIt (s.heap.push (itO a (Kr 0) es.size ep)) s.heap.objs.size a (Kr 0) 0 es.size ep:=⟨_,Heap.get?_push_size _ rfl,rfl,rfl⟩;have sa:SetAt (s.heap.push (itO a (Kr 0) es.size ep)) a es ep t:=hA.at' λo e=>Heap.get?_push_of_some _ e;have hI:s.heap.get? s.heap.objs.size=none:=Heap.get?_none_of_le (J9 _);have F:S ∉ [s.heap.objs.size,a]:=by simp only[Kg,LH,Q3,not_or];exact⟨Km m,G⟩
  rcases hm with hB|⟨hB,x⟩
  .have r:((LM (w.params.setOrder a ep) es).toList.map (·.2)).length=es.size:=by rw [J6,(dF _ _).length_eq,KD]
   have W:=qS (prog:=prog) (w:=w) (A:=A.in1) (I:=s.heap.objs.size) (a:=a) (es:=es) (ep:=ep) (t:=t) hh (Km L) hB;rw[<- r] at W;exact gR (s:={s with heap:=s.heap.push<|itO a (Kr 0) es.size ep}) (h0:=s.heap) W ⟨by rw[r];exact st,sa⟩ (by rw[r];exact p) F (Km m) (Heap.get?_push_of_some _ hS) hI (λb o _ e=>Heap.get?_push_of_some _ e) λD tk h y Q Z k3=>by obtain⟨N,P⟩:=fin h.toList (by rw[k3];exact(dF _ _).map _);exact hR D tk s.drawn h y Q Z N P
  .have r:(es.toList.map (·.2)).length=es.size:=by rw [J6,KD]
   have W:=nD (prog:=prog) (w:=w) (A:=A.in1) (I:=s.heap.objs.size) (a:=a) (es:=es) (ep:=ep) (t:=t) hh (Km L) hB (by rw[js.led,hB];rfl) js.ris hz x;rw[<- r] at W;exact gR (s:={s with heap:=s.heap.push<|itO a (Kr 0) es.size ep}) (h0:=s.heap) W ⟨by rw[r];exact st,sa⟩ (by rw[r];exact p) F (Km m) (Heap.get?_push_of_some _ hS) hI (λb o _ e=>Heap.get?_push_of_some _ e) λD tk h y Q Z k3=>by obtain⟨N,P⟩:=fin h.toList (by rw[k3]);exact hR D tk s.drawn h y Q Z N P
 .have e1:(s.heap.push { cls:=.type "tuple",data:=.seq (z.map fun (k:Y)=>Kr k).toArray }).objs.size=s.heap.objs.size+1:=Heap.size_push ..;have up:∀b o,s.heap.get? b=O o->((s.heap.push {cls:=.type "tuple",data:=.seq (z.map λ(k:Y)=>Kr k).toArray}).push (itO a (.ref s.heap.objs.size) es.size ep)).get? b=O o:=λb o e=>Heap.get?_push_of_some _ (Heap.get?_push_of_some _ e);have H:Shared.TypeIs {s with heap:=(s.heap.push {cls:=.type "tuple",data:=.seq (z.map λ(k:Y)=>Kr k).toArray}).push (itO a (.ref s.heap.objs.size) es.size ep),drawn:=d} (.ref a) "set":=⟨o,up _ _ ho,hex.1⟩;refine J1 (K2 (kJ H ?_));have st:SIt ((s.heap.push {cls:=.type "tuple",data:=.seq (z.map λ(k:Y)=>Kr k).toArray}).push (itO a (.ref s.heap.objs.size) es.size ep)) (s.heap.objs.size+1) a (.ref s.heap.objs.size) 0 es.size ep:=⟨_,by rw[<- e1];exact Heap.get?_push_size _ rfl,rfl,rfl⟩;have sa:SetAt ((s.heap.push {cls:=.type "tuple",data:=.seq (z.map λ(k:Y)=>Kr k).toArray}).push (itO a (.ref s.heap.objs.size) es.size ep)) a es ep t:=hA.at' λo e=>up _ _ e;have tp:Heap.IsTuple ((s.heap.push {cls:=.type "tuple",data:=.seq (z.map λ(k:Y)=>Kr k).toArray}).push (itO a (.ref s.heap.objs.size) es.size ep)) s.heap.objs.size (z.map λ(k:Y)=>Kr k).toArray:=⟨_,Heap.get?_push_of_some _ (Heap.get?_push_size _ rfl),rfl,_,rfl⟩;have r:(z.map λk=>((es[k]?).getD (0,Value.none)).2).length=es.size:=by rw[J6,x.length_eq,KY]
  have hI:s.heap.get? (s.heap.objs.size+1)=none:=Heap.get?_none_of_le<|La _;have F:S ∉ [s.heap.objs.size+1,a,s.heap.objs.size]:=by simp only[Kg,LH,Q3,not_or];exact⟨Km<|LK m,G,Km m⟩
  have W:=mJ (prog:=prog) (w:=w) (A:=A.in1) (I:=s.heap.objs.size+1) (a:=a) (es:=es) (ep:=ep) (t:=t) (T:=s.heap.objs.size) hh (Km<|LK L) (Km<|M7 _) x;rw[<- r] at W
  have pv:(z.map λk=>((es[k]?).getD (0,Value.none)).2).Perm (es.toList.map (·.2)):=by
   refine(x.map _).trans<|List.Perm.of_eq ?_;refine OE λg=>?_;rw[Kz,Kz];by_cases hj:g<es.size
   .rw[Oo hj,Kj (l:=es.toList)<|by rw[KD];exact hj];simp[hj]
   .rw[Lu<|by rw[KY];lia,Lu (l:=es.toList)<|by rw[KD];lia];rfl
  exact gR (s:={s with heap:=(s.heap.push {cls:=.type "tuple",data:=.seq (z.map λ(k:Y)=>Kr k).toArray}).push<|itO a (.ref s.heap.objs.size) es.size ep,drawn:=d}) (h0:=s.heap) W ⟨by rw[r];exact st,sa,tp⟩ (by rw[r];exact p) F (Km<|LK m) (up _ _ hS) hI (λb o _ e=>up _ _ e) λD tk h y Q Z k3=>by obtain⟨N,P⟩:=fin h.toList (by rw[k3];exact pv);exact hR D tk d h y Q Z N P
theorem lE {R:U B->J0->Prop}{M:U Int}(hh:A.handled=J)(Z:SetI prog w s.heap a (!w.params.followText "set-order") M)
  (h:∀m tk d P,(∀b o,s.heap.get? b=O o->m.get? b=O o)->(P.map jo).Perm M->(∀v∈P,∃k u,v=Value.int k u)->R P {s with heap:=m,toks:=tk,drawn:=d}):QK (J4 prog w) A (collect<|.ref a) R E s:=by
 have H:a<s.heap.objs.size:=by obtain⟨o,_,_,_,e,_⟩:=Z;exact Heap.lt_size e
 unfold collect;refine J1<|wpAny_runValue<|Mx entry_proto_collect' ?_;rw[Around.under_plainId PySem.F.plain_proto_collect _];show QK _ A.in1 (newList [] >>= λl=>again<|.builtin "list.__iadd__" ⟨[l,.ref a],[]⟩) _ _ s;refine J1<|Ly ?_;refine J7 ⟨MY Qh _,Mx entry_list_iadd' ?_⟩;rw[Around.under_plainId Qh _];have hS:(s.heap.push {cls:=.type "list",data:=.seq ([]:U B).toArray}).get? s.heap.objs.size=O {cls:=.type "list",data:=.seq #[]}:=Heap.get?_push_size _ rfl;show QK _ A.in1 (Builtin.List.listExtendWith (.ref s.heap.objs.size) (.ref a)<|.ref s.heap.objs.size) _ _ _
 have L:=mZ (A:=A) (s:={s with heap:=s.heap.push {cls:=.type "list",data:=.seq ([]:U B).toArray}})
  (R:=λ(q:Rq) (N:J0)=>∃(m:QS) (tk:Y) (d:Drawn) (g:QT B) (p:Y),q=.ok (.ret<|.ref s.heap.objs.size)/\N={s with heap:=m,toks:=tk,drawn:=d}/\(∀b o,s.heap.get? b=O o->m.get? b=O o)/\m.get? s.heap.objs.size=O {cls:=.type "list",dict:=J,data:=.seq g p,slots:=#[]}/\(g.toList.map jo).Perm M/\∀v∈g.toList,∃k u,v=Value.int k u)
  hh (Z.at λo e=>Heap.get?_push_of_some _ e) (LF H) (.ref s.heap.objs.size) 0 hS λm tk d g p r z D G=>⟨m,tk,d,g,p,rfl,rfl,λb o e=>r b o (Km<|Heap.lt_size e)<|Heap.get?_push_of_some _ e,z,D,G⟩
 refine KG L (λfin N x=>?_) λe N x=>?_
 .cases fin with
  |done f=>obtain⟨m,tk,d,g,p,e,rfl,r,z,D,G⟩:=x;cases e;show QK _ A (load s.heap.objs.size >>= _) _ _ _;exact J1<|wpAny_load z<|J7<|h m tk d g.toList r D G
  |again Q=>refine⟨x.1,Nc x.2 λq s₂ y=>?_⟩;obtain⟨m,tk,d,g,p,rfl,rfl,r,z,D,G⟩:=y;show QK _ A (load s.heap.objs.size >>= _) _ _ _;exact J1<|wpAny_load z<|J7<|h m tk d g.toList r D G
 .obtain ⟨_,_,_,_,_,e,_⟩:=x;cases e
end
theorem fC:∀{a:U B},(∀v∈a,∃k u,v=Value.int k u)->Q5 a (a.map jo)
|[],_=>.nil
|v::a,h=>by obtain⟨k,u,rfl⟩:=h v Ka;exact .cons k u<|fC λx hx=>h x<|Ke _ hx
theorem Inv.drawn {X:Cx}{a:U<|QF×Obj}{b:L2.St}{H:Hp}{s:J0}(I:Inv X a b H s)(d:Drawn):Inv X a b H {s with drawn:=d}:=
 ⟨I.ok,I.os,I.bare,I.base,I.loc,I.cell,I.free,I.freeC,I.pin,I.hok,I.len⟩
def lR (K:J2)(d:U V)(H:Hp)(Q:VK):Prop:=∃(a:QF) (b:U Int),d=[.ref a]/\SqL K H a (b.map V.int)/\b.length<64/\(b.foldl dz []).length<64/\∀c:U Int,c.Perm (b.foldl dz [])->c.Pairwise (·<=·)->∀p,H p=J->Q (.ref p) (upd H p<|.lst<|c.map V.int)
theorem mW {X:Cx}{i:QQ}{Z:TA}{p t pos c:Pos}(M:X.calm=JZ)(hg:Gl X "sorted")(hm:X.mg "sorted"=J)(x:Gl X "set")(y:X.mg "set"=J)(ha:PA X [i] Z)(hs:J5 [i] X.env=(JY,QY i X.env)::J5 [] X.env)(z:(Kw c<|J5 [] X.env).any (·.1)=JY)(r:J5 [.Call (.Name "set" t) [i] [] c] X.env=(JY,QY (.Call (.Name "set" t) [i] [] c) X.env)::J5 [] X.env)(o:(Kw pos<|J5 [] X.env).any (·.1)=JY):
  PE X (.Call (.Name "sorted" p) [.Call (.Name "set" t) [i] [] c] [] pos) (tCB (lR X.K) Z):=by
 intro g s σ H Q I h;refine MB (cU I hg hm (by rfl) ?_ (by decide)<|by decide);refine Qe ?_ r o;rw[r];show QK _ _ (spliced ((JY,QY (.Call (.Name "set" t) [i] [] c) X.env)::Kw pos (J5 [] X.env))) _ _ s;refine Calls.spliced_cons ?_;refine MB (cU I x y Qx ?_ (by decide)<|by decide);refine MO (thn (ha c g s σ H _ I h) λus P ⟨vs,L,I1,r1,q1⟩=>?_) hs z;obtain⟨a,ns,rfl,hS,v,w,q⟩:=q1;obtain⟨u,rfl,ru⟩:=cc r1;cases ru;obtain⟨its,rv,tp,hz⟩:=I1.list hS;refine qJ (I1.ok.hd M) tp.isList (by have:=bU rv;simpa using this) (by lia) λh' tk keep so=>?_;refine Calls.spliced_nil ?_;refine call_function_tree kind_sorted plain_sorted entry_sorted (args_sorted1 _) ?_;unfold Builtin.sorted;refine J1<|Me (a:=()) rfl ?_;refine J1<|lE (s:={P with heap:=h',toks:=tk}) (show X.A.in1.handled=J from I1.ok.hd M) so λk l d vs k1 F k3=>?_;have hI:=fC k3;have D:vs.length<64:=by rw[<- J6 (f:=jo),F.length_eq];exact w
 refine J1 (Nf (items:=vs) ?_<|by rw[LA];lia);refine J1<|K2<|L4 slot_list_sort (T:="list") ⟨_,Heap.get?_push_size _ rfl,rfl⟩ entry_list_sort (list_sort_tree (a:=k.objs.size) (vs:=vs) (n:=0) (Heap.get?_push_size _ rfl) hI D λout G m1 N m3=>⟨_,rfl,?_⟩)<|args_list_sort _;have I2:Inv X g σ L {P with heap:=k,toks:=l,drawn:=d}:=Inv.drawn ((I1.kept (t':=tk) keep).kept (t':=l) k1) d;obtain⟨e,he⟩:=sortedHeap_at (h:=k.push {cls:=Value.type "list",data:=Data.seq vs.toArray}) (a:=k.objs.size) (vs:=vs) (n:=0) (out:=out)<|Heap.get?_push_size _ rfl;have hml:G.length=(ns.foldl dz []).length:=(N.trans F).length_eq;refine J7 ?_;refine⟨.ref k.objs.size,upd L k.objs.size<|.lst<|G.map V.int,I2.laid (t':=l) (λb u v=>?_) (J9 _) ⟨by rw[J6,LA];lia,out.toList,e,ff m1,by rw[he,NO]⟩,rfl,q G (N.trans F) m3 _<|I2.hok.fresh<|J9 _⟩;have m:b<k.objs.size:=Heap.lt_size v;rw[sortedHeap_old (Km m)<|by rw[Heap.size_push];exact LK m];exact Heap.get?_push_of_some _ v
end L3

namespace MR
open PySem PySem.Spec PyProof.Rows L2 L3
section
variable {X:Cx}{sf sg:Y->j Y}{C:M.Call}{pos p p2 p3 pos2:Pos}{ea eb ec:QQ}{a b c:M.E}{h:QJ}{n:Y}{io:U Y}{K:J2}
theorem l9:∀(e d:U Int),(e.foldl dz d).length<=d.length+e.length
|[],_=>J9 _
|n::e,d=>by have f:=l9 e<|dz d n;have g:=lI d n;rw[Ny,Ki];lia
theorem kY:Loc K 1 .sortedSet h (lR K):=by
 intro F w I Z H G Q v e r A L k
 match F,v with
 | [(m,a)],_ =>
  obtain⟨x,rfl,D⟩:=a0 rfl r;cases a with
  | lst s =>
   obtain⟨a,I,hx,o,N,p⟩:=bg D;have i:((M.intsOf s).bind λf=>if decide (f.length<64)=JZ then O ((.d,.lst ((M.sortI (f.foldl M.addZ [])).map M.T.int)):M.W) else J)=O w:=e;cases e1:M.intsOf s with
   |none=>rw[e1] at i;cases i
   | some f =>
    rw[e1] at i;have e2:(if decide (f.length<64)=JZ then O ((.d,.lst ((M.sortI (f.foldl M.addZ [])).map M.T.int)):M.W) else J)=O w:=i;split at e2
    .rename_i g;cases e2;have g:=QR g;rw[hW e1 p] at o;have fl:=l9 f [];rw[OK] at fl;refine⟨a,f,by rw[hx],.inl<|.inl o,g,by lia,λP t u q y=>?_⟩;rw[k6 t u];have l:(M.sortI (f.foldl dz [])).length=(f.foldl dz []).length:=(du _).1.length_eq;exact bh (G':=no) A L (λ_ z=>z.elim) (by rw[J6,l];show _<=16777215;lia) (fA _) (by simp) k y
    .cases e2
  |_=>cases e
theorem tN (k:X.calm=true:=by rfl)(hm:X.mg "sorted"=J)(hm2:X.mg "set"=J)(l:Gl X "sorted":=by rfl)(e:Gl X "set":=by rfl)(ha:SE X sf C ea a)(i:J5 [ea] X.env=(JY,QY ea X.env)::J5 [] X.env:=by rfl)(f:(Kw pos2<|J5 [] X.env).any (·.1)=false:=by rfl)(g:J5 [.Call (.Name "set" p2) [ea] [] pos2] X.env=(JY,QY (.Call (.Name "set" p2) [ea] [] pos2) X.env)::J5 [] X.env:=by rfl)(d:(Kw pos<|J5 [] X.env).any (·.1)=false:=by rfl):
  SE X sf C (.Call (.Name "sorted" p) [.Call (.Name "set" p2) [ea] [] pos2] [] pos) (.op .sortedSet h [a]):=
 aj (mW k l hm e hm2 (slc ha sl0 i) i f g d) (cf kY rfl)
end
end MR

namespace MR
open PySem PySem.Spec PyProof.Rows L2 L3
def nIo:M.E->QJ
|.io _=>JY
|_=>JZ
noncomputable def lcl (o:j N4):QJ:=match o with
|some .local=>JZ
|some .cell=>JZ
|_=>JY
def lcO (o:j N4):QJ:=match o with
|some .local=>JZ
|_=>JY
theorem EM {a:M.E}(h:nIo a=JZ)(i:Y):a≠.io i:=by rintro rfl;cases h
theorem yW {a:Q2}{x:Str}(h:lcl (a.names.lookup x)=JZ):L2.Loc a x:=by
 unfold lcl at h;split at h
 .rename_i e;exact Ks e
 .rename_i e;exact Kh e
 .cases h
theorem ym {o:j N4}{b:QJ}(h:(b || lcO o)=JZ):b=JZ\/o=O .local:=by
 cases b
 .refine Kh ?_;unfold lcO at h;simp at h;split at h
  .rfl
  .cases h
 .exact Ks rfl
section
variable {X:Cx}{sf:Y->j Y}{io:U Y}{C:M.Call}{pos:Pos}{ea eb:QQ}{a b:M.E}{h:QJ}
theorem zA (c:Y){i:Y}{x:Str}{o:M.X}{d:Pos}(g:X.N.Nodup)(k:SE X sf C ea a)(f:io.contains i=JY)(n:sf i=O c)(m:X.N[c]?=O x)(hx:lcl (X.env.scope.names.lookup x)=JZ)
  (e:Lg ea (O<|.Name x d) pos.line X.env=pure JY) (l:(X.fn x || lcO (X.env.scope.names.lookup x))=JZ):SS X sf io C (.Assign [.Name x d] ea pos) (.asg o i a):=JI c g k (λz=>by rw[show io.contains i=JZ from List.elem_eq_true_of_mem z] at f;cases f) n m (yW hx) e<|ym l
theorem say {c:U QQ}{bs:U M.E}(d:SE X sf C ea a)(e:SA X sf C c bs)(f:nIo a=JZ)(g:J5 (ea::c) X.env=(JY,QY ea X.env)::J5 c X.env):SA X sf C (ea::c) (a::bs):=sac d e (EM f) g
end
end MR

namespace MR
open PySem
section
variable {p:U B->Prop}
theorem u0 (h:p [])(a:U B)(e:a.length=0):p a:=by cases a;exact h;cases e
theorem uS {n:Y}(h:∀a b,Mq b=n->p (a::b))(b:U B)(e:b.length=n+1):p b:=by
 cases b with
 |nil=>cases e
 |cons a r=>exact h a r<|Lw e
theorem u1 (h:∀a,p [a])(b:U B)(e:b.length=1):p b:=uS (λa=>u0<|h a) b e
theorem u2 (h:∀a b,p [a,b])(c:U B)(e:c.length=2):p c:=uS (λa=>u1<|h a) c e
theorem u3 (h:∀a b c,p [a,b,c])(d:U B)(e:d.length=3):p d:=uS (λa=>u2<|h a) d e
theorem u4 (h:∀a b c d,p [a,b,c,d])(f:U B)(e:f.length=4):p f:=uS (λa=>u3<|h a) f e
end
end MR

namespace L3
open PySem PySem.Spec PySem.W PyProof.Rows L2
def OkK {d:Type}(n:Y)(e:d->Prop):KasT d->Prop
|.ret a=>e a
|.ask i c k=>i<n/\c<n/\∀b,OkK n e<|k b
theorem cO {d g:Type}{n:Y}{φ:d->Prop}{l:g->Prop}{f:d->KasT g}(e:∀a,φ a->OkK n l (f a)):∀t:KasT d,OkK n φ t->OkK n l (t.bind f)
|.ret a,h=>e a h
|.ask i c k,h=>⟨h.1,h.2.1,λb=>cO e (k b)<|h.2.2 b⟩
theorem j7 {c:Type}{n:Y}{d:c->Prop}{lt:Y->Y->QJ}:∀t:KasT c,OkK n d t->d (M.evK lt t)
|.ret a,h=>h
|.ask i b k,h=>j7 (k<|lt i b)<|h.2.2 _
theorem rQ {d:Type}{n:Y}{f:d->Prop}{lt:Y->Y->QJ}{c:Y->Y->(QJ->J0->Prop)->J0->Prop}{s:J0}{Q:d->J0->Prop}(e:∀i b,i<n->b<n->∀C,C (lt i b) s->c i b C s):
 ∀t:KasT d,OkK n f t->Q (M.evK lt t) s->t.kasWp c Q s
|.ret a,_,q=>q
|.ask i b k,h,q=>e i b h.1 h.2.1 _<|rQ e (k<|lt i b) (h.2.2 _) q
def Pn (n:Y)(p:QT Y):Prop:=p.Perm (Kc n).toArray
theorem cA {n:Y}{p:QT Y}(a:0<n)(h:Pn n p)(i:Y):p.getD i 0<n:=by
 unfold M4;split
 .rename_i c;have b:p[i]∈p.toList:=by simp
  have:=(Qb.mp h).mem_iff.mp b;simpa using this
 .exact a
section
variable {n:Y}(h0:0<n)
include h0
theorem mL {c:Y->Prop}(a:∀m,c m){p:QT Y}(h:Pn n p):∀f m,OkK n c<|kas_asc p f m
|0,m=>a m
|f+1,m=>⟨cA h0 h _,cA h0 h _,λb=>by cases b<;>first|exact a m|exact mL a h f<|m+1⟩
theorem gr {p:QT Y}(h:Pn n p)(i a:Y):Pn n (kas_rev p i a):=(mirror_perm p i a _).trans h
theorem fV:∀f {p:QT Y} m q,Pn n p->OkK n (λr=>Pn n r.1) (kas_desc f p m q)
|0,p,m,q,h=>h
| f+1,p,m,q,h=>⟨cA h0 h _,cA h0 h _,fun b=>by
 cases b
 .exact⟨cA h0 h _,cA h0 h _,λd=>by cases d<;>first|exact h|exact fV f _ _ h⟩
 .show OkK n _ (if q>0 then _ else _);split
  .exact fV f _ _ (gr h0 h _ _)
  .exact fV f _ _ h⟩
theorem lj {m r:Y}{p:QT Y}(h:Pn n p):OkK n (λr=>Pn n r.2) (kas_tail3 m r p):=by refine cO (φ:=λ_=>Ra) (λa _=>?_) _<|mL h0 (λ_=>trivial) (gr h0 h 0 m) _ _;exact gr h0 h 0 m
theorem fF {m r:Y}{p:QT Y}(h:Pn n p):OkK n (λr=>Pn n r.2) (kas_descPart m r p):=cO (λa b=>by
 split
 .exact lj h0 (gr h0 b _ _)
 .exact lj h0 b) _<|fV h0 _ _ _ h
theorem rL {r:Y}{p:QT Y}(h:Pn n p):OkK n (λr=>Pn n r.2) (kas_count r p):=cO (φ:=λ_=>Ra) (λa _=>by
 split
 .exact h
 .split
  .exact⟨cA h0 h _,cA h0 h _,λb=>by cases b<;>first|exact h|exact fF h0<|gr h0 h _ _⟩
  .exact fF h0 h) _<|mL h0 (λ_=>trivial) h _ _
theorem lM {p:QT Y}(h:Pn n p)(k:Y):∀f l r,OkK n (λ_=>Ra)<|kas_place p k f l r
|0,l,r=>trivial
|f+1,l,r=>by
 unfold kas_place;split
 .exact trivial
 .exact⟨cA h0 h _,cA h0 h _,λb=>by cases b<;>exact lM h k f _ _⟩
theorem vS:∀f {p:QT Y} k,Pn n p->OkK n (Pn n) (kas_bin f p k)
|0,p,k,h=>h
|f+1,p,k,h=>cO (λl _=>vS f _<|(bubble_perm p k _).trans h) _<|lM h0 h k k 0 k
theorem fW:OkK n (Pn n) (RB n):=cO (λa b=>by
 split
 .exact vS h0 _ _ b
 .exact b) _<|rL h0<|Array.Perm.refl _
end
section
variable {prog:QN}{w:J8}{A:Kq}{E:B->J0->Prop}{s:J0}
def Kpa (a:QF)(h c:QS):Prop:=∀b u,b≠a->h.get? b=O u->c.get? b=O u
noncomputable def pJ (lt:Y->Y->QJ)(a:U B):U B:=(M.evK lt<|RB a.length).toList.map λi=>a.getD i Value.none
theorem uf {lt:Y->Y->QJ}{a:U B}(h:2<=a.length):(pJ lt a).length=a.length:=by have:=(j7 (lt:=lt) _<|fW (n:=a.length)<|by lia).size_eq;unfold pJ;rw[J6,KD,this];simp
noncomputable def m6 (h:QS)(a:QF)(b:U B):QS:=((h.update a<|Obj.mapSeq λ_=>(#[]:QT B)).push<|K8 "tuple" b.toArray 0).push<|K8 "list" #[] 0
theorem wO {a:QF}{d:U B}{n:Y}{lt:Y->Y->QJ}{κ:SortKind}{P:N0->J0->Prop}(ho:s.heap.get? a=O (K8 "list" d.toArray n))(o:2<=d.length)(l:d.length<64)
  (hk:∀g,Kpa a s.heap g->∀Q:SortKind->J0->Prop,Q κ {s with heap:=g}->QK (J4 prog w) A (keyKind' d.toArray) Q E {s with heap:=g})
  (F:∀g,Kpa a s.heap g->∀i c,i<d.length->c<d.length->∀C:QJ->J0->Prop,C (lt i c) {s with heap:=g}->kas_ask prog w A κ d i c C {s with heap:=g})
  (q:P (.done<|.ret .none) {s with heap:=sortedHeap s.heap a d (pJ lt d).toArray}):QK (J4 prog w) A (K9.«list.sort» ⟨[.ref a],[]⟩) P E s:=by
 have t:d.length<=sizeLine:=by rw[LA];lia
 have H:=Heap.lt_size ho;obtain⟨e1,v⟩:∃e1,(s.heap.update a (Obj.mapSeq λ_=>(#[]:QT B))).get? a=O (K8 "list" #[] e1):=⟨_,get?_update_seq ho λ_=>#[]⟩;have o3:(m6 s.heap a d).get? a=O (K8 "list" #[] e1):=Heap.get?_push_of_some _<|Heap.get?_push_of_some _ v;have r:Kpa a s.heap (m6 s.heap a d):=λb u y e=>Heap.get?_push_of_some _ (Heap.get?_push_of_some _<|by rw[Heap.get?_update_ne _ _ _ _ y];exact e);rw[list_sort_plain];refine J1<|listItems_at ho rfl (J1<|Nd ho rfl (J1<|Nm v rfl (J1<|wpAny_newTuple (J1<|Nf (K2 ?_)<|Kx _) t)) (by rw[Ko];exact t) (Kx _));have x:¬d.toArray.size<2:=by rw[Ko];lia
 show QK (J4 prog w) A _ P E {s with heap:=m6 s.heap a d};dsimp only;rw[QH x,QH x]
 refine J1 (hk _ r _ (J1 (KG (kat_run (Q:=λf h=>(arrOf f).map (·.2)=(pJ lt d).toArray/\failedOf f=J/\h={s with heap:=m6 s.heap a d})
  (G:=λp h=>p=M.evK lt (RB d.length)/\h={s with heap:=m6 s.heap a d}) rfl o l ?_ (rQ (λi c z D=>F _ r i c z D) _ (fW<|by lia) ⟨rfl,rfl⟩)) ?_ λ_ _ e=>e)))
 .rintro p f h hp k m ⟨rfl,rfl⟩;exact⟨kat_snds rfl k,m,rfl⟩
 .rintro ⟨⟨⟩,f⟩ h ⟨k,m,rfl⟩;dsimp only;refine J1<|Nm o3 rfl (J1<|Nd o3 rfl ?_ (Kx _) (by rw[k,Ko,uf o];lia));rw[m,k];rw[show(e1 != e1)=JY from Q8 e1];exact J7 q
end
section
variable {prog:QN}{w:J8}{A:Kq}{E:B->J0->Prop}{s:J0}
theorem sX {a:QF}{b:U B}{n:Y}{P:N0->J0->Prop}(ho:s.heap.get? a=O (K8 "list" b.toArray n))(g:b.length<2)
  (q:P (.done<|.ret .none) {s with heap:=sortedHeap s.heap a b b.toArray}):QK (J4 prog w) A (K9.«list.sort» ⟨[.ref a],[]⟩) P E s:=by
 have d:b.length<=sizeLine:=by rw[LA];lia
 obtain⟨e1,e⟩:∃e1,(s.heap.update a (Obj.mapSeq λ_=>(#[]:QT B))).get? a=O (K8 "list" #[] e1):=⟨_,get?_update_seq ho λ_=>#[]⟩;have o3:(m6 s.heap a b).get? a=O (K8 "list" #[] e1):=Heap.get?_push_of_some _<|Heap.get?_push_of_some _ e;rw[list_sort_plain];refine J1<|listItems_at ho rfl (J1<|Nd ho rfl (J1<|Nm e rfl (J1<|wpAny_newTuple (J1<|Nf (K2 ?_)<|Kx _) d)) (by rw[Ko];exact d) (Kx _));have f:b.toArray.size<2:=by rw[Ko];exact g
 show QK (J4 prog w) A _ P E {s with heap:=m6 s.heap a b};dsimp only;rw[QG f,QG f];have c:Array.map (λx=>x.snd) (arrOf (SortSt.mk' general' (b.toArray.zip b.toArray) #[] 7 J))=b.toArray:=by show Array.map (λx=>x.snd) (b.toArray.zip b.toArray)=b.toArray;apply Array.toList_inj.mp;rw[Array.toList_map,Array.toList_zip];exact List.map_snd_zip<|J9 _
 refine J1<|J7<|J1 ?_;rw[StateT.run_pure];refine J7 ?_;dsimp only;refine J1<|Nm o3 rfl (J1<|Nd o3 rfl ?_ (Kx _) (by rw[c,Ko];lia));rw[c];simp only[Q8,if_false,Oi];exact J7 q
def jB (h:QS)(v:B)(p:Int×Int):Prop:=∃a o t u n,v=.ref a/\h.get? a=O o/\o.cls=.type "tuple"/\o.data=.seq #[.int p.1 t,.int p.2 u] n
theorem yw {x y:B}{p r:Int×Int}{Q:QJ->J0->Prop}(hx:jB s.heap x p)(g:jB s.heap y r)(h:Q (M.ltP p r) s):QK (J4 prog w) A (keyLt' (tuples' JZ) x y) Q E s:=by
 obtain⟨a,o,t,u,n,rfl,ho,_,f⟩:=hx;obtain⟨b,k,l,m,i,rfl,e,_,d⟩:=g;refine kat_lt ho f e d<|kat_cons<|NW ?_;by_cases e1:p.1=r.1
 .rw [show (p.1==r.1)=JZ from beq_iff_eq.mpr e1];refine kat_yes (kat_cons (NW ?_));have c:M.ltP p r=decide (p.2<r.2):=QG e1;by_cases e2:p.2=r.2
  .rw [show (p.2==r.2)=JZ from beq_iff_eq.mpr e2];refine kat_yes<|kat_nil ?_;rw[c,show decide (p.2<r.2)=JY from QP<|by lia] at h;exact h
  .rw [show (p.2==r.2)=JY from beq_eq_false_iff_ne.mpr e2];rw[c] at h;exact kat_no<|kat_one _ _<|PySem.wpAny_lt_int h
 .rw [show (p.1==r.1)=JY from beq_eq_false_iff_ne.mpr e1];have c:M.ltP p r=decide (p.1<r.1):=QH e1;rw[c] at h;exact kat_no<|oneLt_int h
end
def bS (h:QS):U B->U (Int×Int)->Prop
|[],[]=>Ra
|v::b,p::a=>jB h v p/\bS h b a
|_,_=>QX
theorem iT {h:QS}:∀{b:U B} {a:U<|Int×Int},bS h b a->b.length=a.length
|[],[],_=>rfl
|_::_,_::_,r=>QW (·+1)<|iT r.2
theorem fB {h:QS}:∀{c:U B} {b:U<|Int×Int} {i:Y},bS h c b->i<b.length->jB h (c.getD i .none) (b.getD i (0,0))
|[],[],_,_,a=>by cases a
|_::_,_::_,0,r,_=>r.1
|_::_,_::_,i+1,r,a=>fB (i:=i) r.2<|OW a
theorem dW {h c:QS}(k:∀b u,h.get? b=O u->c.get? b=O u):∀{f:U B} {d:U<|Int×Int},bS h f d->bS c f d
|[],[],_=>trivial
|_::_,_::_,⟨⟨a,o,t,u,n,e,ho,g,i⟩,r⟩=>⟨⟨a,o,t,u,n,e,k _ _ ho,g,i⟩,dW k r⟩
theorem gy {h:QS}:∀{c:U B} {l:U<|Int×Int},bS h c l->∃fs,KatTups h c fs/\fs.length=c.length/\∀v∈fs,∃n t,v=.int n t
|[],[],_=>⟨[],trivial,rfl,λ_ b=>by cases b⟩
|_::_,_::_,⟨⟨a,o,t,u,n,e,ho,i,k⟩,r⟩=>by obtain⟨fs,d,f,g⟩:=gy r;subst e;exact⟨_::fs,.cons ho i k rfl d,QW (·+1) f,λv b=>(Kg.mp b).elim (λe=>⟨_,_,e⟩)<|g v⟩
theorem jf {c:U V}{b:U B}(r:Vals c b):∀a:U Y,Vals (a.map λi=>c.getD i .non)<|a.map λi=>b.getD i .none
|[]=>.nil
| i::a=>.cons (by
 clear a;induction r generalizing i with
 |nil=>exact rfl
 |cons h t d=>
  cases i with
  |zero=>exact h
  |succ i=>exact d i) (jf r a)
theorem nv {a:Type}{d:a}(l:U a):(Kc l.length).map (λi=>l.getD i d)=l:=by
 apply PN
 .simp
 .intro i c b;simp[b]
def vn (K:J2)(H:Hp):U V->U (Int×Int)->Prop
|[],[]=>Ra
|v::b,p::a=>(∃q,v=.ref q/\SqT K H q [.int p.1,.int p.2])/\vn K H b a
|_,_=>QX
theorem sJ {X:Cx}{a:U<|QF×Obj}{x:L2.St}{H:Hp}{s:J0}(I:L2.Inv X a x H s):∀{rs:U V} {d:U B} {c:U<|Int×Int},vn X.K H rs c->Vals rs d->bS s.heap d c
|[],_,[],_,r=>by cases r;trivial
| _::_,_,_::_,⟨⟨q,e,i⟩,h⟩,r=>by
 cases r with
 |cons l m=>subst e;cases l;obtain⟨k,v,⟨o,ho,f,n,g⟩,_⟩:=I.tuple i;obtain⟨u,y,rfl,p,b⟩:=n5 v;obtain⟨t,rfl⟩:=p;obtain⟨w,rfl⟩:=b;exact⟨⟨q,o,t,w,n,rfl,ho,f,g⟩,sJ I h m⟩
theorem mh {lt:Y->Y->QJ}{n:Y}(h:0<n):(M.evK lt<|RB n).toList.length=n:=by have:=(j7 (lt:=lt) _<|fW (n:=n) h).size_eq;rw[KD,this];simp
theorem f7 {b:U<|Int×Int}(h:¬b.length<2):M.ordN b=(M.evK (λi a=>M.ltP (b.getD i (0,0))<|b.getD a (0,0))<|RB b.length).toList:=by unfold M.ordN;rw[QH h,MI<|O8<|mh<|by lia]
theorem kB {ps:U<|Int×Int}:(M.ordN ps).length=ps.length:=by
 by_cases h:ps.length<2
 .unfold M.ordN;rw[QG h,KY]
 .rw[f7 h,mh<|by lia]
theorem mO {X:Cx}:bI X (.builtin "sorted") (λxs H Q=>∃(a:QF) (rs:U V) (ps:U<|Int×Int),xs=[.ref a]/\SqL X.K H a rs/\vn X.K H rs ps/\ps.length<64/\∀p,H p=J->Q (.ref p) (upd H p<|.lst<|(M.ordN ps).map λi=>rs.getD i .non)):=by
 intro pins s σ H xs us Q I r h;obtain⟨a,rs,ps,rfl,hS,hp,h64,q⟩:=h;obtain⟨u,rfl,ru⟩:=cc r;cases ru;obtain⟨f,rv,pl,hz⟩:=I.list hS;have pa:=sJ I hp rv;have k:=iT pa;have x:f.length<=sizeLine:=by rw[LA];lia
 refine call_function_tree kind_sorted plain_sorted entry_sorted (args_sorted1 _) ?_;unfold Builtin.sorted;refine J1<|Me (a:=()) rfl ?_;refine J1<|collect_list pl.isList ?_ x;generalize o:(s.heap.push<|K8 "list" #[] 0).update s.heap.objs.size (Obj.mapSeq (·++f.toArray))=g;have k1:∀b u,s.heap.get? b=O u->g.get? b=O u:=λb u e=>by have:=Km<|Heap.lt_size e;rw[<- o,Heap.get?_update_ne _ _ _ _ this];exact Heap.get?_push_of_some _ e
 have z1:g.objs.size=s.heap.objs.size+1:=by rw[<- o,Heap.size_update,size_push']
 refine J1<|Nf (items:=f) ?_ x;show QK _ _ _ _ _ {s with heap:=g.push<|K8 "list" f.toArray 0};have y:(g.push (K8 "list" f.toArray 0)).get? g.objs.size=O (K8 "list" f.toArray 0):=Heap.get?_push_size _ rfl;have N:∀b u,s.heap.get? b=O u->(g.push (K8 "list" f.toArray 0)).get? b=O u:=λb u e=>Heap.get?_push_of_some _<|k1 b u e;have m:∀b u,s.heap.get? b=O u->b≠g.objs.size:=λb u e=>Km<|by rw[z1];exact LK<|Heap.lt_size e
 have fin:∀{A:Kq} {E:B->J0->Prop} {P:N0->J0->Prop},P (.done (.ret .none)) {s with heap:=sortedHeap (g.push<|K8 "list" f.toArray 0) g.objs.size f ((M.ordN ps).map λi=>f.getD i .none).toArray} ->
   QK (J4 X.prog X.w) A (K9.«list.sort» ⟨[.ref g.objs.size],[]⟩) P E {s with heap:=g.push<|K8 "list" f.toArray 0}:=λ{A E P} h=>by
  by_cases D:ps.length<2
  .rw [show M.ordN ps=Kc f.length from (QG D).trans<|by rw [k],nv] at h;exact sX y (by rw[k];exact D) h
  .rw [show (M.ordN ps).map (fun i=>f.getD i .none)=pJ (fun i d=>M.ltP (ps.getD i (0,0)) (ps.getD d (0,0))) f from by rw [f7 D]; unfold pJ; rw [k]] at h;refine wO (κ:=tuples' JZ) y (by lia) (by lia) (λz Z Q q=>?_) (λz Z i d hi hj C c=>?_) h
   .have l:bS z f ps:=dW (fun b u e=>Z b u (m b u e) (N b u e)) pa;obtain⟨fs,f1,f2,f3⟩:=gy l;refine kat_kind (T:=.type "int") f1 (by lia) (λv hv=>?_) (by first|decide|rfl) ?_
    .obtain ⟨n,t,rfl⟩:=f3 v hv;exact .now
    .exact q
   .have l:bS z f ps:=dW (fun b u e=>Z b u (m b u e)<|N b u e) pa;exact yw (fB l<|by lia) (fB l<|by lia) c
 refine J1<|K2<|L4 slot_list_sort (T:="list") ⟨_,y,rfl⟩ entry_list_sort (fin ⟨_,rfl,J7 ?_⟩)<|args_list_sort _;obtain⟨e,he⟩:=sortedHeap_at (vs:=f) (out:=((M.ordN ps).map λi=>f.getD i .none).toArray) y;have L:=kB (ps:=ps);refine⟨.ref g.objs.size,upd H g.objs.size<|.lst<|(M.ordN ps).map λi=>rs.getD i .non,I.laid (t':=s.toks) (λb u F=>?_) (by lia) ⟨by rw[J6,L,LA];lia,_,e,jf rv _,by rw[he]⟩,rfl,q _<|I.hok.fresh<|by lia⟩;have G:b<g.objs.size:=by rw[z1];exact LK<|Heap.lt_size F
 rw[sortedHeap_old (m b u F)<|by rw[Heap.size_push];exact LK G];exact N b u F
end L3
namespace MR
open PySem PySem.Spec PyProof.Rows L2 L3
section
variable {X:Cx}{sf sg:Y->j Y}{C:M.Call}{pos p p2 p3:Pos}{ea eb ec:QQ}{a b c:M.E}{h:QJ}{n:Y}{io:U Y}{K:J2}
theorem pG {e:U<|Int×Int}{i:Y}(f:i∈M.ordN e):i<e.length:=by
 by_cases g:e.length<2
 .unfold M.ordN at f;rw[QG g] at f;exact KW.mp f
 .rw [f7 g] at f;have:=j7 (lt:=λi d=>M.ltP (e.getD i (0,0))<|e.getD d (0,0)) _ (fW (n:=e.length)<|by lia);simpa using (Qb.mp this).mem_iff.mp f
theorem yo {Z:Fp}{H:Hp}{m:M.Md}:∀{d:U M.T} {f:U<|Int×Int} {g:U V} {G:Fp},M.prsOf d=O f->RepL K Z H m d g G->vn K H g f/\d=f.map λp=>M.T.tup [.int p.1,.int p.2]:=by
 intro d;induction d with
 |nil=>intro f g G e r;cases e;cases(show g=[] from r);exact⟨trivial,rfl⟩
 | cons t d s =>
  intro f g G e r;obtain⟨x,P,I,L,rfl,_,_,_,p,q⟩:=r;unfold M.prsOf at e;split at e
  .rename_i i;cases i
  .rename_i a b A i;cases i;cases e1:M.prsOf d with
   |none=>rw[e1] at e;cases e
   |some us=>rw[e1] at e;cases e;obtain⟨l,o⟩:=s e1 q;obtain⟨ad,ys,rfl,k,N,v⟩:=cX p;obtain⟨D,Q,_,_,rfl,_,_,_,u,w⟩:=v;obtain⟨F,z,_,_,rfl,_,_,_,p2,y⟩:=w;cases(show z=[] from y);cases(show D=_ from u);cases(show F=_ from p2);exact⟨⟨⟨ad,rfl,k⟩,l⟩,by rw[o];rfl⟩
  .cases e
theorem jb {Z:Fp}{H:Hp}{g:U M.T}{k:U V}(r:RepL K Z H .s g k no):∀f:U Y,(∀i∈f,i<g.length)->RepL K Z H .s (f.map λi=>g.getD i .non) (f.map λi=>k.getD i .non) no
|[],_=>rfl
|i::f,h=>by
 have l:=h i<|.head _;have e:g[i]?=O (g.getD i .non):=by simp[l]
 obtain⟨x,hx,rx⟩:=RepL.get r e;exact⟨k.getD i .non,_,no,no,rfl,λ_ z=>z,λ_ z=>z,λ_ z _=>z,by rw[Kf,hx];exact rx,jb r f λd m=>h d<|.tail _ m⟩
theorem kR:Loc K 1 .sortedP h λf H Q=>∃(a:QF) (rs:U V) (d:U<|Int×Int),f=[.ref a]/\SqL K H a rs/\vn K H rs d/\d.length<64/\∀p,H p=J->Q (.ref p) (upd H p<|.lst<|(M.ordN d).map λi=>rs.getD i .non):=by
 intro ws w f Z H G Q F e r N za k
 match ws,F with
 | [(m,a)],_ =>
  obtain⟨x,rfl,r1⟩:=a0 rfl r;cases a with
  | lst v =>
   have e2:((M.prsOf v).bind λd=>if decide (d.length<64)=JZ then O ((.o .s,.lst ((M.sortP d).map λp=>M.T.tup [.int p.1,.int p.2])):M.W) else J)=O w:=e;cases e3:M.prsOf v with
   |none=>rw[e3] at e2;cases e2
   | some d =>
    rw[e3] at e2;have g:(if decide (d.length<64)=JZ then O ((.o .s,.lst ((M.sortP d).map λp=>M.T.tup [.int p.1,.int p.2])):M.W) else J)=O w:=e2;split at g
    .rename_i l;cases g;obtain⟨q,f,I,L,hl,pr⟩:=bg r1;obtain⟨A,y⟩:=yo e3 pr;have t:=QR l;refine⟨q,f,d,by rw[I],.inl (.inl L),A,t,λp hp=>?_⟩;have P:=jb (RepL.sh pr) (M.ordN d) λi u=>by rw[y,J6];exact pG u
     have D:(M.sortP d).map (λp=>M.T.tup [.int p.1,.int p.2])=(M.ordN d).map λi=>v.getD i .non:=by unfold M.sortP;rw[KU];refine Mm λi u=>?_;have:=pG u;simp[y,this]
     rw[D] at k;exact bh (m:=.o .s) (G':=no) N za (λ_ z=>z.elim) (by rw[J6,kB];show _<=16777215;lia) (P.zmono λb l=>l.imp id λz=>⟨z,λq=>q⟩) (by simp) k hp
    .cases g
  |_=>cases e
theorem vk (hm:X.mg "sorted"=J)(f:Gl X "sorted":=by rfl)(ha:SE X sf C ea a)(e:J5 [ea] X.env=(JY,QY ea X.env)::J5 [] X.env:=by rfl)(d:(Kw pos<|J5 [] X.env).any (·.1)=false:=by rfl):SE X sf C (.Call (.Name "sorted" p) [ea] [] pos) (.op .sortedP h [a]):=
 aj (bb mO f hm QD (slc ha sl0 e) (by decide) (by decide) e d) (cf kR rfl)
end
end MR

namespace A75
open M
open PySem (Str)
noncomputable abbrev q:=Str.ofString
noncomputable def aX:Fn:={ps:=1,ns:=0,io:=[],body:=[
  .ite (.q [0] []) (.op (.isI ["bool"]) JY [.var 0]) [
   .ret [] (.cst<|.str<|q "truth")] [],
  .ite (.q [0] []) (.op (.isI ["int"]) JY [.var 0]) [
   .ret [] (.cst<|.str<|q "number")] [],
  .ite (.q [0] []) (.op (.isI ["str"]) JY [.var 0]) [
   .ret [] (.cst<|.str<|q "text")] [],
  .ite (.q [0] []) (.op (.isI ["list"]) JY [.var 0]) [
   .ret [] (.cst<|.str<|q "list")] [],
  .ret [] (.ifx (.op (.isI ["tuple"]) JY [.mv 0]) (.cst<|.str<|q "tuple")<|.cst<|.str<|q "none")]}
noncomputable def aD:Fn:={ps:=1,ns:=1,io:=[],body:=[
  .ret [0] (.and (.op (.isI ["tuple"]) JY [.var 0])<|.op .all JY [.comp JY .seq [.var 0] [1] J<|.op .eq JY [.call 264 [.var 1],.cst<|.str<|q "number"]])]}
noncomputable def aq:Fn:={ps:=3,ns:=6,io:=[],body:=[
  .ite (.q [2] []) (.not (.op (.isI ["list"]) JY [.var 2])) [
   .ret [] (.cst<|.bl JY)] [],
  .asg (.q [0] []) 3 (.comp JY .seq [.var 0] [6] J<|.op .ix JY [.var 6,.cst<|.int 2]),
  .forS [2] [] .seq [.var 2] [4] [
   .ite (.q [0,1,4] []) (.not (.call 357 [.var 4,.op .len JY [.var 0],.var 1])) [
    .ret [] (.cst<|.bl JY)] [],
   .forS [4] [] .seq [.var 4] [5] [
    .ite (.q [0,3,5] []) (.op .any JY [.comp JY .seq [.op .ix JY [.op .ix JY [.var 0,.op .ix JY [.var 5,.cst (.int 0)]],.cst (.int 3)]] [7] J (.op .ne JY [.op .ix JY [.var 3,.var 7],.cst (.int 0)])]) [
     .ret [] (.cst<|.bl JY)] []],
   .forS [4] [] .seq [.var 4] [5] [
    .setI (.q [3,5] []) 3 (.op .ix JY [.var 5,.cst<|.int 0]) (.op .sub JY [.op .ix JY [.var 3,.op .ix JY [.var 5,.cst<|.int 0]],.op .ix JY [.var 5,.cst<|.int 1]])]],
  .ret [] (.op .all JY [.comp JY .seq [.mv 3] [8] J<|.op .eq JY [.var 8,.cst<|.int 0]])]}
noncomputable def aH:Fn:={ps:=3,ns:=4,io:=[],body:=[
  .ite (.q [0] [1]) (.or (.not (.op (.isI ["list"]) JY [.var 0])) (.not (.op .all JY [.comp JY .seq [.var 0] [4] J (.call 302 [.var 4,.var 1])]))) [
   .ret [] (.cst<|.bl JY)] [],
  .asg (.q [0] []) 3 (.comp JY .seq [.var 0] [5] J<|.op .ix JY [.var 5,.cst<|.int 0]),
  .ret [3] (.and (.op .eq JY [.var 3,.op .sortedSet JY [.var 3]])<|.op .le JY [.op .sum JY [.comp JY .seq [.mv 0] [6] J<|.op .ix JY [.var 6,.cst<|.int 1]],.mv 2])]}
noncomputable def aU:Fn:={ps:=2,ns:=0,io:=[],body:=[
  .ret [0] (.and (.call 265 [.var 0])<|.and (.op .eq JY [.op .len JY [.var 0],.cst<|.int 2])<|.and (.chain .le .lt (.cst<|.int 0) (.op .ix JY [.var 0,.cst<|.int 0])<|.mv 1)<|.op .ge JY [.op .ix JY [.var 0,.cst<|.int 1],.cst<|.int 1])]}
noncomputable def b5:Fn:={ps:=1,ns:=0,io:=[],body:=[
  .ret [] (.lst JZ [.op .list JZ [.op .sl2 JZ [.mv 0,.cst<|.int 63]],.cst<|.int 0,.cst<|.int 0])]}
noncomputable def bA:Fn:={ps:=2,ns:=4,io:=[0],body:=[
  .ite (.q [0] []) (.op .gt JY [.op .ix JY [.var 0,.cst (.int 2)],.cst (.int 0)]) [
   .asg (.q [0] [1]) 2 (.op .modN JY [.op .ix JY [.var 0,.cst<|.int 2],.var 1]),
   .setI (.q [0] [1]) 0 (.cst<|.int 2) (.op .fdivN JY [.op .ix JY [.var 0,.cst<|.int 2],.var 1]),
   .ret [] (.mv 2)] [],
  .asg (.q [0] []) 3 (.op .ix JY [.var 0,.cst<|.int 1]),
  .setI (.q [3] []) 0 (.cst<|.int 1) (.op .add JY [.var 3,.cst<|.int 1]),
  .asg (.q [] []) 4 (.cst<|.int 0),
  .ite (.q [0] []) (.op .gt JY [.op .len JY [.op .ix JY [.var 0,.cst (.int 0)]],.cst (.int 0)]) [
   .asg (.q [0,3] []) 4 (.op .ix JY [.op .ix JY [.var 0,.cst<|.int 0],.op .modN JY [.var 3,.op .len JY [.op .ix JY [.var 0,.cst<|.int 0]]]])] [],
  .ite (.q [0,3,4] []) (.and (.op .lt JY [.var 3,.op .len JY [.op .ix JY [.var 0,.cst (.int 0)]]]) (.op .ge JY [.var 4,.op .pow JY [.cst (.int 10),.cst (.int 18)]])) [
   .setI (.q [4] [1]) 0 (.cst<|.int 2) (.op .fdivN JY [.var 4,.var 1]),
   .ret [] (.op .modN JY [.mv 4,.mv 1])] [],
  .asg (.q [3,4] []) 5 (.op .modN JY [.op .mul JY [.op .add JY [.op .modN JY [.var 4,.cst<|.int 1000003],.cst<|.int 1],.op .add JY [.op .add JY [.op .mul JY [.op .mul JY [.cst<|.int 7919,.var 3],.var 3],.op .mul JY [.cst<|.int 104729,.var 3]],.cst<|.int 12345]],.cst<|.int 2147483647]),
  .asg (.q [3,4] [5]) 5 (.op .modN JY [.op .add JY [.op .add JY [.op .mul JY [.var 5,.var 5],.op .mul JY [.cst<|.int 48271,.var 3]],.op .modN JY [.var 4,.cst<|.int 65537]],.cst<|.int 2147483629]),
  .ret [] (.op .modN JY [.op .fdivN JY [.mv 5,.cst<|.int 8],.mv 1])]}
noncomputable def f_law_waits:Fn:={ps:=1,ns:=10,io:=[0],body:=[
  .asg (.l []) 1 (.op .ix JY [.lst JY [.cst<|.int 0,.cst<|.int 1,.cst<|.int 2,.cst<|.int 3,.cst<|.int 4,.cst<|.int 5,.cst<|.int 6,.cst<|.int 7,.cst<|.int 8,.cst<|.int 9,.cst<|.int 10,.cst<|.int 12],.call 201 [.io 0,.cst<|.int 12]]),
  .asg (.q [] [1]) 2 (.op .rng JY [.cst<|.int 0,.var 1]),
  .asg (.q [] []) 3 (.lst JY []),
  .asg (.q [] []) 4 (.op .dnew JY []),
  .asg (.l []) 5 (.op .add JY [.cst<|.int 2,.call 201 [.io 0,.cst<|.int 4]]),
  .forS [] [1] .rng [.var 1] [6] [
   .asg (.l []) 7 (.popN 2<|.call 201 [.io 0,.lenV 2]),
   .setS (.l [7]) 4 (.var 7) (.op .sorted JY [.compV JZ 3 10 (.op .eq JY [.call 201 [.io 0,.var 5],.cst<|.int 0])<|.var 10]),
   .app (.q [7] []) 3 (.var 7)],
  .asg (.q [] []) 8 (.lst JY []),
  .forS [] [1] .rng [.var 1] [6] [
   .asg (.l []) 9 (.op .ix JY [.lst JY [.cst<|.int 1,.op .add JY [.cst<|.int 1,.call 201 [.io 0,.cst<|.int 4]],.op .add JY [.cst<|.int 1,.call 201 [.io 0,.cst<|.int 9]],.op .add JY [.cst<|.int 20,.call 201 [.io 0,.cst<|.int 40]]],.op .fdiv JY [.op .mul JY [.call 201 [.io 0,.cst<|.int 8],.cst<|.int 4],.cst<|.int 8]]),
   .app (.q [4,9] [6]) 8 (.tup [.tup [.op .fdiv JY [.var 6,.cst<|.int 3],.op .mod JY [.var 6,.cst<|.int 3]],.tup [],.var 9,.op .ixD JY [.var 4,.var 6]])],
  .ret [] (.mv 8)]}
noncomputable def bJ:Fn:={ps:=1,ns:=0,io:=[0],body:=[
  .ret [] (.op .ix JY [.lst JY [.cst<|.int 1,.cst<|.int 20,.op .add JY [.cst<|.int 1,.call 201 [.io 0,.cst<|.int 4]],.op .add JY [.cst<|.int 1,.call 201 [.io 0,.cst<|.int 20]]],.call 201 [.io 0,.cst<|.int 4]])]}
noncomputable def cH:Fn:={ps:=2,ns:=2,io:=[],body:=[
  .ret [0,1] (.comp JZ .rng [.op .len JY [.var 0]] [2] (O<|.and (.op .gt JY [.op .ix JY [.var 1,.var 2],.cst<|.int 0])<|.op .eq JY [.comp JY .seq [.op .ix JY [.op .ix JY [.var 0,.var 2],.cst<|.int 3]] [3] (O<|.op .gt JY [.op .ix JY [.var 1,.var 3],.cst<|.int 0])<|.var 3,.lst JY []])<|.var 2)]}
noncomputable def aG:Fn:={ps:=1,ns:=0,io:=[],body:=[
  .ret [0] (.and (.op (.isI ["int"]) JY [.var 0])<|.not<|.op (.isI ["bool"]) JY [.var 0])]}
noncomputable def ai:Fn:={ps:=2,ns:=0,io:=[],body:=[
  .ite (.q [1] []) (.or (.not (.op (.isI ["tuple"]) JY [.var 1])) (.op .ne JY [.op .len JY [.var 1],.cst (.int 2)])) [
   .ret [] (.cst<|.bl JY)] [],
  .ret [1] (.and (.call 272 [.op .ix JY [.var 1,.cst<|.int 0]])<|.and (.call 272 [.op .ix JY [.var 1,.cst<|.int 1]])<|.and (.op .le JY [.cst<|.int 0,.op .ix JY [.var 1,.cst<|.int 0]])<|.and (.op .lt JY [.op .ix JY [.var 1,.cst<|.int 0],.mv 0])<|.op .gt JY [.op .ix JY [.var 1,.cst<|.int 1],.cst<|.int 0])]}
noncomputable def ah:Fn:={ps:=3,ns:=13,io:=[],body:=[
  .ite (.q [2] []) (.not (.op (.isI ["list"]) JY [.var 2])) [
   .ret [] (.cst<|.bl JY)] [],
  .asg (.q [0] []) 3 (.comp JZ .seq [.var 0] [13] J<|.lst JZ []),
  .asg (.q [0] []) 4 (.comp JY .seq [.var 0] [14] J<|.cst<|.int 0),
  .forS [2] [] .enm [.var 2] [5,6] [
   .ite (.q [6] []) (.not (.op (.isI ["list"]) JY [.var 6])) [
    .ret [] (.cst<|.bl JY)] [],
   .asg (.q [] []) 7 (.op .neg JY [.cst<|.int 1]),
   .asg (.q [] []) 8 (.cst<|.int 0),
   .forS [6] [] .seq [.var 6] [9] [
    .ite (.q [0,7,9] []) (.or (.not (.call 303 [.op .len JY [.var 0],.var 9])) (.op .le JY [.op .ix JY [.var 9,.cst (.int 0)],.var 7])) [
     .ret [] (.cst<|.bl JY)] [],
    .asg (.q [9] []) 7 (.op .ix JY [.var 9,.cst<|.int 0]),
    .asg (.q [8,9] []) 8 (.op .add JY [.var 8,.op .ix JY [.var 9,.cst<|.int 1]]),
    .apN 3 7 5,
    .setI (.q [4,7,9] []) 4 (.var 7) (.op .add JY [.op .ix JY [.var 4,.var 7],.op .ix JY [.var 9,.cst<|.int 1]])],
   .ite (.q [1,8] []) (.op .gt JY [.var 8,.var 1]) [
    .ret [] (.cst<|.bl JY)] []],
  .ite (.q [0,4] []) (.op .ne JY [.var 4,.comp JY .seq [.var 0] [15] J (.op .ix JY [.var 15,.cst (.int 2)])]) [
   .ret [] (.cst<|.bl JY)] [],
  .forS [0] [] .enm [.var 0] [10,11] [
   .forS [11] [] .seq [.op .ix JY [.var 11,.cst (.int 3)]] [12] [
    .ite (.q [3,12] [10]) (.op .le JY [.op .ix JY [.op .ix JY [.var 3,.var 10],.cst (.int 0)],.op .ix JY [.op .ix JY [.var 3,.var 12],.op .neg JY [.cst (.int 1)]]]) [
     .ret [] (.cst<|.bl JY)] []]],
  .ret [] (.cst<|.bl JZ)]}
noncomputable def aQ:Fn:={ps:=3,ns:=9,io:=[0],body:=[
  .asg (.q [1] []) 3 (.comp JY .seq [.var 1] [11] J<|.op .ix JY [.var 11,.cst<|.int 2]),
  .asg (.q [] []) 4 (.lst JY []),
  .whl (.q [3] []) (.op .gt JY [.op .sum JY [.var 3],.cst (.int 0)]) [
   .asg (.q [2] []) 5 (.var 2),
   .asg (.q [] []) 6 (.lst JY []),
   .asg (.q [1,3] []) 7 (.call 308 [.var 1,.var 3]),
   .asg (.l []) 8 (.call 201 [.io 0,.cst<|.int 3]),
   .forS [7] [] .seq [.var 7] [9] [
    .asg (.q [3,5,9] []) 10 (.op .min JY [.var 5,.op .ix JY [.var 3,.var 9]]),
    .ite (.l [7,9]) (.and (.op .gt JY [.var 10,.cst (.int 0)]) (.or (.op .lt JY [.var 8,.cst (.int 2)]) (.or (.op .eq JY [.var 9,.op .ix JY [.var 7,.op .neg JY [.cst (.int 1)]]]) (.op .eq JY [.call 201 [.io 0,.cst (.int 2)],.cst (.int 0)])))) [
     .ite (.q [] [8]) (.op .eq JY [.var 8,.cst (.int 1)]) [
      .asg (.l []) 10 (.op .add JY [.cst<|.int 1,.call 201 [.io 0,.var 10]])] [],
     .app (.q [9] [10]) 6 (.tup [.var 9,.var 10]),
     .asg (.q [5] [10]) 5 (.op .sub JY [.var 5,.var 10])] []],
   .forS [6] [] .sq2 [.var 6] [9,10] [
    .setI (.q [3,9] [10]) 3 (.var 9) (.op .sub JY [.op .ix JY [.var 3,.var 9],.var 10])],
   .app (.q [6] []) 4 (.var 6)],
  .ret [] (.mv 4)]}
noncomputable def bW:Fn:={ps:=3,ns:=0,io:=[],body:=[
  .ret [0,1] (.op .add JY [.op .add JY [.op .sl2 JY [.var 0,.var 1],.lst JY [.mv 2]],.op .sl1 JY [.var 0,.op .add JY [.var 1,.cst<|.int 1]]])]}
noncomputable def aW:Fn:={ps:=4,ns:=6,io:=[0],body:=[
  .asg (.q [1,2] []) 4 (.op .ix JY [.var 1,.var 2]),
  .asg (.l [4]) 5 (.call 201 [.io 0,.op .len JY [.var 4]]),
  .asgT (.q [4] [5]) [6,7] (.op .ix JY [.var 4,.var 5]),
  .asg (.l [6,7]) 8 (.lst JY [.tup [.var 6,.op .add JY [.var 7,.cst<|.int 1]],.tup [.var 6,.op .sub JY [.var 7,.cst<|.int 1]],.tup [.var 6,.cst<|.int 0],.tup [.var 6,.op .sub JY [.cst<|.int 0,.cst<|.int 1]],.tup [.call 201 [.io 0,.var 3],.var 7],.tup [.var 3,.var 7],.tup [.op .sub JY [.cst<|.int 0,.cst<|.int 1],.var 7]]),
  .asg (.q [6,7,8] []) 8 (.op .add JY [.var 8,.lst JY [.tup [.var 6,.cst<|.bl JZ],.tup [.cst<|.bl JY,.var 7],.lst JY [.var 6,.var 7],.tup [.var 6,.var 7,.cst<|.int 1],.tup [.var 6],.cst<|.non,.tup [.op .str JY [.var 6],.var 7]]]),
  .asg (.l [8]) 9 (.op .ix JY [.var 8,.call 201 [.io 0,.cst<|.int 14]]),
  .ret [4] (.call 360 [.mv 1,.mv 2,.op .add JY [.op .add JY [.op .sl2 JY [.var 4,.var 5],.lst JY [.mv 9]],.op .sl1 JY [.var 4,.op .add JY [.var 5,.cst<|.int 1]]]])]}
noncomputable def f_law_bent:Fn:={ps:=3,ns:=5,io:=[0],body:=[
  .asg (.q [1] []) 3 (.comp JY .rng [.op .len JY [.var 1]] [7] (O<|.op .ne JY [.op .ix JY [.var 1,.var 7],.lst JY []])<|.var 7),
  .asg (.l []) 4 (.call 201 [.io 0,.cst<|.int 16]),
  .ite (.q [3] [4]) (.or (.op .eq JY [.var 3,.lst JY []]) (.op .eq JY [.var 4,.cst (.int 15)])) [
   .ret [1] (.op .ix JY [.lst JY [.cst<|.non,.tup [],.cst<|.str<|q "",.lst JY [.cst<|.non],.lst JY [.tup []],.lst JY [.lst JY [.tup [.cst<|.int 0,.cst<|.int 1]]],.op .add JY [.var 1,.lst JY [.lst JY []]],.op .tuple JY [.var 1]],.call 201 [.io 0,.cst<|.int 8]])] [],
  .asg (.l [3]) 5 (.op .ix JY [.var 3,.call 201 [.io 0,.op .len JY [.var 3]]]),
  .asg (.q [1,5] []) 6 (.op .ix JY [.var 1,.var 5]),
  .ite (.q [] [4]) (.op .lt JY [.var 4,.cst (.int 6)]) [
   .ret [] (.call 361 [.io 0,.mv 1,.mv 5,.mv 2])] [],
  .ite (.q [] [4]) (.op .eq JY [.var 4,.cst (.int 6)]) [
   .ret [] (.call 360 [.mv 1,.mv 5,.op .revL JY [.mv 6]])] [],
  .ite (.q [] [4]) (.op .eq JY [.var 4,.cst (.int 7)]) [
   .ret [6] (.call 360 [.mv 1,.mv 5,.op .add JY [.var 6,.op .sl1 JY [.var 6,.op .neg JY [.cst<|.int 1]]]])] [],
  .ite (.q [] [4]) (.op .eq JY [.var 4,.cst (.int 8)]) [
   .ret [] (.call 360 [.mv 1,.mv 5,.op .sl1 JY [.mv 6,.cst<|.int 1]])] [],
  .ite (.q [] [4]) (.op .eq JY [.var 4,.cst (.int 9)]) [
   .ret [] (.call 360 [.mv 1,.mv 5,.op .tuple JY [.mv 6]])] [],
  .ite (.q [] [4]) (.op .eq JY [.var 4,.cst (.int 10)]) [
   .ret [1,5] (.op .add JY [.op .sl2 JY [.var 1,.var 5],.op .sl1 JY [.var 1,.op .add JY [.var 5,.cst<|.int 1]]])] [],
  .ite (.q [] [4]) (.op .eq JY [.var 4,.cst (.int 11)]) [
   .ret [1,5] (.op .add JY [.op .add JY [.op .sl2 JY [.var 1,.var 5],.lst JY [.lst JY []]],.op .sl1 JY [.var 1,.var 5]])] [],
  .ite (.q [1,5] [4]) (.and (.op .eq JY [.var 4,.cst (.int 12)]) (.op .lt JY [.op .add JY [.var 5,.cst (.int 1)],.op .len JY [.var 1]])) [
   .ret [1,5] (.op .add JY [.op .add JY [.op .sl2 JY [.var 1,.var 5],.lst JY [.op .sortedP JY [.op .add JY [.mv 6,.op .ix JY [.var 1,.op .add JY [.var 5,.cst<|.int 1]]]]]],.op .sl1 JY [.var 1,.op .add JY [.var 5,.cst<|.int 2]]])] [],
  .ite (.q [1,5] [4]) (.and (.op .eq JY [.var 4,.cst (.int 13)]) (.op .lt JY [.op .add JY [.var 5,.cst (.int 1)],.op .len JY [.var 1]])) [
   .ret [1,5] (.op .add JY [.op .add JY [.op .sl2 JY [.var 1,.var 5],.lst JY [.op .ix JY [.var 1,.op .add JY [.var 5,.cst<|.int 1]],.mv 6]],.op .sl1 JY [.var 1,.op .add JY [.var 5,.cst<|.int 2]]])] [],
  .ret [1,5,6] (.op .add JY [.op .add JY [.op .sl2 JY [.var 1,.var 5],.lst JY [.op .sl2 JY [.var 6,.cst<|.int 1],.op .sl1 JY [.var 6,.cst<|.int 1]]],.op .sl1 JY [.var 1,.op .add JY [.var 5,.cst<|.int 1]]])]}
noncomputable def f_law:Fn:={ps:=1,ns:=10,io:=[],body:=[
  .asg (.q [0] []) 1 (.call 179 [.var 0]),
  .forS [] [] .rng [.cst (.int 4)] [2] [
   .asg (.l []) 3 (.call 278 [.io 1]),
   .asg (.l [3]) 4 (.call 279 [.io 1]),
   .asg (.l [3,4]) 5 (.call 359 [.io 1,.var 3,.var 4]),
   .ite (.q [3,4,5] []) (.op .isnB JY [.call 356 [.var 3,.var 4,.var 5],.cst (.bl JZ)]) [
    .ret [] (.cst<|.bl JY)] [],
   .forS [] [] .rng [.cst (.int 4)] [6] [
    .asg (.l [3,5]) 7 (.call 363 [.io 1,.var 5,.op .len JY [.var 3]]),
    .asg (.l [4]) 8 (.op .ix JY [.lst JY [.var 4,.op .max JY [.cst<|.int 1,.op .sub JY [.var 4,.cst<|.int 1]],.cst<|.int 20],.call 201 [.io 1,.cst<|.int 3]]),
    .asg (.q [3,7] []) 9 (.op .repr JY [.tup [.var 3,.var 7]]),
    .asg (.q [3,7,8] []) 10 (.call 356 [.var 3,.var 8,.var 7]),
    .ite (.q [3,7,8,10] []) (.or (.not (.op (.isI ["bool"]) JY [.var 10])) (.op .ne JY [.var 10,.call 358 [.var 3,.var 8,.var 7]])) [
     .ret [] (.cst<|.bl JY)] [],
    .ite (.q [3,7,9] []) (.op .ne JY [.op .repr JY [.tup [.var 3,.var 7]],.var 9]) [
     .ret [] (.cst<|.bl JY)] []]],
  .ret [] (.cst<|.bl JZ)]}
noncomputable def prog:U Fn:=[f_law,zf,zf,zf,zf,zf,zf,zf,zf,zf,zf,zf,zf,zf,zf,zf,zf,zf,zf,zf,zf,zf,zf,zf,zf,zf,zf,zf,zf,zf,zf,zf,zf,zf,zf,zf,zf,zf,zf,zf,zf,zf,zf,zf,zf,zf,zf,zf,zf,zf,zf,zf,zf,zf,zf,zf,zf,zf,zf,zf,zf,zf,zf,zf,zf,zf,zf,zf,zf,zf,zf,zf,zf,zf,zf,zf,zf,zf,zf,zf,zf,zf,zf,zf,zf,zf,zf,zf,zf,zf,zf,zf,zf,zf,zf,zf,zf,zf,zf,zf,zf,zf,zf,zf,zf,zf,zf,zf,zf,zf,zf,zf,zf,zf,zf,zf,zf,zf,zf,zf,zf,zf,zf,zf,zf,zf,zf,zf,zf,zf,zf,zf,zf,zf,zf,zf,zf,zf,zf,zf,zf,zf,zf,zf,zf,zf,zf,zf,zf,zf,zf,zf,zf,zf,zf,zf,zf,zf,zf,zf,zf,zf,zf,zf,zf,zf,zf,zf,zf,zf,zf,zf,zf,zf,zf,zf,zf,zf,zf,b5,zf,zf,zf,zf,zf,zf,zf,zf,zf,zf,zf,zf,zf,zf,zf,zf,zf,zf,zf,zf,zf,bA,zf,zf,zf,zf,zf,zf,zf,zf,zf,zf,zf,zf,zf,zf,zf,zf,zf,zf,zf,zf,zf,zf,zf,zf,zf,zf,zf,zf,zf,zf,zf,zf,zf,zf,zf,zf,zf,zf,zf,zf,zf,zf,zf,zf,zf,zf,zf,zf,zf,zf,zf,zf,zf,zf,zf,zf,zf,zf,zf,zf,zf,zf,aX,aD,zf,zf,zf,zf,zf,zf,aG,zf,zf,zf,zf,zf,f_law_waits,bJ,zf,zf,zf,zf,zf,zf,zf,zf,zf,zf,zf,zf,zf,zf,zf,zf,zf,zf,zf,zf,zf,zf,aU,ai,zf,zf,zf,zf,cH,zf,zf,zf,zf,zf,zf,zf,zf,zf,zf,zf,zf,zf,zf,zf,zf,zf,zf,zf,zf,zf,zf,zf,zf,zf,zf,zf,zf,zf,zf,zf,zf,zf,zf,zf,zf,zf,zf,zf,zf,zf,zf,zf,zf,zf,zf,zf,aq,aH,ah,aQ,bW,aW,zf,f_law_bent]
end A75

set_option compiler.extract_closed false
namespace P75
section
open M A75
open PySem (Str)
local macro_rules
 | `(tactic| simp_all only [$ls,*])=>`(tactic| simp only [BX,D9,EE,B8,Eh,Ex,Dk,y8,zw,xI,yQ,xB,yt,yz,xP,xl,Ae,Af,yC,xq,xF,yE,Aq,zc,wY,yM,yn,xQ,uW,qX,yu,Ax,ya,yI,rA,va,kOp,qL,kOr,qo,kC3,kC2,kC1,oU,kZ,c9,bE,b8,iq,ei,oP,bo,kX,kT,kT2,kIf,zl,n4,qZ,Ed,tD,wK,qq,kNx,kRt,tS,xo,qe,okW,then',rF,gK,aO,ag,ios,putAll,Bd,Iq,Bm,Ec,C9,yp,Ac,yj,Bc,Dp,DR,CM,D3,Dn,BQ,Ge,Fb,FZ,Gw,Fm,FH,yN,wM,xA,zY,Fv,BC,tL,uz,ug,wj,CQ,wV,xD,vI,uG,Hr,GP,Fc,HZ,rE,ue,u7,Eu,Dm,Cp,Es,Dd,CI,Ez,Co,Am,As,zM,C7,v5,ui,sP,GQ,tJ,vO,Az,Gz,Dy,Dj,BV,Bz,Ei,DA,IB,Jg,Jv,JU,FT,Gv,Dv,CB,EN,GH,FY,EL,GS,xW,EF,Gn,HH,yX,wG,Gy,Gx,CP,BF,CG,Dg,rN,vt,tV,E9,uK,tK,yZ,yf,xy,yB,DC,BW,BS,s9,eA,pI,pT,qQ,BD,DJ,Cy,Ci,Cu,C8,CJ,BE,Fx,qY,tf,DP,BP,at0,at1,at2,at3,at4,List.cons_append,Lv,KR,Ku,MD,L8,List.replicate_zero,reduceIte,if_true,if_false,String.reduceBEq,NF,P9,Oi,Bool.and_self,LS,ND,xm,kIo,CT,CN,qA,rB,qk,qt,pQ,sy,qm,tQ,qG,qD,km,ni,mV,DF,nH,mY,CU,Ee,BM,oE,Fy,GF,Hx,xk,Bl,FJ,r8,tR,Dz,kU,IC,D5,D2,wU,zx,uN,vN,qv,qR,Dh,zZ,rn,AA,Hy,Hl,F5,IW,GK,Gq,FE,F9,GZ,Ho,Jc,Fq,Gs,Hb,Ia,GD,E5,Ja,GG,HJ,Hh,Hq,Ih,Ff,ER,EX,ID,Iv,JL,Bu,yT,A9,Ct,Ft,BU,mG,mT,f6,gj,nF,oY,nr,mn,k7,kV1,kV2,CA,pL,sE,apU,Ds,BA,JN,dh,i5,$ls,*])
abbrev C (n:Y):Call:=callR prog 1000000 1000001 n
theorem mf (n:Y)(a:U W):C (n+1) 179 a=runF (C n) b5 a:=rfl
theorem lU (n:Y)(a:U W):C (n+1) 201 a=runF (C n) bA a:=rfl
theorem nW (n:Y)(a:U W):C (n+1) 264 a=runF (C n) aX a:=rfl
theorem dv (n:Y)(a:U W):C (n+1) 265 a=runF (C n) aD a:=rfl
theorem eC (n:Y)(a:U W):C (n+1) 272 a=runF (C n) aG a:=rfl
theorem jS (n:Y)(a:U W):C (n+1) 278 a=runF (C n) f_law_waits a:=rfl
theorem jm (n:Y)(a:U W):C (n+1) 279 a=runF (C n) bJ a:=rfl
theorem fE (n:Y)(a:U W):C (n+1) 302 a=runF (C n) aU a:=rfl
theorem dj (n:Y)(a:U W):C (n+1) 303 a=runF (C n) ai a:=rfl
theorem nL (n:Y)(a:U W):C (n+1) 308 a=runF (C n) cH a:=rfl
theorem c7 (n:Y)(a:U W):C (n+1) 356 a=runF (C n) aq a:=rfl
theorem gW (n:Y)(a:U W):C (n+1) 357 a=runF (C n) aH a:=rfl
theorem fN (n:Y)(a:U W):C (n+1) 358 a=runF (C n) ah a:=rfl
theorem d7 (n:Y)(a:U W):C (n+1) 359 a=runF (C n) aQ a:=rfl
theorem kE (n:Y)(a:U W):C (n+1) 360 a=runF (C n) bW a:=rfl
theorem eX (n:Y)(a:U W):C (n+1) 361 a=runF (C n) aW a:=rfl
theorem mq (n:Y)(a:U W):C (n+1) 363 a=runF (C n) f_law_bent a:=rfl
noncomputable def nT (a:U Int)(x y:Int):T:=.lst [.lst<|a.map T.int,.int x,.int y]
def Tp (N:Y)(t:T):Prop:=∃a x y,t=nT a ((x:Y):Int) y/\x<=N
theorem tm {a b:Y}{t:T}(h:Tp a t)(c:a<=b):Tp b t:=by obtain⟨d,x,y,e,hx⟩:=h;exact⟨d,x,y,e,Ky hx c⟩
theorem Bh {d:Type}(a b c:d):ixN [a,b,c].length 1=O 1:=rfl
theorem Bv {d:Type}(a b c:d):ixN [a,b,c].length 2=O 2:=rfl
theorem nO:oSem .pow JY [(.d,.int 10),(.d,.int 18)]=O (.d,.int 1000000000000000000):=rfl
theorem FR {b:U Int}{x:Int}(hx:0<=x)(h:b≠[]):∃c,atI (b.map T.int) (x.fmod ((b.map T.int).length:Int))=O (.int c):=by
 have k:0<b.length:=Om.mpr h;have e:((b.map T.int).length:Int)=(b.length:Int):=by rw[J6]
 rw[e,OU x<|by lia];have f:0<=x % (b.length:Int):=PD _ (by lia);have i:x % (b.length:Int)<b.length:=Pl _ (by lia);obtain⟨a,g⟩:∃a:Y,x % (b.length:Int)=a:=⟨_,(MF f).symm⟩;have d:a<b.length:=by lia
 exact⟨b[a],atN g<|by rw[Kz,Kj d];rfl⟩
theorem fm {a k:Int}(hk:0<k):0<=a.fmod k/\a.fmod k<k:=by rw[OU a<|by lia];exact⟨PD _<|by lia,Pl _ hk⟩
theorem b9 {n N:Y}{t:T}(m:Md)(k:Int)(Z:Tp N t)(hN:N<1000000000000000000)(hk:0<k)(P:k<1000000000000000000):
  ∃r w,0<=r/\r<k/\Tp (N+1) w/\C (n+1) 201 [(.d,t),(m,.int k)]=.ok ((.d,.int r),[(.d,w)]):=by
 obtain⟨b,x,y,rfl,hx⟩:=Z;have f:(k != 0)=true:=bne_iff_ne.mpr (by lia);have g:decide (k.natAbs<18446744073709551616)=true:=QE (by lia);rw[lU,x_run _ _ _ rfl];cases u:decide (0<y) with
 |true=>refine⟨y.fmod k,nT b ((x:Y):Int)<|y.fdiv k,(fm hk).1,(fm hk).2,⟨b,x,_,rfl,by lia⟩,?_⟩;simp_all only[bA,nT,u,f,g,Bh,Bv,Oh,Og]
 | false =>
  simp_all only[bA,nT,u,Bh,Bv,Oh,Og];generalize L:onF _ _ _ _=e
  obtain⟨c,rfl⟩:∃c:Int,e=.nx [O (Md.d,T.lst [T.lst (M0 T.int b),T.int ((x:Y)+1),T.int y]),O (m,T.int k),J,O (Md.d,T.int x),O (Md.d,T.int c),J]:=by
   rw[<- L];by_cases i:b=[]
   .subst i;exact⟨0,rfl⟩
   .obtain ⟨c,M⟩:=FR (x:=(x:Int)) (by lia) i;have hp:decide (0<((M0 T.int b).length:Int))=true:=QE (by rw[J6];have:=Om.mpr i;lia);have Q:(((M0 T.int b).length:Int) != 0)=true:=bne_iff_ne.mpr (by have:=QR hp;lia);refine⟨c,?_⟩;simp_all only[hp,Q,M]
  have z:decide ((x:Int).natAbs<18446744073709551616)=true:=QE (by lia);have cb:∀a:Int,decide ((a.fmod 1000003+1).natAbs<18446744073709551616)=true:=λa=>QE (by have:=fm (a:=a) (show(0:Int)<1000003 by decide);lia);have v:∀a:Int,decide ((a.fmod 2147483647).natAbs<18446744073709551616)=true:=λa=>QE (by have:=fm (a:=a) (show(0:Int)<2147483647 by decide);lia);have l:decide ((7919:Int).natAbs<18446744073709551616)=true:=rfl;have o:decide ((104729:Int).natAbs<18446744073709551616)=true:=rfl;have p:decide ((48271:Int).natAbs<18446744073709551616)=true:=rfl;have A:((1000003:Int) != 0)=true:=rfl;have D:((2147483647:Int) != 0)=true:=rfl;have F:((65537:Int) != 0)=true:=rfl;have G:((2147483629:Int) != 0)=true:=rfl;have H:((8:Int) != 0)=true:=rfl;have I:decide ((8:Int).natAbs<18446744073709551616)=true:=rfl;cases h:decide ((x:Int)<((M0 T.int b).length:Int)) with
  |false=>simp_all only[h,f,g,nO,z,cb,v,l,o,p,A,D,F,G,H,I,Oc,N8];exact⟨_,_,(fm hk).1,(fm hk).2,⟨b,x+1,y,rfl,by lia⟩,rfl⟩
  | true =>
   cases s:decide (1000000000000000000<=c) with
   |false=>simp_all only[h,s,f,g,nO,z,cb,v,l,o,p,A,D,F,G,H,I,Oc,N8];exact⟨_,_,(fm hk).1,(fm hk).2,⟨b,x+1,y,rfl,by lia⟩,rfl⟩
   |true=>simp_all only[h,s,f,g,nO,Bh,Bv,Oh,Og];exact⟨_,_,(fm hk).1,(fm hk).2,⟨b,x+1,c.fdiv k,rfl,by lia⟩,rfl⟩
theorem aT {b:Type}(f:b->Md)(g:b->T):∀a:U b,aO (a.map λx=>(f x,g x))=a.map g
|[]=>rfl
|x::a=>by show g x::aO _=g x::a.map g;rw[aT f g a]
theorem bQ:∀bs:U QJ,boolsOf (bs.map T.bl)=O bs
|[]=>rfl
|b::bs=>by show(boolsOf<|bs.map T.bl).map (b::·)=_;rw[bQ bs];rfl
theorem bT {b:Type}(g:b->QJ)(a:U b):aO (a.map λt=>((.d,.bl<|g t):W))=(a.map g).map T.bl:=by rw[aT (λ_=>Md.d) λu=>T.bl<|g u,KU];rfl
theorem EK (i:Int):(["int"].any λc=>isOne c<|T.int i)=true:=rfl
theorem IP (b:QJ):(["int"].any λc=>isOne c<|T.bl b)=true:=rfl
theorem E3:(["int"].any λc=>isOne c T.non)=false:=rfl
theorem Fw (x:Str):(["int"].any λc=>isOne c<|T.str x)=false:=rfl
theorem FI (a:U T):(["int"].any λc=>isOne c<|T.tup a)=false:=rfl
theorem GU (a:U T):(["int"].any λc=>isOne c<|T.lst a)=false:=rfl
theorem Bg (i:Int):(["bool"].any λc=>isOne c<|T.int i)=false:=rfl
theorem Dt (b:QJ):(["bool"].any λc=>isOne c<|T.bl b)=true:=rfl
theorem E8:(["bool"].any λc=>isOne c T.non)=false:=rfl
theorem GO (x:Str):(["bool"].any λc=>isOne c<|T.str x)=false:=rfl
theorem FN (a:U T):(["bool"].any λc=>isOne c<|T.tup a)=false:=rfl
theorem EZ (a:U T):(["bool"].any λc=>isOne c<|T.lst a)=false:=rfl
theorem zP (i:Int):(["list"].any λc=>isOne c<|T.int i)=false:=rfl
theorem zv (b:QJ):(["list"].any λc=>isOne c<|T.bl b)=false:=rfl
theorem rP:(["list"].any λc=>isOne c T.non)=false:=rfl
theorem xJ (x:Str):(["list"].any λc=>isOne c<|T.str x)=false:=rfl
theorem uh (a:U T):(["list"].any λc=>isOne c<|T.tup a)=false:=rfl
theorem Ir (a:U T):(["list"].any λc=>isOne c<|T.lst a)=true:=rfl
theorem FL (i:Int):(["tuple"].any λc=>isOne c<|T.int i)=false:=rfl
theorem Gg (b:QJ):(["tuple"].any λc=>isOne c<|T.bl b)=false:=rfl
theorem Bb:(["tuple"].any λc=>isOne c T.non)=false:=rfl
theorem FF (x:Str):(["tuple"].any λc=>isOne c<|T.str x)=false:=rfl
theorem nE (a:U T):(["tuple"].any λc=>isOne c<|T.tup a)=true:=rfl
theorem HP (a:U T):(["tuple"].any λc=>isOne c<|T.lst a)=false:=rfl
theorem rOks_all:∀{b:U T},rOks b=JZ ↔ ∀t∈b,rOk t=JZ
|[]=>⟨(λ_ _ h=>nomatch h),λ_=>rfl⟩
| t::b=>by
 show(rOk t&&rOks b)=JZ ↔ _;rw[Kt,rOks_all];constructor
 .rintro ⟨c,d⟩ u a;rcases Kg.mp a with rfl|a
  .exact c
  .exact d u a
 .exactλh=>⟨h t Ka,λu a=>h u<|Ke _ a⟩
theorem b7 {l:Type}{tg:U Y}{f:Env->Fl}{g:l->U W}(I:U l->Env->Prop):∀(i pre:U l) (a:Env),I pre a->(∀p x r a,pre++i=p++x::r->I p a->∃c d,aJ tg (g x) a=O c/\f c=.nx d/\I (p++[x]) d) ->
 ∃b,aY tg f (i.map g) a=.nx b/\I (pre++i) b
|[],pre,a,h,_=>⟨a,rfl,by rw[KR];exact h⟩
|x::i,pre,a,h,k=>by obtain⟨c,d,n,o,s⟩:=k pre x i a rfl h;obtain⟨b,e,m⟩:=b7 I i (pre++[x]) d s λp y r a e=>k p y r a (by rw[<- e,Lr];rfl);refine⟨b,?_,by rw[Lr] at m;exact m⟩;rw[Ku];show Fl.of _ (ofO<|aJ tg (g x) a) _=_;rw[n];show Fl.turn (f c) _=_;rw[o];exact e
theorem jP (C:Call):∀(a b:U S) (c:Env),evSs C (a++b) c=(evSs C a c).seq (evSs C b)
|[],b,c=>rfl
|s::a,b,c=>by show(evS C s c).seq (evSs C<|a++b)=((evS C s c).seq<|evSs C a).seq (evSs C b);cases evS C s c<;>first|rfl|exact jP C a b _
theorem go1 {C:Call}{a b:U S}{d c:Env}(h:evSs C a d=.nx c):evSs C (a++b) d=evSs C b c:=by rw[jP,h];rfl
abbrev Bk (f:Fn)(i a:Y):U S:=(f.body.drop i).take a
theorem hZ {x y:Int}:∀{l:U Int},y∈insI x l->y=x\/y∈l
|[],h=>.inl<|KA.mp h
| z::l,h=>by
 unfold insI at h;split at h
 .rcases Kg.mp h with e | e
  .exact .inl e
  .exact .inr e
 .rcases Kg.mp h with e | e
  .exact .inr (e ▸ Ka)
  .exact(hZ e).imp id (Ke _)
theorem lG (x:Int):∀l:U Int,(insI x l).length=l.length+1
|[]=>rfl
|z::l=>by
 unfold insI;split
 .rfl
 .rw[Ki,lG x l,Ki]
theorem dG {y:Int}:∀{l:U Int},y∈sortI l->y∈l
|[],h=>h
|x::l,h=>by
 rcases hZ (show y∈insI x (sortI l) from h) with e|e
 .exact e ▸ Ka
 .exact Ke _ (dG e)
theorem iV:∀l:U Int,(sortI l).length=l.length
|[]=>rfl
|x::l=>by show(insI x<|sortI l).length=_;rw[lG,iV l,Ki]
theorem kF:∀l:U Int,intsOf (l.map T.int)=O l
|[]=>rfl
|i::l=>by show(intsOf<|l.map T.int).map (i::·)=_;rw[kF l];rfl
theorem pj (l:U Int):leaves (l.map T.int)=true:=KI.mpr λt a=>by obtain⟨i,_,rfl⟩:=Kl.mp a;rfl
theorem iL:∀(l:U Int) (a:Y),(l.map T.int).eraseIdx a=(l.eraseIdx a).map T.int
|[],_=>rfl
|_::_,0=>rfl
|x::l,a+1=>by show T.int x::(l.map T.int).eraseIdx a=T.int x::(l.eraseIdx a).map T.int;rw[iL l a]
theorem oH:∀(l:U Int) (a:Y) (b:a<l.length),(l[a]::l.eraseIdx a).Perm l
|[],_,h=>nomatch h
|x::l,0,_=>NI _
|x::l,a+1,h=>(List.Perm.swap x _<|l.eraseIdx a).trans<|(oH l a<|OW h).cons x
theorem BY (l:U Int)(a:Y)(b:a<l.length)(f:a<1000)(n:Md):∃x∈l,(∀y∈l,y=x\/y∈l.eraseIdx a)/\(x::l.eraseIdx a).Perm l/\iU (.d,.lst<|l.map T.int) (n,.int (a:Int))=O ((.d,.int x),(.d,.lst<|(l.eraseIdx a).map T.int)):=by
 refine⟨l[a],Lj b,λy c=>?_,oH l a b,?_⟩
 .obtain ⟨k,hk,rfl⟩:=NN.mp c;by_cases e:k=a
  .exact .inl (by subst e;rfl)
  .exact .inr (List.mem_eraseIdx_iff_getElem.mpr ⟨k,hk,e,rfl⟩)
 .show (if (decide ((0:Int)<=(a:Int))&&decide ((a:Int)<1000)&&leaves (l.map T.int))=JZ then ((l.map T.int)[(a:Int).toNat]?).map (fun t=>(((.d,t),(.d,.lst<|(l.map T.int).eraseIdx (a:Int).toNat)):W×W)) else J)=_;rw[QE<|by lia,QE<|by lia,pj,LJ,Kz,Kj b,iL];rfl
theorem sY {P:T->Prop}(q:Int ⊕ Str)(t:T)(l:P t):∀(k:U<|Int ⊕ Str) (i:U T),i.length=k.length->(∀v∈i,P v)->(aR q t k i).2.length=(aR q t k i).1.length/\(aR q t k i).1.length<=k.length+1/\(∀v∈(aR q t k i).2,P v)/\(∀z,z=q\/z∈k->z∈(aR q t k i).1)
|[],[],_,_=>⟨rfl,J9 _,(λv m=>by rw[KA.mp m];exact l),λz f=>f.elim (λe=>e ▸ KA.mpr rfl) λh=>nomatch h⟩
|[],_::_,e,_=>by cases e
|_::_,[],e,_=>by cases e
| y::o,v::i,e,h=>by
 unfold aR;split
 .rename_i n;refine⟨e,La _,λu g=>?_,λz f=>?_⟩
  .rcases Kg.mp g with rfl | g
   .exact l
   .exact h u (Ke _ g)
  .rcases f with rfl | f
   .rw[n];exact Ka
   .exact f
 .obtain ⟨a,b,c,d⟩:=sY q t l o i (Lw e) fun u g=>h u (Ke _ g);refine⟨by rw[Ki,Ki,a],by rw[Ki,Ki];lia,λu g=>?_,λz f=>?_⟩
  .rcases Kg.mp g with rfl | g
   .exact h u Ka
   .exact c u g
  .rcases f with rfl | f
   .exact Ke _ (d z<|.inl rfl)
   .rcases Kg.mp f with rfl | f
    .exact Ka
    .exact Ke _ (d z<|.inr f)
theorem pE {P:T->Prop}(q:Int ⊕ Str):∀(g:U<|Int ⊕ Str) (c:U T),c.length=g.length->(∀v∈c,P v)->q∈g->∃v,lookD q g c=O v/\P v
|[],_,_,_,h=>nomatch h
|_::_,[],e,_,_=>by cases e
| y::k,v::c,e,h,d=>by
 by_cases f:y=q
 .exact⟨v,QG f,h v Ka⟩
 .rcases Kg.mp d with rfl | d
  .exact QL rfl f
  .obtain ⟨u,a,b⟩:=pE q k c (Lw e) (fun u i=>h u<|Ke _ i) d;exact⟨u,(QH f).trans a,b⟩
theorem lC (q z:Int ⊕ Str)(t:T):∀(d:U<|Int ⊕ Str) (a:U T),a.length=d.length->lookD z (aR q t d a).1 (aR q t d a).2=if z=q then O t else lookD z d a
|[],[],_=>by
 show(if q=z then O t else J)=_;by_cases h:q=z
 .rw[QG h,QG h.symm]
 .rw[QH h,QH λe=>h e.symm];rfl
|[],_::_,e=>by cases e
|_::_,[],e=>by cases e
| y::b,v::a,e=>by
 unfold aR;split
 .rename_i c;show(if y=z then O t else lookD z b a)=if z=q then O t else if y=z then O v else lookD z b a;by_cases h:z=q
  .rw[QG h,QG<|c.trans h.symm]
  .rw[QH h,QH λe=>h<|e.symm.trans c,QH λe=>h<|e.symm.trans c]
 .rename_i c;show(if y=z then O v else lookD z (aR q t b a).1 (aR q t b a).2)=if z=q then O t else if y=z then O v else lookD z b a;rw[lC q z t b a (Lw e)];by_cases h:z=q
  .rw[QG h,QG h,QH λe=>c<|e.trans h]
  .rw[QH h,QH h]
noncomputable abbrev CD:E:=.op .eq JY [.call 201 [.io 0,.var 5],.cst<|.int 0]
theorem Ig (n:Y)(c e f g o p u:j W)(a:Md)(k:Int)(hk:0<k)(y:k<100):∀(l:U Int) (N:Y) (t:T),Tp N t->N+l.length<1000000000000000000->∃(H:U W) (rs:U Int) (M:T),H=rs.map (λi=>((.s,.int i):W))/\(∀i∈rs,i∈l)/\rs.length<=l.length/\Tp (N+l.length) M /\
 ∀b,az [10] (b8 (evE (C<|n+1) CD)<|evE (C<|n+1)<|.var 10) (l.map λi=>[((.s,.int i):W)]) [O (.d,t),c,e,J,f,O (a,.int k),g,o,p,u,J] b=.ok (b++H,[O (.d,M),c,e,J,f,O (a,.int k),g,o,p,u,J])
|[],N,t,z,_=>⟨[],[],t,rfl,(λ_ h=>nomatch h),J9 _,z,λb=>by rw[KR];rfl⟩
| i::l,N,t,z,P=>by
 rw[Ki] at P;have Q:=λm=>b9 (n:=n) (m:=m) k z (by lia) hk (by lia);obtain⟨r,w,_,_,A,e1⟩:=Q<|lkM a;obtain⟨H,rs,G,rfl,I,Z,D,e2⟩:=Ig n c e f g o p u a k hk y l (N+1) w A (by lia);have v:Tp (N+(i::l).length) G:=tm D (by rw[Ki];lia);cases L:r==0 with
 | true =>
  refine⟨_,i::rs,G,rfl,λx hx=>?_,by rw[Ki,Ki];lia,v,λb=>?_⟩
  .rcases Kg.mp hx with rfl | hx
   .exact Ka
   .exact Ke _ (I x hx)
  .have F:b8 (evE (C (n+1)) CD) (evE (C (n+1)) (.var 10)) [O (.d,t),c,e,J,f,O (a,.int k),g,o,p,u,O (.s,.int i)]=.ok (O (.s,.int i),[O (.d,w),c,e,J,f,O (a,.int k),g,o,p,u,O (.s,.int i)]):=by simp_all only[b8,e1,L]
   rw[Ku];show(b8 _ _ _).bind _=_;rw[show put [O ((.d,t):W),c,e,J,f,O (a,.int k),g,o,p,u,J] 10 (.s,.int i)=[O (.d,t),c,e,J,f,O (a,.int k),g,o,p,u,O (.s,.int i)] from rfl,F];show az [10] _ _ _ (b++[((.s,.int i):W)])=_;rw[show ag [10] [O ((.d,w):W),c,e,J,f,O (a,.int k),g,o,p,u,O (.s,.int i)]=[O (.d,w),c,e,J,f,O (a,.int k),g,o,p,u,J] from rfl,e2,Lr];rfl
 | false =>
  refine⟨_,rs,G,rfl,λx hx=>Ke _<|I x hx,by rw[Ki];lia,v,λb=>?_⟩;have F:b8 (evE (C (n+1)) CD) (evE (C (n+1)) (.var 10)) [O (.d,t),c,e,J,f,O (a,.int k),g,o,p,u,O (.s,.int i)]=.ok (J,[O (.d,w),c,e,J,f,O (a,.int k),g,o,p,u,O (.s,.int i)]):=by simp_all only[b8,e1,L]
  rw[Ku];show(b8 _ _ _).bind _=_;rw[show put [O ((.d,t):W),c,e,J,f,O (a,.int k),g,o,p,u,J] 10 (.s,.int i)=[O (.d,t),c,e,J,f,O (a,.int k),g,o,p,u,O (.s,.int i)] from rfl,F];show az [10] _ _ _ (b++[])=_;rw[show ag [10] [O ((.d,w):W),c,e,J,f,O (a,.int k),g,o,p,u,O (.s,.int i)]=[O (.d,w),c,e,J,f,O (a,.int k),g,o,p,u,J] from rfl,e2,KR]
def jQ (n:Y)(t:T):Prop:=∃a:U Int,t=.lst (a.map T.int)/\(∀x∈a,0<=x/\x<(n:Int))/\a.length<=12
abbrev WB1:U S:=[
   .asg (.l []) 7 (.popN 2<|.call 201 [.io 0,.lenV 2]),
   .setS (.l [7]) 4 (.var 7) (.op .sorted JY [.compV JZ 3 10 CD<|.var 10]),
   .app (.q [7] []) 3 (.var 7)]
theorem oF (rs:U Int):(rs.map λi=>((.s,.int i):W)).all okD=true:=KI.mpr λw a=>by obtain⟨i,_,rfl⟩:=Kl.mp a;rfl
theorem yq (rs:U Int):aO (rs.map λi=>((.s,.int i):W))=rs.map T.int:=aT (λ_=>Md.s) T.int rs
theorem zD (n L N:Y)(t:T)(ht:Tp N t)(hN:N+50<1000000000000000000)(hn:n<=12)(l tu:U Int)(hl:1<=l.length)(hl2:l.length<=12)(hl3:∀x∈l,0<=x/\x<(n:Int))(htu:tu.length<=12)(D:∀x∈tu,0<=x/\x<(n:Int))(b:U<|Int ⊕ Str)(f:U T)(hk:f.length=b.length)(hk2:b.length<=12)(hv:∀v∈f,jQ n v)(w:Md)(Q:w≠.s)(k:Int)(I:0<k)(M:k<100)(g h o7:j W):
  ∃t' x a c e,Tp (N+15) t'/\x∈l/\(∀y∈l,y=x\/y∈l.eraseIdx a)/\(x::l.eraseIdx a).Perm l/\(∃ns:U Int,(∀y∈ns,y∈tu)/\∀z,lookD z c e=if z=.inl x then O (.lst<|ns.map T.int) else lookD z b f)/\a<l.length/\e.length=c.length/\c.length<=b.length+1/\(∀v∈e,jQ n v)/\(∀z:Int ⊕ Str,z=.inl x\/z∈b->z∈c) /\
  ∃o7',evSs (C<|L+1) WB1 [O (.d,t),g,O (.d,.lst<|l.map T.int),O (.o .s,.lst<|tu.map T.int),O (w,.dct b f),O (.d,.int k),h,o7,J,J,J]=.nx [O (.d,t'),g,O (.d,.lst<|(l.eraseIdx a).map T.int),O (.o .s,.lst<|(tu++[x]).map T.int),O (.o .s,.dct c e),O (.d,.int k),h,o7',J,J,J]:=by
 obtain⟨r,t1,r0,r1,ht1,e1⟩:=b9 (n:=L) .d ((l.length:Y):Int) ht (by lia) (by lia) (by lia);obtain⟨a,rfl⟩:∃a:Y,r=(a:Int):=⟨r.toNat,by lia⟩;obtain⟨x,hx,F,Z,ep⟩:=BY l a (by lia) (by lia) .d;have p:(((l.map T.int).length:Y):Int)=((l.length:Y):Int):=by rw[J6]
 obtain⟨ws,rs,G,rfl,h2,h3,ht2,e2⟩:=Ig L g (O (.d,.lst<|(l.eraseIdx a).map T.int)) (O (w,.dct b f)) h (O (.s,.int x)) J J .d k I M tu (N+1) t1 ht1 (by lia);have em:(tu.map T.int).map (λu=>[((.s,u):W)])=tu.map λi=>[((.s,.int i):W)]:=by rw[KU];rfl
 have hvw:vwT (O (.o .s,.lst (tu.map T.int)))=O (tu.map T.int):=QG<|pj tu;have ao:=oF rs;have tr:=yq rs;have im:=kF rs;have rl:decide (rs.length<64)=true:=QE (by lia);have H:jQ n (.lst ((sortI rs).map T.int)):=⟨sortI rs,rfl,λy F=>D y<|h2 y<|dG F,by rw[iV];lia⟩;obtain⟨p1,p2,p3,p4⟩:=sY (P:=jQ n) (.inl x) (.lst<|(sortI rs).map T.int) H b f hk hv;have lk:decide (b.length<LIM)=true:=QE<|by show _<16777215;lia
 have A:∀m m',eK (w,.dct b f) (m,.int x) (m',.lst ((sortI rs).map T.int))=O (.o .s,.dct (aR (.inl x) (.lst ((sortI rs).map T.int)) b f).1 (aR (.inl x) (.lst ((sortI rs).map T.int)) b f).2):=λm m'=>by
  cases w with
  |s=>exact QL rfl Q
  |d=>show(if decide (b.length<LIM)=JZ then _ else J)=_;rw[QG lk]
  |o _=>show(if decide (b.length<LIM)=JZ then _ else J)=_;rw[QG lk]
 have lt:((tu.map T.int).length<LIM)=Ra:=eq_true (by rw[J6];show _<16777215;lia);have ap:tu.map T.int++[T.int x]=(tu++[x]).map T.int:=by rw[Mk];rfl
 refine⟨G,x,a,_,_,tm ht2<|by lia,hx,F,Z,⟨sortI rs,λy F=>h2 y<|dG F,λz=>lC _ z _ b f hk⟩,by lia,p1,p2,p3,p4,?_⟩;generalize (aR (.inl x) (.lst<|(sortI rs).map T.int) b f).1=c at A;generalize (aR (.inl x) (.lst<|(sortI rs).map T.int) b f).2=e at A;have hA:evSs (C (L+1)) [.asg (.l []) 7 (.popN 2 (.call 201 [.io 0,.lenV 2]))] [O (.d,t),g,O (.d,.lst (l.map T.int)),O (.o .s,.lst (tu.map T.int)),O (w,.dct b f),O (.d,.int k),h,o7,J,J,J]=.nx [O (.d,t1),g,O (.d,.lst ((l.eraseIdx a).map T.int)),O (.o .s,.lst (tu.map T.int)),O (w,.dct b f),O (.d,.int k),h,O (.d,.int x),J,J,J]:=by generalize l.map T.int=lt at p ep;simp_all only[p,e1,ep]
 have hB:evSs (C (L+1)) [.setS (.l [7]) 4 (.var 7) (.op .sorted JY [.compV JZ 3 10 CD (.var 10)])] [O (.d,t1),g,O (.d,.lst ((l.eraseIdx a).map T.int)),O (.o .s,.lst (tu.map T.int)),O (w,.dct b f),O (.d,.int k),h,O (.d,.int x),J,J,J]=.nx [O (.d,G),g,O (.d,.lst ((l.eraseIdx a).map T.int)),O (.o .s,.lst (tu.map T.int)),O (.o .s,.dct c e),O (.d,.int k),h,O (.s,.int x),J,J,J]:=by simp_all only[hvw,em,e2,ao,tr,im,rl,A]
 have hC:evSs (C (L+1)) [.app (.q [7] []) 3 (.var 7)] [O (.d,G),g,O (.d,.lst ((l.eraseIdx a).map T.int)),O (.o .s,.lst (tu.map T.int)),O (.o .s,.dct c e),O (.d,.int k),h,O (.s,.int x),J,J,J]=.nx [O (.d,G),g,O (.d,.lst ((l.eraseIdx a).map T.int)),O (.o .s,.lst ((tu++[x]).map T.int)),O (.o .s,.dct c e),O (.d,.int k),h,O (.s,.int x),J,J,J]:=by rw[<- ap];simp_all only[lt]
 refine⟨O (.s,.int x),?_⟩;show evSs (C<|L+1) ([.asg (.l []) 7<|.popN 2<|.call 201 [.io 0,.lenV 2]]++([.setS (.l [7]) 4 (.var 7)<|.op .sorted JY [.compV JZ 3 10 CD<|.var 10]]++[.app (.q [7] []) 3<|.var 7])) _=_;rw[go1 hA,go1 hB,hC]
def Rk (a:Int->Y)(c:U<|Int ⊕ Str)(d:U T):Prop:=∀(z:Int) (v:T),lookD (.inl z) c d=O v->a z<13/\∃b:U Int,v=.lst (b.map T.int)/\∀y∈b,a y<a z
def Kd (tu:U Int)(b:U<|Int ⊕ Str)(c:U T):Prop:=∀(z:Int) (v:T),lookD (.inl z) b c=O v->z∈tu/\∃a:U Int,v=.lst (a.map T.int)/\∀y∈a,y∈tu/\tu.idxOf y<tu.idxOf z
theorem zC {tu:U Int}{o g:U<|Int ⊕ Str}{p i:U T}{x:Int}(h:Kd tu o p)(hx:x ∉ tu)(l:U Int)(k:∀y∈l,y∈tu)(e:∀z,lookD z g i=if z=.inl x then O (.lst<|l.map T.int) else lookD z o p):Kd (tu++[x]) g i:=λz v f=>by
 rw[e] at f;by_cases n:z=x
 .subst n;rw[QG rfl] at f;refine⟨KJ _ Ka,l,(KH f).symm,λy d=>⟨LV _<|k y d,?_⟩⟩;rw[NR,QG<|k y d,NR,QH hx];have:=Qc<|k y d;lia
 .rw [QH fun e=>n<|O1 e] at f;obtain⟨a,m,b,c⟩:=h z v f;refine⟨LV _ a,m,b,λy d=>⟨LV _ (c y d).1,?_⟩⟩;rw[NR,QG (c y d).1,NR,QG a];exact(c y d).2
theorem x6 (n L N:Y)(t:T)(ht:Tp N t)(hN:N+1000<1000000000000000000)(hn:n<=12)(k:Int)(hk0:0<k)(hk1:k<100)(o1:j W)(P:U Int)(hl0:P.length=n)(hl1:∀x∈P,0<=x/\x<(n:Int))(hl2:∀i:Y,i<n->(i:Int)∈P)(hnd:P.Nodup):
  ∃D w2 w3 H u w Z Q,Tp (N+15 * n) D/\(∃rk,Rk rk u w)/\w.length=u.length/\u.length<=12/\(∀v∈w,jQ n v)/\(∀i:Y,i<n->(.inl (i:Int):Int ⊕ Str)∈u) /\
   aY [6] (evSs (C<|L+1) WB1) ((Kc n).map λ(i:Y)=>[((.d,.int (i:Int)):W)]) [O (.d,t),o1,O (.d,.lst<|P.map T.int),O (.o .s,.lst []),O (.d,.dct [] []),O (.d,.int k),J,J,J,J,J]=.nx [O (.d,D),o1,w2,w3,O (H,.dct u w),O (.d,.int k),Z,Q,J,J,J]:=by
 obtain⟨η',lp,D,l,tu,H,u,w,Z,Q,A,F,I,hm4,h1,h2,h3,h4,h5,h6,h7,h8,rfl⟩:=b7 (tg:=[6]) (f:=evSs (C<|L+1) WB1) (g:=λ(i:Y)=>[((.d,.int (i:Int)):W)])
  (λpre η=>∃(D:T) (l tu:U Int) (H:Md) (u:U<|Int ⊕ Str) (w:U T) (Z Q:j W),Tp (N+15 * pre.length) D/\(l++tu).Nodup/\Kd tu u w/\H≠.s/\l.length+pre.length=n/\tu.length=pre.length/\w.length=u.length/\u.length<=pre.length/\(∀v∈w,jQ n v)/\(∀x∈l,0<=x/\x<(n:Int))/\(∀x∈tu,0<=x/\x<(n:Int))/\(∀i:Y,i<n->(i:Int)∈l\/(.inl (i:Int):Int ⊕ Str)∈u)/\η=[O (.d,D),o1,O (.d,.lst<|l.map T.int),O (.o .s,.lst<|tu.map T.int),O (H,.dct u w),O (.d,.int k),Z,Q,J,J,J])
  (Kc n) [] [O (.d,t),o1,O (.d,.lst<|P.map T.int),O (.o .s,.lst []),O (.d,.dct [] []),O (.d,.int k),J,J,J,J,J]
  ⟨t,P,[],.d,[],[],J,J,ht,by rw[KR];exact hnd,(λ_ _ h=>nomatch h),by simp,by simpa using hl0,rfl,rfl,J9 _,(λ_ h=>nomatch h),hl1,(λ_ h=>nomatch h),λi hi=>.inl<|hl2 i hi,rfl⟩
  (by
   rintro p i r η hp ⟨D,l,tu,H,u,w,Z,Q,A,F,I,hm4,h1,h2,h3,h4,h5,h6,h7,h8,he⟩;subst he;have hpl:=QW Mq hp;simp only[Lv,KY,Kk,Ki] at hpl;obtain⟨t2,x,m,ks',vs',ht2,hx,M,hpm,⟨ns,hns,hlk⟩,hj,a1,a2,a3,a4,o7',e⟩:=zD n L _ D A (by lia) hn l tu (by lia) (by lia) h6 (by lia) h7 u w h3 (by lia) h5 H hm4 k hk0 hk1 o1 (O (.d,.int (i:Int))) Q;have G:(x::(l.eraseIdx m++tu)).Nodup:=(Pt<|List.Perm.append_right tu hpm).mpr F;have hxt:x ∉ tu:=λh=>(K1.mp G).1<|KJ _ h;have hnd3:(l.eraseIdx m++(tu++[x])).Nodup:=by rw[<- Lr];exact(Pt<|List.perm_append_singleton _ _).mpr G
   refine⟨_,_,rfl,e,t2,l.eraseIdx m,tu++[x],.o .s,ks',vs',_,o7',?_,hnd3,zC I hxt ns hns hlk,by simp,?_,?_,a1,?_,a3,?_,?_,?_,rfl⟩
   .rw[Kk,KN];exact tm ht2<|by lia
   .rw[OT hj,Kk,KN];lia
   .rw[Kk,Kk,h2];rfl
   .rw[Kk,KN];lia
   .exactλy M=>h6 y<|List.mem_of_mem_eraseIdx M
   .intro y M;rcases KP.mp M with z|z
    .exact h7 y z
    .rw[KA.mp z];exact h6 x hx
   .intro i hi;rcases h8 i hi with z|z
    .rcases M _ z with q | q
     .exact .inr (a4 _<|.inl<|by rw[q])
     .exact .inl q
    .exact .inr (a4 _<|.inr z))
 rw[Lv,KY] at A h1 h2 h4;have hl:l=[]:=List.eq_nil_of_length_eq_zero (by lia);subst hl
 exact⟨D,_,_,H,u,w,Z,Q,A,⟨tu.idxOf,λz v hz=>by
  obtain⟨a,ns,b,c⟩:=I z v hz;have:=Qc a;have:tu.idxOf z<13:=by lia
  exact⟨this,ns,b,λy M=>(c y M).2⟩⟩,h3,by lia,h5,λi hi=>(h8 i hi).elim (λz=>nomatch z) id,lp⟩
def StT (n:Y)(t:T):Prop:=∃(i a:Y) (w:Int) (b:U Int),t=.tup [.tup [.int (i:Int),.int (a:Int)],.tup [],.int w,.lst<|b.map T.int]/\i<=100/\a<=100/\1<=w/\w<=60/\(∀x∈b,0<=x/\x<(n:Int))/\b.length<=12
abbrev WB2:U S:=[
   .asg (.l []) 9 (.op .ix JY [.lst JY [.cst<|.int 1,.op .add JY [.cst<|.int 1,.call 201 [.io 0,.cst<|.int 4]],.op .add JY [.cst<|.int 1,.call 201 [.io 0,.cst<|.int 9]],.op .add JY [.cst<|.int 20,.call 201 [.io 0,.cst<|.int 40]]],.op .fdiv JY [.op .mul JY [.call 201 [.io 0,.cst<|.int 8],.cst<|.int 4],.cst<|.int 8]]),
   .app (.q [4,9] [6]) 8 (.tup [.tup [.op .fdiv JY [.var 6,.cst<|.int 3],.op .mod JY [.var 6,.cst<|.int 3]],.tup [],.var 9,.op .ixD JY [.var 4,.var 6]])]
def RkT (d:Int->Y)(i:Int)(u:T):Prop:=d i<13/\∃(a b c:T) (e:U Int),u=.tup [a,b,c,.lst<|e.map T.int]/\∀y∈e,d y<d i
theorem wX (n L N:Y)(t:T)(ht:Tp N t)(hN:N+50<1000000000000000000)(hn:n<=12)(i:Y)(hi:i<n)(f:U<|Int ⊕ Str)(g:U T)(hk:g.length=f.length)(hv:∀v∈g,jQ n v)(F:(.inl (i:Int):Int ⊕ Str)∈f)(z:Md)(fs:U T)(hf:fs.length<=12)(k p r l m o9:j W):
  ∃t' u e,Tp (N+4) t'/\StT n u/\(∀rk,Rk rk f g->RkT rk (i:Int) u)/\evSs (C<|L+1) WB2 [O (.d,t),k,p,r,O (z,.dct f g),l,O (.d,.int (i:Int)),m,O (.o .s,.lst fs),o9,J]=.nx [O (.d,t'),k,p,r,O (.s,.dct f g),l,O (.d,.int (i:Int)),m,O (.o .s,.lst<|fs++[u]),e,J]:=by
 obtain⟨r1,t1,a1,b1,I,e1⟩:=b9 (n:=L) .d 4 ht (by lia) (by decide) (by decide);obtain⟨r2,t2,a2,b2,M,e2⟩:=b9 (n:=L) .d 9 I (by lia) (by decide) (by decide);obtain⟨r3,t3,a3,b3,Q,e3⟩:=b9 (n:=L) .d 40 M (by lia) (by decide) (by decide);obtain⟨y,A,a4,b4,Z,e4⟩:=b9 (n:=L) .d 8 Q (by lia) (by decide)<|by decide
 have hw:∃w:Int,1<=w/\w<=60/\atI [T.int 1,T.int (1+r1),T.int (1+r2),T.int (20+r3)] (y * 4 / 8)=O (.int w):=by
  have h:y * 4 / 8=0\/y * 4 / 8=1\/y * 4 / 8=2\/y * 4 / 8=3:=by lia
  rcases h with h|h|h|h<;>rw[h]
  .exact⟨1,by lia,by lia,rfl⟩
  .exact⟨1+r1,by lia,by lia,rfl⟩
  .exact⟨1+r2,by lia,by lia,rfl⟩
  .exact⟨20+r3,by lia,by lia,rfl⟩
 obtain⟨w,w1,w60,aw⟩:=hw;obtain⟨v,lv,ns,rfl,H,G⟩:=pE (P:=jQ n) (.inl (i:Int)) f g hk hv F;have p1:decide ((0:Int)<8)=true:=rfl;have p2:decide ((8:Int)<1073741824)=true:=rfl;have p3:decide ((0:Int)<3)=true:=rfl;have p4:decide ((3:Int)<1073741824)=true:=rfl;have p5:decide ((4:Int).natAbs<18446744073709551616)=true:=rfl;have kT:keyT (.int (i:Int))=O (.inl (i:Int)):=rfl;have q1:(i:Int) / 3=((i / 3:Y):Int):=by lia
 have q2:(i:Int) % 3=((i % 3:Y):Int):=by lia
 have fl:(fs.length<LIM)=Ra:=eq_true (by show _<16777215;lia);have hA:evSs (C (L+1)) (WB2.take 1) [O (.d,t),k,p,r,O (z,.dct f g),l,O (.d,.int (i:Int)),m,O (.o .s,.lst fs),o9,J]=.nx [O (.d,A),k,p,r,O (z,.dct f g),l,O (.d,.int (i:Int)),m,O (.o .s,.lst fs),O (.s,.int w),J]:=by simp_all only[Na,NH,e1,e2,e3,e4,p1,p2,p5,N8,aw]
 have D:∃e,evSs (C (L+1)) (WB2.drop 1) [O (.d,A),k,p,r,O (z,.dct f g),l,O (.d,.int (i:Int)),m,O (.o .s,.lst fs),O (.s,.int w),J]=.nx [O (.d,A),k,p,r,O (.s,.dct f g),l,O (.d,.int (i:Int)),m,O (.o .s,.lst (fs++[.tup [.tup [.int ((i / 3:Y):Int),.int ((i % 3:Y):Int)],.tup [],.int w,.lst (ns.map T.int)]])),e,J]:=by exact⟨_,by simp_all only[K3,KQ,p3,p4,q1,q2,kT,lv,fl];rfl⟩
 obtain⟨e,D⟩:=D;refine⟨A,_,e,tm Z<|by lia,⟨i / 3,i % 3,w,ns,rfl,by lia,by lia,w1,w60,H,G⟩,λrk hr=>?_,?_⟩
 .obtain ⟨a,x,b,c⟩:=hr _ _ lv;have b:T.lst (ns.map T.int)=T.lst (x.map T.int):=b;exact⟨a,_,_,_,x,by rw[b],c⟩
 show evSs (C<|L+1) (WB2.take 1++WB2.drop 1) _=_;rw[go1 hA,D]
theorem zN (n L N:Y)(t:T)(ht:Tp N t)(hN:N+1000<1000000000000000000)(hn:n<=12)(l:U<|Int ⊕ Str)(w:U T)(hk:w.length=l.length)(hv:∀v∈w,jQ n v)(hin:∀i:Y,i<n->(.inl (i:Int):Int ⊕ Str)∈l)(m4:Md)(H P Q I o6 M:j W):
  ∃m fs a b D,Tp (N+4 * n) m/\fs.length=n/\(∀u∈fs,StT n u)/\(∀x,Rk x l w->∀k:Y,k<fs.length->RkT x (k:Int) (fs.getD k .non))/\aY [6] (evSs (C<|L+1) WB2) ((Kc n).map λ(i:Y)=>[((.d,.int (i:Int)):W)]) [O (.d,t),H,P,Q,O (m4,.dct l w),I,o6,M,O (.o .s,.lst []),J,J]=.nx [O (.d,m),H,P,Q,O (a,.dct l w),I,b,M,O (.o .s,.lst fs),D,J]:=by
 obtain⟨η',lp,m,fs,a,b,D,c,F,Z,A,rfl⟩:=b7 (tg:=[6]) (f:=evSs (C<|L+1) WB2) (g:=λ(i:Y)=>[((.d,.int (i:Int)):W)])
  (λpre η=>∃(m:T) (fs:U T) (a:Md) (b D:j W),Tp (N+4 * pre.length) m/\fs.length=pre.length/\(∀u∈fs,StT n u)/\(∀x,Rk x l w->∀k:Y,k<fs.length->RkT x (k:Int) (fs.getD k .non))/\η=[O (.d,m),H,P,Q,O (a,.dct l w),I,b,M,O (.o .s,.lst fs),D,J])
  (Kc n) [] [O (.d,t),H,P,Q,O (m4,.dct l w),I,o6,M,O (.o .s,.lst []),J,J]
  ⟨t,[],m4,o6,J,ht,rfl,(λ_ h=>nomatch h),(λ_ _ _ h=>nomatch h),rfl⟩
  (by
   rintro p i r η hp ⟨m,fs,a,b,D,c,F,Z,A,he⟩;subst he;have hpl:=QW Mq hp;simp only[Lv,KY,Kk,Ki] at hpl
   have hi:i<n:=by
    have:i∈Kc n:=by rw[Lv] at hp;rw[hp];exact KJ _ Ka
    exact KW.mp this
   obtain⟨t2,u,o9',ht2,hu,hur,e⟩:=wX n L _ m c (by lia) hn i hi l w hk hv (hin i hi) a fs (by lia) H P Q I M D
   have hip:i=p.length:=by
    rw[Lv] at hp;have q1:(Kc n)[p.length]?=O i:=by rw[hp,L9<|J9 _,O3];rfl
    rw[Oo<|by lia] at q1;exact(KH q1).symm
   refine⟨_,_,rfl,e,t2,fs++[u],.s,_,o9',?_,?_,?_,?_,rfl⟩
   .rw[Kk,KN];exact tm ht2<|by lia
   .rw[Kk,Kk,F];rfl
   .intro y hy;rcases KP.mp hy with z|z
    .exact Z y z
    .rw[KA.mp z];exact hu
   .intro x hr k hk;rw[Kk,KN] at hk;by_cases G:k<fs.length
    .have:=A x hr k G;rw[Kf] at this ⊢;rw[Mr G];exact this
    .have e3:k=fs.length:=by lia
     rw[e3,Kf,L9<|J9 _,O3,F,<- hip];exact hur x hr)
 rw[Lv,KY] at c F;exact⟨m,fs,a,b,D,c,F,Z,A,lp⟩
theorem Cs (r:Int)(a:0<=r)(b:r<12):∃n:Y,n<=12/\atI [T.int 0,.int 1,.int 2,.int 3,.int 4,.int 5,.int 6,.int 7,.int 8,.int 9,.int 10,.int 12] r=O (.int (n:Int)):=by
 have h:r=0\/r=1\/r=2\/r=3\/r=4\/r=5\/r=6\/r=7\/r=8\/r=9\/r=10\/r=11:=by lia
 rcases h with rfl|rfl|rfl|rfl|rfl|rfl|rfl|rfl|rfl|rfl|rfl|rfl
 .exact⟨0,by decide,rfl⟩
 .exact⟨1,by decide,rfl⟩
 .exact⟨2,by decide,rfl⟩
 .exact⟨3,by decide,rfl⟩
 .exact⟨4,by decide,rfl⟩
 .exact⟨5,by decide,rfl⟩
 .exact⟨6,by decide,rfl⟩
 .exact⟨7,by decide,rfl⟩
 .exact⟨8,by decide,rfl⟩
 .exact⟨9,by decide,rfl⟩
 .exact⟨10,by decide,rfl⟩
 .exact⟨12,by decide,rfl⟩
theorem rj {L N:Y}{t:T}(ht:Tp N t)(hN:N+3000<1000000000000000000):∃b fs t',Tp (N+300) t'/\fs.length<=12/\(∀u∈fs,StT fs.length u)/\(∃c:Int->Y,∀k:Y,k<fs.length->RkT c (k:Int) (fs.getD k .non))/\C (L+2) 278 [(.d,t)]=.ok ((b,.lst fs),[(.d,t')]):=by
 obtain⟨r,t1,r0,r1,m,e1⟩:=b9 (n:=L) .d 12 ht (by lia) (by decide) (by decide);obtain⟨n,Z,an⟩:=Cs r r0 r1;obtain⟨a,H,r20,r21,p,e2⟩:=b9 (n:=L) .d 4 m (by lia) (by decide) (by decide);have z1:(decide ((0:Int).natAbs<4611686018427387904)&&decide ((n:Int).natAbs<4611686018427387904)&&fits ((n:Int)-0).toNat)=true:=by rw[QE<|by lia,QE<|by lia];exact QE<|by show _<=16777215;lia
 have z2:((n:Int)-0).toNat=n:=by lia
 have z3:(Kc n).map (λ(k:Y)=>T.int (0+(k:Int)))=((Kc n).map λ(k:Y)=>(k:Int)).map T.int:=by rw[KU];refine Mm λk _=>?_;show T.int (0+(k:Int))=T.int (k:Int);rw[Int.zero_add]
 obtain⟨I,P,Q,D,y,M,F,G,v,⟨c,l⟩,h1,h2,h3,h4,z⟩:=x6 n L _ H p (by lia) Z (2+a) (by lia) (by lia) (O (.s,.int (n:Int))) ((Kc n).map λ(k:Y)=>(k:Int)) (by rw[J6,KY]) (λx hx=>by
  obtain⟨k,hk,rfl⟩:=Kl.mp hx;have:=KW.mp hk;lia) (λi hi=>Kl.mpr ⟨i,KW.mpr hi,rfl⟩)<|M8.mpr<|Qv (λh e=>h<|Int.ofNat.inj e) PM
 obtain⟨t4,fs,m4',o6',o9,w,f1,f2,f3,A⟩:=zN n L _ I v (by lia) Z y M h1 h3 h4 D (O (.s,.int (n:Int))) P Q (O (.d,.int<|2+a)) F G;have n1:(decide ((n:Int).natAbs<4611686018427387904)&&fits n)=true:=by rw[QE<|by lia];exact QE<|by show _<=16777215;lia
 have n2:(n:Int).toNat=n:=by lia
 have g:oSem .rng JY [(.d,.int 0),(.d,.int (n:Int))]=O (.d,.lst (((Kc n).map λ(k:Y)=>(k:Int)).map T.int)):=by rw[F7,QG z1,z2,z3]
 have hA:evSs (C (L+1)) (Bk f_law_waits 0 5) [O (.d,t),J,J,J,J,J,J,J,J,J,J]=.nx [O (.d,H),O (.s,.int (n:Int)),O (.d,.lst (((Kc n).map λ(k:Y)=>(k:Int)).map T.int)),O (.o .s,.lst []),O (.d,.dct [] []),O (.d,.int (2+a)),J,J,J,J,J]:=by simp_all only[Bk,f_law_waits,KQ,Na,NH,e1,an,g,e2]
 have hB:evSs (C (L+1)) (Bk f_law_waits 5 1) [O (.d,H),O (.s,.int (n:Int)),O (.d,.lst (((Kc n).map λ(k:Y)=>(k:Int)).map T.int)),O (.o .s,.lst []),O (.d,.dct [] []),O (.d,.int (2+a)),J,J,J,J,J]=.nx [O (.d,I),O (.s,.int (n:Int)),P,Q,O (D,.dct y M),O (.d,.int (2+a)),F,G,J,J,J]:=by simp_all only[Bk,f_law_waits,K3,KQ,Na,NH,n1,n2,z]
 have f:∃b η,evSs (C (L+1)) (f_law_waits.body.drop 6) [O (.d,I),O (.s,.int (n:Int)),P,Q,O (D,.dct y M),O (.d,.int (2+a)),F,G,J,J,J]=.rt (b,.lst fs) (O (.d,t4)::η):=⟨_,_,by simp_all only[f_law_waits,K3,KQ,n1,n2,A];rfl⟩;obtain⟨b,η,f⟩:=f;refine⟨b,fs,t4,tm w<|by lia,by lia,by rw[f1];exact f2,⟨c,f3 c l⟩,?_⟩;rw[jS,x_run _ _ _ rfl,show f_law_waits.body=Bk f_law_waits 0 5++(Bk f_law_waits 5 1++f_law_waits.body.drop 6) from rfl];show Fl.out [0] (evSs (C<|L+1) (Bk f_law_waits 0 5++(Bk f_law_waits 5 1++f_law_waits.body.drop 6)) [O (.d,t),J,J,J,J,J,J,J,J,J,J])=_;rw[go1 hA,go1 hB,f];rfl
theorem uF {L N:Y}{t:T}(l:Tp N t)(D:N+10<1000000000000000000):∃o h i,Tp (N+3) i/\1<=h/\h<=20/\C (L+2) 279 [(.d,t)]=.ok ((o,.int h),[(.d,i)]):=by
 obtain⟨f,F,u,y,b,e1⟩:=b9 (n:=L) .d 4 l (by lia) (by decide) (by decide);obtain⟨g,G,v,z,c,e2⟩:=b9 (n:=L) .d 20 b (by lia) (by decide) (by decide);obtain⟨a,p,x,A,e,e3⟩:=b9 (n:=L) .d 4 c (by lia) (by decide)<|by decide
 have m:∃w:Int,1<=w/\w<=20/\atI [T.int 1,T.int 20,T.int (1+f),T.int (1+g)] a=O (.int w):=by
  have h:a=0\/a=1\/a=2\/a=3:=by lia
  rcases h with rfl|rfl|rfl|rfl
  .exact⟨1,by lia,by lia,rfl⟩
  .exact⟨20,by lia,by lia,rfl⟩
  .exact⟨1+f,by lia,by lia,rfl⟩
  .exact⟨1+g,by lia,by lia,rfl⟩
 obtain⟨w,r,s,k⟩:=m;exact⟨_,w,p,tm e<|by lia,r,s,by rw[jm,x_run _ _ _ rfl];simp_all only[bJ,e1,e2,e3,k];rfl⟩
noncomputable def wOf:T->Int
|.tup [_,_,.int w,_]=>w
|_=>0
noncomputable def ahT:T->U T
|.tup [_,_,_,.lst a]=>a
|_=>[]
structure Sts (L:U T):Prop where
 len:L.length<=12
 st:∀u∈L,StT L.length u
 rk:∃rk:Int->Y,∀k:Y,k<L.length->RkT rk (k:Int) (L.getD k .non)
noncomputable def srt:T->QZ
|.bl _=>"truth" |.int _=>"number" |.str _=>"text" |.lst _=>"list" |.tup _=>"tuple" |_=>"none"
theorem Ju (x:Str):(["str"].any λc=>isOne c<|T.str x)=true:=rfl
theorem Jr (a:U T):(["str"].any λc=>isOne c<|T.tup a)=false:=rfl
theorem Jn (a:U T):(["str"].any λc=>isOne c<|T.lst a)=false:=rfl
theorem Jk:(["str"].any λc=>isOne c T.non)=false:=rfl
theorem yr (n:Y)(t:T)(h:rOk t=JZ)(m:Md):C (n+1) 264 [(m,t)]=.ok ((.d,.str<|q<|srt t),[]):=by
 rw[nW,x_run _ _ _ rfl];cases t with
 |int i=>simp_all only[aX,Bg,EK,srt]
 |bl b=>simp_all only[aX,Dt,srt]
 |non=>simp_all only[aX,E8,E3,Jk,rP,Bb,srt]
 |str x=>simp_all only[aX,GO,Fw,Ju,srt]
 |tup a=>simp_all only[aX,FN,FI,Jr,uh,nE,srt]
 |lst a=>simp_all only[aX,EZ,GU,Jn,Ir,srt]
 |_=>cases h
theorem qeq (a b:QZ):(q a==q b)=(a==b):=by
 by_cases h:a=b
 .subst h;simp
 .have g:q a≠q b:=fun z=>h (by
   have:=QW (λs:Str=>s.cps.toList) z;rw[q,Str.ofString_eq_toList,Str.ofString_eq_toList] at this;simp only at this
   have k:a.toList=b.toList:=by
    have inj:∀f e:U Char,f.map Char.toNat=e.map Char.toNat->f=e:=by
     intro f;induction f with
     |nil=>intro e h;cases e with
      |nil=>rfl
      |cons=>cases h
     | cons c m l=>intro e h; cases e with
      |nil=>cases h
      |cons d ds=>
       rw[Ku,Ku] at h;injection h with i g
       rw[l ds g,Char.toNat_inj.mp i]
    exact inj _ _<|by simpa using this
   exact String.toList_inj.mp k)
  rw[beq_eq_false_iff_ne.mpr g,beq_eq_false_iff_ne.mpr h]
theorem H8 {i a:T}{w:Int}{b:U Int}:atI [i,a,T.int w,.lst<|b.map T.int] 2=O (T.int w):=at2 _ _ _ _
theorem oj (F:Call)(s:Y)(L:U T){n:Y}(h:∀u∈L,StT n u)(b:Env)(d:∀t,rd (put b s (.s,t)) s=O (.s,t))(g:∀t,ag [s] (put b s (.s,t))=b):
  az [s] (bE<|evE F<|.op .ix JY [.var s,.cst<|.int 2]) (L.map λt=>[((.s,t):W)]) b []=.ok ([]++L.map (λu=>((.s,.int<|wOf u):W)),b):=aF (λu=>((.s,.int<|wOf u):W)) L [] λu k=>⟨_,put b s (.s,u),rfl,by
  obtain⟨i,a,w,c,rfl,_⟩:=h u k;show(evE F (.op .ix JY [.var s,.cst<|.int 2])<|put b s (.s,_)).bind c9=_;have e:evE F (.op .ix JY [.var s,.cst (.int 2)]) (put b s (.s,.tup [.tup [.int (i:Int),.int (a:Int)],.tup [],.int w,.lst (c.map T.int)]))=.ok ((.s,.int w),put b s (.s,.tup [.tup [.int (i:Int),.int (a:Int)],.tup [],.int w,.lst (c.map T.int)])):=by have f:=d<|.tup [.tup [.int (i:Int),.int (a:Int)],.tup [],.int w,.lst<|c.map T.int];generalize put b s (.s,.tup [.tup [.int (i:Int),.int (a:Int)],.tup [],.int w,.lst<|c.map T.int])=η1 at f;simp_all only[f,H8]
  rw[e];rfl,g _⟩
theorem fQ (L:U T):aO (L.map λu=>((.s,.int<|wOf u):W))=L.map λu=>T.int (wOf u):=aT (λ_=>Md.s) (λu=>T.int<|wOf u) L
def isN:T->QJ
|.int _=>JZ
|_=>JY
theorem Im {d:Type}{f:d->QJ}{c:U d}:(c.map f).all id=JZ ↔ ∀t∈c,f t=true:=by
 rw[KI];constructor
 .exactλh t a=>h _<|Lx a
 .intro h b e;obtain⟨t,a,rfl⟩:=Kl.mp e;exact h t a
theorem fY {t:T}(h:isN t=JZ):∃i:Int,t=.int i:=by
 cases t with
 |int i=>exact⟨i,rfl⟩
 |_=>cases h
theorem yA (t:T)(h:rOk t=JZ):(q (srt t)==q "number")=isN t:=by
 rw[qeq];cases t with
 |int _=>rfl
 |bl _=>rfl
 |non=>rfl
 |str _=>rfl
 |tup _=>rfl
 |lst _=>rfl
 |_=>cases h
theorem oJ (n:Y)(a:U T)(h:∀t∈a,rOk t=JZ)(m:Md):C (n+2) 265 [(m,.tup a)]=.ok ((.d,.bl<|(a.map isN).all id),[]):=by
 have f:∀b,az [1] (bE (evE (C (n+1)) (.op .eq JY [.call 264 [.var 1],.cst (.str (q "number"))]))) (a.map λt=>[((.s,t):W)]) [b,J] []=.ok ([]++a.map (λt=>((.d,.bl (isN t)):W)),[b,J]):=λb=>aF (λt=>((.d,.bl<|isN t):W)) a [] λu c=>⟨_,[b,O (.s,u)],rfl,by
  have e:=λm=>yr n u (h u c) m;have e2:=yA u<|h u c;simp_all only[e,e2],rfl⟩
 have g:=bT isN a;rw[dv,x_run _ _ _ rfl];simp_all only[aD,nE,f,g,bQ]
theorem mr {L:U T}{i:Y}(h:i<L.length):atI L (i:Int)=O (L.getD i .non):=atN rfl (by rw[Kf,Kj h];rfl)
theorem kc {L:U T}{i:Y}(h:i<L.length):L.getD i .non∈L:=by rw[Kf,Kj h];exact Lj _
theorem nC {i a k l:T}:atI [i,a,k,l] 3=O l:=at3 _ _ _ _ _
theorem pH {c:Env->Res (QJ×Env)}{f:Env->Fl}(I:Y->Env->Prop)(P:Env->Prop):∀(N m:Y) (b:Env),m<N->I m b->(∀m b,I m b->(∃a,c b=.ok (JY,a)/\P a)\/∃d g i,c b=.ok (JZ,d)/\f d=.nx g/\i<m/\I i g) ->
 ∃a,kH c f N b=.nx a/\P a
|0,_,_,h,_,_=>by lia
| N+1,m,b,h,r,k=>by
 rcases k m b r with⟨a,l,n⟩|⟨d,g,i,l,n,s,o⟩
 .refine ⟨a,?_,n⟩;show Fl.of b (c b) _=_;rw[l];rfl
 .obtain ⟨a,e,p⟩:=pH I P N i g (by lia) o k;refine⟨a,?_,p⟩;show Fl.of b (c b) _=_;rw[l];show Fl.turn (f d) _=_;rw[n];exact e
theorem s8 {n:Y}:∀{a:U T},(∀u∈a,dp u<=n)->dps a<=n
|[],_=>Kx _
|t::a,h=>by have c:=h t Ka;have d:=s8 λu b=>h u<|Ke _ b;show max (dp t) (dps a)<=n;lia
theorem xV (n:Y)(i:Int)(m:Md):C (n+1) 272 [(m,.int i)]=.ok ((.d,.bl JZ),[]):=by rw[eC,x_run _ _ _ rfl];simp_all only[aG,EK,Bg]
theorem xZ (a:U Int)(m:Md):C 39 179 [(m,.scr a)]=.ok ((.d,nT (cut a J<|O 63) 0 0),[]):=by
 rw[mf,x_run _ _ _ rfl];have c:∀l:U Int,leaves (l.map T.int)=true:=λa=>KI.mpr λt b=>by obtain⟨i,_,rfl⟩:=Kl.mp b;rfl
 simp_all only[b5,c];rfl
noncomputable def mxN:U Y->Y
|[]=>0
|x::a=>max x<|mxN a
theorem vH:∀{l:U Y} {x:Y},x∈l->x<=mxN l
|y::l,x,h=>by
 show x<=max y (mxN l);rcases Kg.mp h with e|e
 .lia
 .have:=vH e;lia
theorem oG:∀{l:U Y},l≠[]->mxN l∈l
|[],h=>QL rfl h
|[y],_=>by show max y 0∈_;rw[Nat.max_zero];simp
|y::z::l,_=>by
 have a:=oG (l:=z::l) (by simp);show max y (mxN (z::l))∈_;rcases Nat.le_total y (mxN (z::l)) with h|h
 .rw[Nat.max_eq_right h];exact Ke _ a
 .rw[Nat.max_eq_left h];exact Ka
def lgF (P:Y->U Y):Y->Y->Y
|0,_=>0
|f+1,k=>1+mxN ((P k).map<|lgF P f)
structure kg (P:Y->U Y)(n:Y)(rk:Y->Y):Prop where
 lt:∀k,k<n->∀p∈P k,p<n
 dn:∀k,k<n->∀p∈P k,rk p<rk k
 few:∀k,k<n->rk k<13
theorem sL {P:Y->U Y}{n:Y}{b:Y->Y}(o:kg P n b):∀(f a k:Y),k<n->b k<f->b k<a->lgF P f k=lgF P a k
|0,_,_,_,h,_=>QL h<|Ml _
|_+1,0,_,_,_,h=>QL h<|Ml _
|f+1,a+1,k,hk,c,d=>by show 1+mxN ((P k).map<|lgF P f)=1+mxN ((P k).map<|lgF P a);rw[Mm λp hp=>sL o f a p (o.lt k hk p hp) (by have:=o.dn k hk p hp;lia) (by have:=o.dn k hk p hp;lia)]
def lg (P:Y->U Y)(k:Y):Y:=lgF P 13 k
theorem vX {P:Y->U Y}{n:Y}{a:Y->Y}(o:kg P n a){k:Y}(hk:k<n):lg P k=1+mxN ((P k).map<|lg P):=by show 1+mxN ((P k).map<|lgF P 12)=1+mxN ((P k).map<|lgF P 13);rw[Mm λp hp=>sL o 12 13 p (o.lt k hk p hp) (by have:=o.dn k hk p hp;have:=o.few k hk;lia) (by have:=o.dn k hk p hp;have:=o.few k hk;lia)]
structure JG (P:Y->U Y)(n:Y)(os:U Y):Prop where
 nd:os.Nodup
 lt:∀x∈os,x<n
 all:∀k,k<n->k∈os
 pre:∀(i x:Y),os[i]?=O x->∀p∈P x,p∈os.take i
theorem jr:∀(n:Y) (l:U Y),l.Nodup->(∀x∈l,x<n)->l.length<=n
|0,l,_,h=>by
 cases l with
 |nil=>exact J9 _
 |cons a l=>exact QL (h a Ka)<|Ml _
| n+1,l,nd,h=>by
 have:=jr n (l.erase n) (nd.erase n) λx hx=>by
  have b:=h x<|List.mem_of_mem_erase hx;have c:x≠n:=λe=>by subst e;exact(nd.not_mem_erase) hx
  lia
 have d:l.length<=(l.erase n).length+1:=by rw[List.length_erase];split<;>lia
 lia
noncomputable abbrev nI (i:Y):T:=.int (i:Int)
def zo:T->Y
|.int i=>i.toNat
|_=>0
def PL (L:U T)(k:Y):U Y:=(ahT<|L.getD k .non).map zo
theorem iX:∀a:U Int,(∀x∈a,0<=x)->((a.map T.int).map zo).map nI=a.map T.int
|[],_=>rfl
|x::a,h=>by show nI x.toNat::((a.map T.int).map zo).map nI=_;rw[iX a λy b=>h y<|Ke _ b,nI,MF<|h x Ka];rfl
theorem pR {L:U T}(h:Sts L){k:Y}(hk:k<L.length):∃a b w,L.getD k .non=.tup [a,b,.int w,.lst<|(PL L k).map nI]/\(∀p∈PL L k,p<L.length)/\(PL L k).length<=12:=by
 obtain⟨i,c,w,f,e,_,_,_,_,d,g⟩:=h.st _<|kc hk;have e2:ahT (L.getD k .non)=f.map T.int:=by rw[e];rfl
 refine⟨_,_,w,by rw[PL,e2,iX f λx hx=>(d x hx).1];exact e,λp hp=>?_,by rw[PL,e2,J6,J6];exact g⟩;rw[PL,e2] at hp;obtain⟨t,l,rfl⟩:=Kl.mp hp;obtain⟨x,hx,rfl⟩:=Kl.mp l;have:=d x hx;show x.toNat<_;lia
theorem Bo {L:U T}(m:Sts L):∃g,kg (PL L) L.length g:=by
 obtain⟨g,h⟩:=m.rk;refine⟨λk=>g (k:Int),λk hk p hp=>(pR m hk).elim λa ⟨b,w,_,l,_⟩=>l p hp,λk hk p hp=>?_,λk hk=>(h k hk).1⟩;obtain⟨_,a,b,c,r,e,l⟩:=h k hk;obtain⟨i,d,w,o,f,_,_,_,_,s,_⟩:=m.st _<|kc hk;rw[PL,e] at hp;have n:p∈(r.map T.int).map zo:=hp;obtain⟨t,v,rfl⟩:=Kl.mp n;obtain⟨x,hx,rfl⟩:=Kl.mp v;have u:=l x hx
 have:0<=x:=by
  rw[e] at f;injection f with f
  injection f with _ f
  injection f with _ f
  injection f with _ f
  injection f with f _
  injection f with f
  have:r=o:=(List.map_inj_right λa b h=>by injection h).mp f;exact(s x<|this ▸ hx).1
 show g ((x.toNat:Y):Int)<g (k:Int);rw[MF this];exact u
theorem iN:∀(L:U T) (k:Y),c6 .s k L=(Kc L.length).map λi=>[((.d,nI<|k+i):W),(.s,L.getD i .non)]
|[],k=>rfl
|t::L,k=>by show[((.d,nI k):W),(.s,t)]::c6 .s (k+1) L=_;rw[iN L<|k+1,Ki,List.range_succ_eq_map,Ku,KU];congr 1;apply Mm;intro i _;show[((.d,nI<|k+1+i):W),(.s,L.getD i .non)]=[((.d,nI<|k+(i+1)):W),(.s,(t::L).getD (i+1) .non)];rw[show k+1+i=k+(i+1) by lia];rfl
theorem vV (L:U T):c6 .s 0 L=(Kc L.length).map λi=>[((.d,nI i):W),(.s,L.getD i .non)]:=by rw[iN L 0];simp
theorem cN (a:U Y):(a.map nI).map (λt=>[((.s,t):W)])=a.map λi=>[((.s,nI i):W)]:=by rw[KU];rfl
noncomputable def dZ (m:Y)(S:U<|U Y)(k:Y):U (U Y):=S.set k<|S.getD k []++[m]
theorem cD (m:Y)(S:U<|U Y)(k:Y):(dZ m S k).length=S.length:=by rw[dZ,KO]
theorem eh (m:Y)(S:U<|U Y)(k a:Y)(b:a<S.length):(dZ m S k).getD a []=if k=a then S.getD a []++[m] else S.getD a []:=by
 rw[dZ,Kf,Oz];by_cases h:k=a
 .subst h;rw[QG rfl,QG b,QG rfl];rfl
 .rw[QH h,QH h,Kf]
def mS (S:U<|U Y):U T:=S.map λl=>.lst<|l.map nI
theorem Ie {S:U<|U Y}{k m:Y}(hk:k<S.length)(g:S.length<1000)(f:(S.getD k []).length<1000)(c e:Md):jT (O (.d,.lst<|mS S)) (O (c,nI k)) (O (e,nI m))=O (.d,.lst<|mS<|dZ m S k):=by
 have a:ixN (mS S).length (k:Int)=O k:=by
  have:k<(mS S).length:=by rw[mS,J6];exact hk
  unfold ixN;rw[QG<|by lia,QG<|by lia];simp
 rw[sE,a];have b:(mS S)[k]?=O (.lst ((S.getD k []).map nI)):=by rw[mS,Kz,Kf,Kj hk];rfl
 show apU (mS S) k (nI m) (mS S)[k]?=_;rw[b];show(if(decide (((S.getD k []).map nI).length<LIM)&&JZ)=JZ then O ((.d,.lst<|(mS S).set k<|.lst<|(S.getD k []).map nI++[nI m]):W) else J)=_;rw[QG<|by rw[J6,ND];exact QE<|by show _<16777215;lia];congr 3;rw[mS,mS,dZ,N7];simp
def cnt (D l:U Y):Y:=l.countP λp=>decide (p ∉ D)
theorem eS {D:U Y}{x:Y}(hx:x ∉ D):∀l:U Y,cnt D l=cnt (D++[x]) l+l.count x
|[]=>rfl
| y::l=>by
 have b:=eS hx l;unfold cnt at b ⊢;rw[NB,NB,Nx,b];by_cases h:y=x
 .subst h;simp[hx];lia
 .by_cases a:y∈D
  .simp[h,a]
  .simp[h,a];lia
theorem cnt_zero {D l:U Y}:cnt D l=0 ↔ ∀p∈l,p∈D:=by simp[cnt,List.countP_eq_zero]
structure Kn (P:Y->U Y)(n:Y)(D td u aw:U Y):Prop where
 len:aw.length=n
 cn:∀m,m<n->aw.getD m 0+u.count m=cnt D (P m)
 nd:td.Nodup
 lt:∀y∈td,y<n
 iff:∀m,m<n->(m∈td ↔ aw.getD m 0=0)
 ord:∀(i y:Y),td[i]?=O y->∀p∈P y,p∈td.take i
theorem aN (l:U Y)(m a v:Y)(b:m<l.length):(l.set m v).getD a 0=if m=a then v else l.getD a 0:=by
 rw[Kf,Oz];by_cases h:m=a
 .subst h;rw[QG rfl,QG rfl,QG b];rfl
 .rw[QH h,QH h,Kf]
theorem Kn.pos {P:Y->U Y}{n:Y}{D c u a:U Y}{x m:Y}(h:Kn P n D c u a)(hx:x ∉ D)(b:m<n)(f:u.count m+1<=(P m).count x):1<=a.getD m 0:=by have d:=h.cn m b;have e:=eS hx<|P m;lia
theorem Kn.step {P:Y->U Y}{n:Y}{D f u g:U Y}{x m:Y}(h:Kn P n D f u g)(hx:x ∉ D)(F:∀y∈D++[x],y∈f)(k:m<n)(H:u.count m+1<=(P m).count x):
  Kn P n D (if g.getD m 0-1=0 then f++[m] else f) (u++[m]) (g.set m<|g.getD m 0-1):=by
 have v:=h.pos hx k H;have l:m<g.length:=by rw[h.len];exact k
 have w:m ∉ f:=λz=>by have:=(h.iff m k).mp z;lia
 have I:=h.cn m k;have L:=eS hx<|P m
 have A:∀c,(u++[m]).count c=u.count c+if m=c then 1 else 0:=λc=>by
  rw[Pe,Nx,N3];by_cases e:m=c
  .simp[e]
  .simp[e]
 constructor
 .rw[KO];exact h.len
 .intro c s;rw[aN g m c _ l,A];by_cases e:m=c
  .subst e;rw[QG rfl,QG rfl];lia
  .rw[QH e,QH e];exact h.cn c s
 .split
  .rw [P1];exact⟨h.nd,by simp,λa v b G e=>by rw[KA.mp G] at e;exact w<|e ▸ v⟩
  .exact h.nd
 .intro y d;split at d
  .rcases KP.mp d with z | z
   .exact h.lt y z
   .rw[KA.mp z];exact k
  .exact h.lt y d
 .intro c s;rw[aN g m c _ l];by_cases e:m=c
  .subst e;rw[QG rfl];split
   .simp_all
   .exact⟨λz=>QL z w,λz=>by lia⟩
  .rw [QH e,<- h.iff c s];split
   .rw [KP,KA];exact⟨λz=>z.elim id λq=>QL q.symm e,.inl⟩
   .exact Iff.rfl
 .intro i y d p hp;split at d
  .rename_i o;rw[QG o];rcases N9 i f.length with hi|hi
   .rw [Mr hi] at d;rw[Qd<|Mo hi];exact h.ord i y d p hp
   .rw [L9 hi] at d
    have t:i-f.length=0:=by
     by_cases t:i-f.length=0
     .exact t
     .rw[Lu<|by simp;lia] at d;cases d
    rw[t] at d;cases d;have r:i=f.length:=by lia
    rw[r,Qd<|J9 _,PU];exact F p<|cnt_zero.mp (by lia) p hp
  .rename_i o;rw[QH o];exact h.ord i y d p hp
theorem Kn.next {P:Y->U Y}{n:Y}{D c u a:U Y}{x:Y}(h:Kn P n D c u a)(hx:x ∉ D)(d:∀m,m<n->u.count m=(P m).count x):Kn P n (D++[x]) c [] a:=by refine⟨h.len,λm b=>?_,h.nd,h.lt,h.iff,h.ord⟩;have e:=h.cn m b;have f:=eS hx<|P m;have g:=d m b;rw[N3];lia
theorem Kn.done {P:Y->U Y}{n:Y}{d:Y->Y}{a e:U Y}(o:kg P n d)(h:Kn P n a a [] e):JG P n a:=by
 refine⟨h.nd,h.lt,?_,h.ord⟩
 have c:∀b k,d k<b->k<n->k∈a:=by
  intro b;induction b with
  |zero=>intro k h;exact QL h<|Ml _
  |succ b f=>intro k g hk;have z:cnt a (P k)=0:=cnt_zero.mpr λp hp=>f p (by have:=o.dn k hk p hp;lia)<|o.lt k hk p hp;have:=h.cn k hk;exact(h.iff k hk).mpr<|by lia
 exactλk hk=>c 13 k (o.few k hk) hk
theorem j8 {l:U Y}{m:Y}(h:m<l.length):ixN (l.map nI).length (m:Int)=O m:=by unfold ixN;rw[J6,QG<|by lia,QG<|by lia];simp
theorem cY {l:U Y}{m:Y}(h:m<l.length):atI (l.map nI) (m:Int)=O (nI<|l.getD m 0):=by unfold atI;rw[j8 h];show(l.map nI)[m]?=_;rw[Kz,Kf,Kj h];rfl
theorem ju (l:U Y)(m v:Y):(l.map nI).set m (nI v)=(l.set m v).map nI:=(N7 ..).symm
theorem Jm {n:Y}(h:n<1000):n<LIM:=by show n<16777215;lia
theorem AE {S:U<|U Y}{x:Y}(h:x<S.length):atI (mS S) (x:Int)=O (.lst<|(S.getD x []).map nI):=by
 have:ixN (mS S).length (x:Int)=O x:=by unfold ixN;rw[mS,J6,QG<|by lia,QG<|by lia];simp
 unfold atI;rw[this];show(mS S)[x]?=_;rw[mS,Kz,Kf,Kj h];rfl
theorem dM {k:Type}{d:U Y}{f:Env->Res (j W×Env)}{i:Env}{g:k->U W}(w:k->j W):∀(e:U k) (a:U W),(∀x∈e,∃b c,aJ d (g x) i=O b/\f b=.ok (w x,c)/\ag d c=i) ->
 az d f (e.map g) i a=.ok (a++e.filterMap w,i)
|[],a,_=>by rw[MD,List.filterMap_nil,KR];rfl
|x::e,a,h=>by obtain⟨b,c,l,m,n⟩:=h x Ka;rw[Ku];show(ofO<|aJ d (g x) i).bind _=_;rw[l];show(f b).bind _=_;rw[m];show az d f (e.map g) (ag d c) (a++(w x).toList)=_;rw[n,dM w e _ λy o=>h y<|Ke _ o,Lr,LW];cases w x<;>rfl
theorem bF {a:Type}(c:Y->QJ)(g:Y->a):∀l:U Y,l.filterMap (λi=>if c i then O (g i) else J)=(l.filter c).map g
|[]=>rfl
|x::l=>by
 rw[LW,List.filter_cons];cases h:c x with
 |true=>rw[QG rfl,QG rfl,Ku,bF c g l]
 |false=>rw[QH Kv,QH Kv,bF c g l]
theorem cB:∀l:U Y,intsOf (l.map nI)=O (l.map λ(i:Y)=>(i:Int))
|[]=>rfl
|x::l=>by show(intsOf<|l.map nI).map ((x:Int)::·)=_;rw[cB l];rfl
def Cn (P:Y->U Y):U Y->Prop
|a::b::r=>a∈P b/\Cn P (b::r)
|_=>Ra
theorem kL (a b:Y):(((a:Y):Int)==((b:Y):Int))=(a==b):=by
 by_cases h:a=b
 .subst h;simp
 .rw[beq_eq_false_iff_ne.mpr h,beq_eq_false_iff_ne.mpr<|by lia]
theorem oC {l:U T}{t:T}(h:l.getLast?=O t):atI l (-1)=O t:=by
 cases l with
 |nil=>cases h
 | cons a r =>
  have e:ixN (a::r).length (-1)=O r.length:=by unfold ixN;rw[QH<|by decide,QG<|by rw[Ki];lia];congr 1;rw[Ki];lia
  unfold atI;rw[e];show(a::r)[r.length]?=O t;rw[List.getLast?_eq_getElem?] at h;simpa using h
structure Bw (P:Y->U Y)(n Lm:Y)(t:Y)(rv ch:U Y):Prop where
 len:rv.length=t
 cn:Cn P rv
 lt:∀x∈rv,x<n
 cl:∀x∈ch,x<n
 hd:∀x r,rv=x::r->ch=P x
 ex:t<Lm->∃y∈ch,lg P y=Lm-t
theorem Bw.step {P:Y->U Y}{n c t:Y}{l:Y->Y}{d ch:U Y}(o:kg P n l)(h:Bw P n c t d ch)(m:t<c){y:Y}(g:y∈ch)(f:lg P y=c-t):Bw P n c (t+1) (y::d) (P y):=by
 have b:=h.cl y g;refine⟨by rw[Ki,h.len],?_,λx hx=>?_,λx hx=>o.lt y b x hx,λx r e=>by cases e;rfl,λi=>?_⟩
 .cases d with
  |nil=>trivial
  |cons a r=>exact⟨(h.hd a r rfl) ▸ g,h.cn⟩
 .rcases Kg.mp hx with z | z
  .rw[z];exact b
  .exact h.lt x z
 .rw [vX o b] at f;have k:(P y).map (lg P)≠[]:=λz=>by rw[z] at f;have:mxN []=0:=rfl;lia
  obtain⟨p,hp,e⟩:=Kl.mp<|oG k;exact⟨p,hp,by rw[e];lia⟩
structure Rd (P:Y->U Y)(n r:Y)(es:U Y):Prop where
 len:es.length=n
 le:∀k,k<n->es.getD k 0<=lg P k
 one:∀k,k<n->1<=es.getD k 0
 eq:∀k,k<n->lg P k<=r+1->es.getD k 0=lg P k
structure Rm (P:Y->U Y)(n r m:Y)(u es:U Y):Prop extends Rd P n r es where
 dn:∀k,k<m->k<n->lg P k<=r+2->es.getD k 0=lg P k
 up:∀p∈u,es.getD p 0+1<=es.getD m 0
theorem E4 {P:Y->U Y}{n:Y}{b:Y->Y}(o:kg P n b){m p:Y}(a:m<n)(hp:p∈P m):lg P p+1<=lg P m:=by rw[vX o a];have:=vH<|Lx (f:=lg P) hp;lia
noncomputable def rx (m:Y)(a:U Y)(p:Y):U Y:=a.set m<|max (a.getD m 0)<|a.getD p 0+1
theorem Rm.step {P:Y->U Y}{n r m:Y}{v:Y->Y}{u a:U Y}{p:Y}(o:kg P n v)(h:Rm P n r m u a)(b:m<n)(hp:p∈P m)(t:∀q∈u,q∈P m):Rm P n r m (u++[p]) (rx m a p):=by
 have f:m<a.length:=by rw[h.len];exact b
 have i:=o.lt m b p hp;have w:=h.le p i;have x:=E4 o b hp;have y:=h.le m b;have g:∀k,(rx m a p).getD k 0=if m=k then max (a.getD m 0) (a.getD p 0+1) else a.getD k 0:=λk=>aN a m k _ f;have s:∀q,q∈P m->m≠q:=λq l z=>by have:=o.dn m b q l;rw[<- z] at this;exact Lp _ this
 constructor
 .constructor
  .rw[rx,KO];exact h.len
  .intro k hk;rw[g k];split
   .rename_i e;rw[<- e];lia
   .exact h.le k hk
  .intro k hk;rw[g k];split
   .have:=h.one m b;lia
   .exact h.one k hk
  .intro k hk c;rw[g k];split
   .rename_i e;subst e;have:=h.eq m b c;lia
   .exact h.eq k hk c
 .intro k d hk c;rw[g k];split
  .rename_i e;lia
  .exact h.dn k d hk c
 .intro q l;rw[g m,QG rfl];rcases KP.mp l with z|z
  .rw [g q,QH<|s q<|t q z];have:=h.up q z;lia
  .rw [KA.mp z,g p,QH<|s p hp];lia
noncomputable def bc (l:U Y):Y:=l.foldr (·+·) 0
theorem oa:∀(l:U Y) (c v:Y),c<l.length->bc (l.set c v)+l.getD c 0=bc l+v
|[],_,_,h=>by cases h
|x::l,0,v,_=>by show v+bc l+x=x+bc l+v;lia
|x::l,c+1,v,h=>by have a:=oa l c v<|OW h;show x+bc (l.set c v)+l.getD c 0=x+bc l+v;lia
noncomputable def gf (P:Y->U Y)(l:U Y)(k:Y):QJ:=decide (0<l.getD k 0)&&(P k).all λp=>l.getD p 0==0
def can (P:Y->U Y)(l:U Y):U Y:=(Kc l.length).filter<|gf P l
theorem can_mem {P:Y->U Y}{l:U Y}{k:Y}:k∈can P l ↔ k<l.length/\0<l.getD k 0/\∀p∈P k,l.getD p 0=0:=by rw[can,NA,KW,gf,Kt,QM,KI];exact⟨λz=>⟨z.1,z.2.1,λp hp=>by simpa using z.2.2 p hp⟩,λz=>⟨z.1,z.2.1,λp hp=>by simpa using z.2.2 p hp⟩⟩
theorem DI {P:Y->U Y}{l:U Y}:(can P l).Nodup:=(PM).filter _
abbrev cT (p:Y×Y):T:=.tup [nI p.1,nI p.2]
abbrev bL (b:U<|Y×Y):T:=.lst<|b.map cT
theorem En {rd:U Y}{y:Y}(h:y∈rd):∃i,i<rd.length/\rd.getD i 0=y:=by obtain⟨i,a,e⟩:=NN.mp h;exact⟨i,a,by rw[Kf,Kj a];exact e⟩
def cn0 (l a:U Y):Y:=a.countP λp=>decide (0<l.getD p 0)
def cnE (e a:U Y):Y:=a.countP λp=>decide (p∈e)
theorem wB {l e:U Y}{x:Y}(d:∀y∈e,0<l.getD y 0)(hx:0<l.getD x 0)(f:x ∉ e):∀a:U Y,cnE e a+a.count x<=cn0 l a
|[]=>J9 _
| p::a=>by
 have g:=wB d hx f a;unfold cnE cn0 at g ⊢;rw[NB,NB,Nx];by_cases b:p=x
 .subst b;simp[-Kf,f,hx];lia
 .by_cases c:p∈e
  .have:=d p c;simp[-Kf,b,c,this];lia
  .simp [-Kf,b,c];split<;>lia
structure Fz (P:Y->U Y)(n:Y)(l:U Y)(A:Y->Prop)(e u aw rd:U Y):Prop where
 len:aw.length=n
 cn:∀m,m<n->aw.getD m 0+u.count m+cnE e (P m)=cn0 l (P m)
 fall:rd.Pairwise (· > ·)
 mem:∀x,x∈rd ↔ A x\/(x<n/\0<cn0 l (P x)/\aw.getD x 0=0)
theorem Fz.lt {P:Y->U Y}{n:Y}{l:U Y}{A:Y->Prop}{e u a rd:U Y}(b:∀x,A x->x<n/\cn0 l (P x)=0)(h:Fz P n l A e u a rd):∀x∈rd,x<n:=λx hx=>((h.mem x).mp hx).elim (λz=>(b x z).1) MC
theorem Fz.few {P:Y->U Y}{n:Y}{l:U Y}{A:Y->Prop}{e u c rd:U Y}(d:∀x,A x->x<n/\cn0 l (P x)=0)(h:Fz P n l A e u c rd):rd.length<=n:=
 jr n rd (h.fall.imp λ{a b} z=>LF z) (h.lt d)
theorem Fz.step {P:Y->U Y}{n:Y}{l:U Y}{A:Y->Prop}{e u b rd:U Y}{x m:Y}(r:∀x,A x->x<n/\cn0 l (P x)=0)(s:∀y∈e,0<l.getD y 0)(hx:0<l.getD x 0)(w:x ∉ e)(h:Fz P n l A e u b rd)(k:m<n)(H:u.count m+1<=(P m).count x):
  1<=b.getD m 0/\m ∉ rd/\∀c:U Y,c.Pairwise (· > ·)->(∀y,y∈c ↔ (b.getD m 0-1=0/\y=m)\/y∈rd)->Fz P n l A e (u++[m]) (b.set m<|b.getD m 0-1) c:=by
 have F:=h.cn m k;have G:=wB s hx w<|P m;have p:1<=b.getD m 0:=by lia
 have d:m<b.length:=by rw[h.len];exact k
 have i:0<cn0 l (P m):=by lia
 have o:m ∉ rd:=λz=>by
  rcases(h.mem m).mp z with z|z
  .have:=(r m z).2;lia
  .lia
 refine⟨p,o,λc t D=>⟨by rw[KO];exact h.len,λa v=>?_,t,λy=>?_⟩⟩
 .rw [aN b m a _ d,Pe,Nx,N3];by_cases f:m=a
  .subst f;rw[QG rfl];simp[-Kf];lia
  .rw[QH f];simp[-Kf,f];exact h.cn a v
 .rw [D y,h.mem y,aN b m y _ d];by_cases g:m=y
  .subst g;rw[QG rfl];constructor
   .rintro (z | z | z)
    .exact .inr ⟨k,i,z.1⟩
    .exact .inl z
    .lia
   .rintro (z | z)
    .exact .inr (.inl z)
    .exact .inl ⟨z.2.2,rfl⟩
  .rw [QH g];constructor
   .rintro (z | z)
    .exact QL z.2.symm g
    .exact z
   .exact .inr
theorem f9 {a b:T}:atI [a,b] 0=O a:=rfl
theorem lN {a b:T}:atI [a,b] 1=O b:=rfl
def wN (L:U T):U Y:=L.map λu=>(wOf u).toNat
theorem bP (L:U T):(wN L).length=L.length:=J6 _
theorem nV {L:U T}(b:Sts L){k:Y}(hk:k<L.length):0<(wN L).getD k 0/\(wN L).getD k 0<=60:=by obtain⟨i,a,w,c,e,_,_,d,f,_⟩:=b.st _<|kc hk;rw[Kf,Kj hk] at e;have e:L[k]=_:=e;rw[wN,Kf,Kz,Kj hk,e];show 0<w.toNat/\w.toNat<=60;lia
theorem xa {L:U T}(b:Sts L):(L.map λu=>T.int<|wOf u)=(wN L).map nI:=by rw[wN,KU];exact Mm λu c=>by obtain⟨i,a,w,d,rfl,_,_,e,_⟩:=b.st u c;show T.int w=.int ((w.toNat:Y):Int);rw[MF<|by lia]
theorem oh:∀(l:U Y) (b:Y),(∀x∈l,x<=b)->bc l<=b * l.length
|[],_,_=>Kx _
|x::l,b,h=>by have:=oh l b λy a=>h y<|Ke _ a;have:=h x Ka;show x+bc l<=b * (l.length+1);rw[Nat.mul_add];lia
theorem CK {L:U T}(b:Sts L):bc (wN L)<=720:=by
 have c:=oh (wN L) 60 λx hx=>by obtain⟨i,a,e⟩:=NN.mp hx;rw[bP] at a;have:=(nV b a).2;rw[Kf,Kj<|by rw[bP];exact a,e] at this;exact this
 rw[bP] at c;have:=b.len;lia
theorem fS (l:U Y):dp (.lst<|l.map nI)<=64:=by
 have:dps (l.map nI)<=0:=s8 λu a=>by obtain⟨_,_,rfl⟩:=Kl.mp a;exact J9 _
 show dps (l.map nI)+1<=64;lia
theorem xK (l:U Y):eqT (.lst<|l.map nI) (.lst [])=l.isEmpty:=by cases l<;>rfl
theorem mD (l:U Y)(m m':Md):oSem .eq JY [(m,.lst<|l.map nI),(m',.lst [])]=O (.d,.bl l.isEmpty):=by show(if(decide (dp (.lst<|l.map nI)<=64)&&decide (dp (.lst [])<=64))=JZ then O ((.d,.bl<|eqT (.lst<|l.map nI)<|.lst []):W) else J)=_;rw[QE<|fS l,xK];rfl
theorem BL (k:Y)(L:U T)(G:Sts L)(l:U Y)(x:l.length=L.length)(m m':Md):C (k+1) 308 [(m,.lst L),(m',.lst<|l.map nI)]=.ok ((.d,.lst<|(can (PL L) l).map nI),[]):=by
 have Z:=G.len
 have I:az [2] (b8 (evE (C k) (.and (.op .gt JY [.op .ix JY [.var 1,.var 2],.cst (.int 0)]) (.op .eq JY [.comp JY .seq [.op .ix JY [.op .ix JY [.var 0,.var 2],.cst (.int 3)]] [3] (O (.op .gt JY [.op .ix JY [.var 1,.var 3],.cst (.int 0)])) (.var 3),.lst JY []]))) (evE (C k) (.var 2))) ((Kc L.length).map λ(i:Y)=>[((.d,.int (i:Int)):W)]) [O (.s,.lst L),O (.s,.lst (l.map nI)),J,J] []=.ok ([]++(Kc L.length).filterMap (λi=>if gf (PL L) l i then O ((.d,nI i):W) else J),[O (.s,.lst L),O (.s,.lst (l.map nI)),J,J]):=dM (λi=>if gf (PL L) l i then O ((.d,nI i):W) else J) _ [] λi M=>by
  have e:=KW.mp M;refine⟨_,[O (.s,.lst L),O (.s,.lst<|l.map nI),O (.d,nI i),J],rfl,?_,rfl⟩;have t:=cY (l:=l) (m:=i) (by rw[x];exact e);obtain⟨a,b,w,e1,e2,e3⟩:=pR G e;have u:=mr e;rw[e1] at u;by_cases D:0<l.getD i 0
  .have n:decide (((l.getD i 0:Y):Int)>0)=true:=QE (by lia)
   have y:az [3] (b8 (evE (C k) (.op .gt JY [.op .ix JY [.var 1,.var 3],.cst (.int 0)])) (evE (C k) (.var 3))) ((PL L i).map λc=>[((.s,nI c):W)]) [O (.s,.lst L),O (.s,.lst (l.map nI)),O (.d,nI i),J] []=.ok ([]++(PL L i).filterMap (λc=>if decide (0<l.getD c 0) then O ((.s,nI c):W) else J),[O (.s,.lst L),O (.s,.lst (l.map nI)),O (.d,nI i),J]):=dM (λc=>if decide (0<l.getD c 0) then O ((.s,nI c):W) else J) _ [] λc g=>by
    refine⟨_,[O (.s,.lst L),O (.s,.lst<|l.map nI),O (.d,nI i),O (.s,nI c)],rfl,?_,rfl⟩;have A:=cY (l:=l) (m:=c) (by rw[x];exact e2 c g);by_cases h:0<l.getD c 0
    .have r:decide (((l.getD c 0:Y):Int)>0)=true:=QE (by lia);rw[QE h,QG rfl];simp_all only[A,r]
    .have r:decide (((l.getD c 0:Y):Int)>0)=false:=QP (by lia);rw[QP h,QH Kv];simp_all only[A,r]
   have H:=cN<|PL L i;have o:=bF (λc=>decide (0<l.getD c 0)) (λc=>((.s,nI c):W))<|PL L i;have p:aO (((PL L i).filter λc=>decide (0<l.getD c 0)).map λc=>((.s,nI c):W))=((PL L i).filter λc=>decide (0<l.getD c 0)).map nI:=aT (λ_=>Md.s) nI _;have f:=λm m'=>mD ((PL L i).filter λc=>decide (0<l.getD c 0)) m m';have v:gf (PL L) l i=((PL L i).filter λc=>decide (0<l.getD c 0)).isEmpty:=by rw[gf,QE D,LS,OJ,KI,List.isEmpty_iff,List.filter_eq_nil_iff];exact⟨λz c g=>by have:=z c g;rw[beq_iff_eq] at this;rw[QM];lia,λz c g=>by have:=z c g;rw[QM] at this;rw[beq_iff_eq];lia⟩
   rw[v];cases F:((PL L i).filter λc=>decide (0<l.getD c 0)).isEmpty with
   |true=>rw[F] at f;rw[QG rfl];simp_all only[t,n,u,nC,H,y,o,p,f]
   |false=>rw[F] at f;rw[QH Kv];simp_all only[t,n,u,nC,H,y,o,p,f]
  .have n:decide (((l.getD i 0:Y):Int)>0)=false:=QP (by lia);have v:gf (PL L) l i=false:=by rw[gf,QP D,M3]
   rw[v,QH Kv];simp_all only[t,n]
 have o:=bF (gf (PL L) l) (λi=>((.d,nI i):W))<|Kc L.length;have p:aO (((Kc L.length).filter (gf (PL L) l)).map λi=>((.d,nI i):W))=(can (PL L) l).map nI:=by rw[aT (λ_=>Md.d) nI,can,x]
 have f:(((Kc L.length).filter (gf (PL L) l)).map λi=>((.d,nI i):W)).all okD=true:=KI.mpr λw N=>by obtain⟨_,_,rfl⟩:=Kl.mp N;rfl
 have P:(decide ((((L.length:Y):Int)).natAbs<4611686018427387904)&&fits L.length)=true:=by rw[QE<|show(((L.length:Y):Int)).natAbs<4611686018427387904 by lia,show fits L.length=JZ from QE<|by show _<=16777215;lia];rfl
 have Q:(((L.length:Y):Int)).toNat=L.length:=LJ _;rw[nL,x_run _ _ _ rfl];simp_all only[cH,P,Q,I,o,p,f]
def smB (b:U<|Y×Y):Y:=bc<|b.map (·.2)
theorem zL (b:U<|Y×Y)(c m:Y):smB (b++[(c,m)])=smB b+m:=by
 unfold smB;rw[Mk];induction b with
 |nil=>show m+0=0+m;lia
 |cons q b a=>show q.2+bc (b.map (·.2)++[m])=q.2+bc (b.map (·.2))+m;have a:bc (b.map (·.2)++[m])=bc (b.map (·.2))+m:=a;lia
theorem zp (b:U<|Y×Y):bO (b.map cT)=O (b.map λq=>[((.s,nI q.1):W),(.s,nI q.2)]):=by
 induction b with
 |nil=>rfl
 |cons q b a=>show(bO<|b.map cT).map ([((.s,nI q.1):W),(.s,nI q.2)]::·)=_;rw[a];rfl
theorem eD:∀l:U Y,(l.map λ(i:Y)=>(i:Int)).sum=((bc l:Y):Int)
|[]=>rfl
|x::l=>by rw[Ku,NG,eD l];show(x:Int)+((bc l:Y):Int)=((x+bc l:Y):Int);lia
structure Bt1 (P:Y->U Y)(h:Y)(l:U Y)(b:U (Y×Y))(l':U Y):Prop where
 len:l'.length=l.length
 asc:(b.map (·.1)).Pairwise (· < ·)
 one:∀q∈b,q.1<l.length/\1<=q.2/\l'.getD q.1 0+q.2=l.getD q.1 0/\∀p∈P q.1,l.getD p 0=0
 sum:smB b<=h
 out:∀x,x ∉ b.map (·.1)->l'.getD x 0=l.getD x 0
 all:bc l'+smB b=bc l
inductive Run (P:Y->U Y)(h:Y):U Y->U (U (Y×Y))->U Y->Prop
 |nil (l:U Y):Run P h l [] l
 |cons {l l' l2:U Y} {b:U (Y×Y)} {bs:U (U (Y×Y))}:Bt1 P h l b l'->Run P h l' bs l2->Run P h l (b::bs) l2
theorem Run.snoc {P:Y->U Y}{h:Y}{l a c:U Y}{b:U<|Y×Y}{bs:U<|U<|Y×Y}(r:Run P h l bs a)(x:Bt1 P h a b c):Run P h l (bs++[b]) c:=by
 induction r with
 |nil l=>exact .cons x<|.nil _
 |cons y _ d=>exact .cons y<|d x
theorem Run.len {P:Y->U Y}{h:Y}{l a:U Y}{bs:U<|U<|Y×Y}(r:Run P h l bs a):a.length=l.length:=by
 induction r with
 |nil l=>rfl
 |cons y _ b=>rw[b,y.len]
theorem xY {P:Y->U Y}{n:Y}{b:Y->Y}(o:kg P n b){l:U Y}(g:l.length=n)(d:can P l=[]):∀x,l.getD x 0=0:=by
 have a:∀(r k:Y),b k<r->k<n->l.getD k 0=0:=by
  intro r;induction r with
  |zero=>intro k hk;exact QL hk<|Ml _
  | succ r f =>
   intro k hk c;by_cases e:l.getD k 0=0
   .exact e
   .have:k∈can P l:=can_mem.mpr ⟨by lia,by lia,fun p hp=>f p (by have:=o.dn k c p hp; lia)<|o.lt k c p hp⟩;rw[d] at this;cases this
 intro x;by_cases hx:x<n
 .exact a (b x+1) x (M7 _) hx
 .rw[Kf,Lu<|by lia];rfl
theorem lJ:∀l:U Y,eqTs (l.map nI) (l.map nI)=JZ
|[]=>rfl
|a::l=>by show(((a:Int)==(a:Int))&&eqTs (l.map nI) (l.map nI))=JZ;rw[Q4,lJ l];rfl
theorem Cb (l:U Y)(m m':Md):oSem .eq JY [(m,.lst<|l.map nI),(m',.lst<|l.map nI)]=O (.d,.bl JZ):=by show(if(decide (dp (.lst<|l.map nI)<=64)&&decide (dp (.lst<|l.map nI)<=64))=JZ then O ((.d,.bl<|eqTs (l.map nI)<|l.map nI):W) else J)=_;rw[QE<|fS l,lJ];rfl
theorem gB:∀(l p:U Int),(p++l).Pairwise (· < ·)->l.foldl addZ p=p++l
|[],p,_=>(KR p).symm
| a::l,p,h=>by
 have b:a ∉ p:=λz=>by have:=(Pw.mp h).2.2 a z a Ka;lia
 rw[Ny,addZ,QH b,gB l (p++[a])<|by rw[Lr];exact h,Lr];rfl
theorem gm:∀l:U Int,l.Pairwise (· < ·)->sortI l=l
|[],_=>rfl
|a::l,h=>by
 have c:=Ls.mp h;rw[sortI,gm l c.2];cases l with
 |nil=>rfl
 |cons b r=>rw[insI,QG (by have:=c.1 b Ka;lia)]
theorem Cq {l:U Y}(h:l.Pairwise (· < ·))(a:l.length<=12)(m:Md):oSem .sortedSet JY [(m,.lst<|l.map nI)]=O (.d,.lst<|l.map nI):=by have hp:(l.map λ(i:Y)=>(i:Int)).Pairwise (· < ·):=M8.mpr (h.imp λz=>by lia);rw[dh,cB];show(if decide ((l.map λ(i:Y)=>(i:Int)).length<64)=JZ then _ else J)=_;rw[QG<|QE<|by rw[J6];lia,gB _ [] hp,Lv,gm _ hp,KU];rfl
theorem GB {c:Y}(h:c<=1000):rOk (nI c)=true:=QE<|by lia
theorem Ep (k c m N:Y)(p:c<N)(o:N<=12)(r:1<=m)(b:m<=1000)(l n:Md):C (k+3) 302 [(l,cT (c,m)),(n,nI N)]=.ok ((.d,.bl JZ),[]):=by
 have e1:∀e,C (k+2) 265 [(e,.tup [nI c,nI m])]=.ok ((.d,.bl JZ),[]):=λe=>oJ k [nI c,nI m] (λt a=>by
  rcases Kg.mp a with rfl|a
  .exact GB (by lia)
  .rcases Kg.mp a with rfl | a
   .exact GB b
   .cases a) e
 have f:decide ((0:Int)<=(c:Int))=true:=QE (by lia);have g:decide ((c:Int)<(N:Int))=true:=QE (by lia);have h:decide ((m:Int) >= 1)=true:=QE (by lia);have i:((([nI c,nI m].length:Y):Int)==2)=true:=rfl;rw[fE,x_run _ _ _ rfl];simp_all only[aU,e1,i,f9,lN,f,g,h]
theorem AQ (b:U<|Y×Y):aO (b.map λq=>((.s,nI q.1):W))=(b.map (·.1)).map nI:=by rw[aT (λ_=>Md.s) (λq:Y×Y=>nI q.1),KU];rfl
theorem AY (b:U<|Y×Y):aO (b.map λq=>((.s,nI q.2):W))=(b.map (·.2)).map nI:=by rw[aT (λ_=>Md.s) (λq:Y×Y=>nI q.2),KU];rfl
theorem fX (b:U<|Y×Y):(b.map cT).map (λt=>[((.s,t):W)])=b.map λq=>[((.s,cT q):W)]:=by rw[KU];rfl
theorem tO {a:Type}(l:U a):(l.map λ_=>JZ).all id=true:=KI.mpr λx hx=>by obtain⟨_,_,rfl⟩:=Kl.mp hx;rfl
theorem dQ (a:U T):(["list"].any λc=>isOne c<|T.lst a)=true:=rfl
theorem CS (k h N:Y)(t:N<=12)(b:U<|Y×Y)(l:∀q∈b,q.1<N/\1<=q.2/\q.2<=1000)(u:(b.map (·.1)).Pairwise (· < ·))(v:b.length<=12)(Q:smB b<=h)(w x y:Md):C (k+4) 357 [(w,bL b),(x,nI N),(y,nI h)]=.ok ((.d,.bl JZ),[]):=by
 have o:∀a c f g,az [4] (bE (evE (C (k+3)) (.call 302 [.var 4,.var 1]))) (b.map λq=>[((.s,cT q):W)]) [a,O (c,nI N),f,g,J,J,J] []=.ok ([]++b.map (λ_=>((.d,.bl JZ):W)),[a,O (c,nI N),f,g,J,J,J]):=λa c f g=>aF (λ_=>((.d,.bl JZ):W)) b [] λq i=>⟨_,[a,O (c,nI N),f,g,O (.s,cT q),J,J],rfl,by
  have e:=λm n=>Ep k q.1 q.2 N (l q i).1 t (l q i).2.1 (l q i).2.2 m n;simp_all only[e],rfl⟩
 have p:∀a c f g,az [5] (bE (evE (C (k+3)) (.op .ix JY [.var 5,.cst (.int 0)]))) (b.map λq=>[((.s,cT q):W)]) [a,c,f,g,J,J,J] []=.ok ([]++b.map (λq=>((.s,nI q.1):W)),[a,c,f,g,J,J,J]):=λa c f g=>aF (λq=>((.s,nI q.1):W)) b [] λq i=>⟨_,[a,c,f,g,J,O (.s,cT q),J],rfl,by simp_all only[f9],rfl⟩;have r:∀a c f g,az [6] (bE (evE (C (k+3)) (.op .ix JY [.var 6,.cst (.int 1)]))) (b.map λq=>[((.s,cT q):W)]) [a,c,f,g,J,J,J] []=.ok ([]++b.map (λq=>((.s,nI q.2):W)),[a,c,f,g,J,J,J]):=λa c f g=>aF (λq=>((.s,nI q.2):W)) b [] λq i=>⟨_,[a,c,f,g,J,J,O (.s,cT q)],rfl,by simp_all only[lN],rfl⟩;have A:=bT (λ_:Y×Y=>JZ) b;have D:=tO b;have F:=AQ b;have G:=AY b;have H:=λm=>Cq u (by rw[J6];exact v) m;have I:=λm n=>Cb (b.map (·.1)) m n;have L:=cB<|b.map (·.2);have M:=eD<|b.map (·.2);have P:decide (((bc (b.map (·.2)):Y):Int)<=(h:Int))=true:=QE (by show((smB b:Y):Int)<=_;lia);have z:=fX b;rw[gW,x_run _ _ _ rfl];simp_all only[aH,dQ,z,o,p,r,A,D,F,bQ,H,I,G,L,M,P]
def cK:U (Y×Y)->U Y->U Y
|[],l=>l
|q::b,l=>cK b<|l.set q.1<|l.getD q.1 0-q.2
theorem ia:∀(b:U<|Y×Y) (l:U Y),(cK b l).length=l.length
|[],_=>rfl
|q::b,l=>by rw[cK,ia b,KO]
theorem eR:∀(b:U<|Y×Y) (l:U Y) (x:Y),(∀q∈b,q.1<l.length)->x ∉ b.map (·.1)->(cK b l).getD x 0=l.getD x 0
|[],_,_,_,_=>rfl
|q::b,l,x,h,hx=>by rw[cK,eR b _ x (λr a=>by rw[KO];exact h r<|Ke _ a) λz=>hx<|Ke _ z,aN l q.1 x _<|h q Ka,QH λz=>hx<|by rw[<- z];exact Ka]
theorem jw:∀(b:U<|Y×Y) (l:U Y),(∀q∈b,q.1<l.length)->(b.map (·.1)).Nodup->∀q∈b,(cK b l).getD q.1 0=l.getD q.1 0-q.2
|[],_,_,_,_,h=>nomatch h
| r::b,l,h,nd,q,c=>by
 have a:=K1.mp nd;have d:∀q∈b,q.1<(l.set r.1 (l.getD r.1 0-r.2)).length:=λq c=>by rw[KO];exact h q<|Ke _ c
 have g:=h r Ka;rcases Kg.mp c with rfl|c
 .rw[cK,eR b _ _ d a.1,aN l _ _ _ g,QG rfl]
 .have i:r.1≠q.1:=fun e=>a.1 (by show r.1∈_; rw [e]; exact Lx (f:=fun p:Y×Y=>p.1) c);rw[cK,jw b _ d a.2 q c,aN l _ _ _ g,QH i]
theorem kW {a b:U Y}(e:a.length=b.length)(h:∀x,a.getD x 0=b.getD x 0):a=b:=by refine PN e λi c d=>?_;have:=h i;rw[Kf,Kf,Kj c,Kj d] at this;exact this
theorem Bt1.sub {P:Y->U Y}{h:Y}{l e:U Y}{b:U<|Y×Y}(x:Bt1 P h l b e):cK b l=e:=by
 have nd:(b.map (·.1)).Nodup:=x.asc.imp λz=>by lia
 have d:∀q∈b,q.1<l.length:=λq a=>(x.one q a).1;refine kW (by rw[ia,x.len]) λy=>?_;by_cases c:y∈b.map (·.1)
 .obtain ⟨q,a,rfl⟩:=Kl.mp c;have:=(x.one q a).2.2.1;rw[jw b l d nd q a];lia
 .rw[eR b l y d c,x.out y c]
abbrev I1:U S:=[
    .ite (.q [0,3,5] []) (.op .any JY [.comp JY .seq [.op .ix JY [.op .ix JY [.var 0,.op .ix JY [.var 5,.cst (.int 0)]],.cst (.int 3)]] [7] J (.op .ne JY [.op .ix JY [.var 3,.var 7],.cst (.int 0)])]) [
     .ret [] (.cst<|.bl JY)] []]
abbrev I2:U S:=[
    .setI (.q [3,5] []) 3 (.op .ix JY [.var 5,.cst<|.int 0]) (.op .sub JY [.op .ix JY [.var 3,.op .ix JY [.var 5,.cst<|.int 0]],.op .ix JY [.var 5,.cst<|.int 1]])]
theorem DW {a:Type}(l:U a):(l.map λ_=>JY).any id=false:=Pk.mpr λx hx=>by obtain⟨_,_,rfl⟩:=Kl.mp hx;decide
theorem Hi (k:Y)(L:U T)(y:Sts L)(l:U Y)(A:l.length=L.length)(q:Y×Y)(r:q.1<L.length)(D:∀p∈PL L q.1,l.getD p 0=0)(t u v:j W)(F:Md):
  ∃g,evSs (C k) I1 [O (F,.lst L),t,u,O (.o .s,.lst<|l.map nI),v,O (.s,cT q),J,J,J]=.nx [O (g,.lst L),t,u,O (.o .s,.lst<|l.map nI),v,O (.s,cT q),J,J,J]:=by
 obtain⟨a,b,w,e1,e2,e3⟩:=pR y r;have h:=mr r;rw[e1] at h;have G:=cN<|PL L q.1
 have x:∀e f,az [7] (bE (evE (C k) (.op .ne JY [.op .ix JY [.var 3,.var 7],.cst (.int 0)]))) ((PL L q.1).map λc=>[((.s,nI c):W)]) [e,J,J,O (.s,.lst (l.map nI)),J,f,J,J,J] []=.ok ([]++(PL L q.1).map (λ_=>((.d,.bl JY):W)),[e,J,J,O (.s,.lst (l.map nI)),J,f,J,J,J]):=λe f=>aF (λ_=>((.d,.bl JY):W)) (PL L q.1) [] λc n=>⟨_,[e,J,J,O (.s,.lst<|l.map nI),J,f,J,O (.s,nI c),J],rfl,by
  have i:=cY (l:=l) (m:=c) (by rw[A];exact e2 c n);rw[D c n] at i;have z:(!(((0:Y):Int)==0))=false:=rfl;simp_all only[i,z],rfl⟩
 have H:=bT (λ_:Y=>JY)<|PL L q.1;have I:=DW<|PL L q.1;exact⟨_,by simp_all only[f9,h,nC,G,x,H,bQ,I,oE];rfl⟩
theorem oW (k:Y)(c d g h:j W):∀(b:U<|Y×Y) (l:U Y) (m:j W),(b.map (·.1)).Nodup->(∀q∈b,q.1<l.length/\q.2<=l.getD q.1 0) ->
 ∃a,aY [5] (evSs (C k) I2) (b.map λq=>[((.s,cT q):W)]) [c,d,g,O (.o .s,.lst<|l.map nI),h,m,J,J,J]=.nx [c,d,g,O (.o .s,.lst<|(cK b l).map nI),h,a,J,J,J]
|[],l,m,_,_=>⟨m,rfl⟩
| q::b,l,m,nd,t=>by
 have i:=K1.mp nd;obtain⟨n,D⟩:=t q Ka;obtain⟨a,F⟩:=oW k c d g h b (l.set q.1<|l.getD q.1 0-q.2) (O (.s,cT q)) i.2 λr u=>by have G:q.1≠r.1:=λe=>i.1 (by show q.1∈_;rw[e];exact Lx (f:=λp:Y×Y=>p.1) u);obtain⟨z,A⟩:=t r<|Ke _ u;rw[KO,aN l _ _ _ n,QH G];exact⟨z,A⟩
 refine⟨a,?_⟩;have v:=cY n;have w:=j8 n;have x:((l.getD q.1 0:Y):Int)-((q.2:Y):Int)=((l.getD q.1 0-q.2:Y):Int):=by lia
 have y:=ju l q.1<|l.getD q.1 0-q.2;have e:evSs (C k) I2 [c,d,g,O (.o .s,.lst (l.map nI)),h,O (.s,cT q),J,J,J]=.nx [c,d,g,O (.o .s,.lst ((l.set q.1 (l.getD q.1 0-q.2)).map nI)),h,O (.s,cT q),J,J,J]:=by simp_all only[f9,lN,v,w,x,y]
 show Fl.turn (evSs (C k) I2 [c,d,g,O (.o .s,.lst<|l.map nI),h,O (.s,cT q),J,J,J]) (aY [5] (evSs (C k) I2)<|b.map λq=>[((.s,cT q):W)])=_;rw[e];exact F
abbrev IT:U S:=[
   .ite (.q [0,1,4] []) (.not (.call 357 [.var 4,.op .len JY [.var 0],.var 1])) [
    .ret [] (.cst<|.bl JY)] [],
   .forS [4] [] .seq [.var 4] [5] I1,
   .forS [4] [] .seq [.var 4] [5] I2]
theorem Bt1.nd {P:Y->U Y}{h:Y}{l a:U Y}{b:U<|Y×Y}(x:Bt1 P h l b a):(b.map (·.1)).Nodup:=x.asc.imp λz=>by lia
theorem Bt1.few {P:Y->U Y}{h n:Y}{l e:U Y}{b:U<|Y×Y}(x:Bt1 P h l b e)(a:l.length=n)(f:n<=12):b.length<=12:=by
 have:=jr n _ x.nd λy d=>by obtain⟨q,c,rfl⟩:=Kl.mp d;rw[<- a];exact(x.one q c).1
 rw[J6] at this;lia
theorem Bt1.le {P:Y->U Y}{h:Y}{l c:U Y}{b:U<|Y×Y}(x:Bt1 P h l b c)(y:Y):c.getD y 0<=l.getD y 0:=by
 by_cases a:y∈b.map (·.1)
 .obtain ⟨q,d,rfl⟩:=Kl.mp a;have:=(x.one q d).2.2.1;lia
 .rw[x.out y a];exact J9 _
theorem An (k:Y)(L:U T)(w:Sts L)(l:U Y)(y:l.length=L.length)(b:U<|Y×Y)(t:∀q∈b,q.1<L.length/\∀p∈PL L q.1,l.getD p 0=0)(i m n d:j W)(c:Md):
  ∃a h,aY [5] (evSs (C k) I1) (b.map λq=>[((.s,cT q):W)]) [O (c,.lst L),i,m,O (.o .s,.lst<|l.map nI),n,d,J,J,J]=.nx [O (a,.lst L),i,m,O (.o .s,.lst<|l.map nI),n,h,J,J,J]:=by
 obtain⟨A,z,a,h,rfl⟩:=b7 (tg:=[5]) (f:=evSs (C k) I1) (g:=λ(q:Y×Y)=>[((.s,cT q):W)])
  (λpre v=>∃(c:Md) (d:j W),v=[O (c,.lst L),i,m,O (.o .s,.lst<|l.map nI),n,d,J,J,J])
  b [] [O (c,.lst L),i,m,O (.o .s,.lst<|l.map nI),n,d,J,J,J] ⟨c,d,rfl⟩
  (by
   rintro p q r v hp ⟨c,d,x⟩;subst x;have u:q∈b:=by rw[show b=p++q::r from hp];simp
   obtain⟨a,e⟩:=Hi k L w l y q (t q u).1 (t q u).2 i m n c;exact⟨_,_,rfl,e,a,_,rfl⟩)
 exact⟨_,_,z⟩
theorem Fh (k h:Y)(L:U T)(r:Sts L)(l v:U Y)(t:l.length=L.length)(D:∀x,l.getD x 0<=1000)(b:U<|Y×Y)(x:Bt1 (PL L) h l b v)(f y:j W)(w n:Md):
  ∃c p d,evSs (C<|k+4) IT [O (w,.lst L),O (n,nI h),f,O (.o .s,.lst<|l.map nI),O (.s,bL b),y,J,J,J]=.nx [O (c,.lst L),O (p,nI h),f,O (.o .s,.lst<|v.map nI),O (.s,bL b),d,J,J,J]:=by
 have u:=r.len
 have e1:=λm F i=>CS k h L.length u b (λq a=>by
  obtain⟨H,A,I,_⟩:=x.one q a;have:=D q.1;exact⟨by lia,A,by lia⟩) x.asc (x.few t u) x.sum m F i
 have G:=fX b;obtain⟨c,d,g⟩:=An (k+4) L r l t b (λq a=>⟨by have:=(x.one q a).1;lia,(x.one q a).2.2.2⟩) (O (n,nI h)) f (O (.s,bL b)) y w;obtain⟨z,e⟩:=oW (k+4) (O (c,.lst L)) (O (n,nI h)) f (O (.s,bL b)) b l d x.nd λq a=>⟨(x.one q a).1,by have:=(x.one q a).2.2.1;lia⟩;rw[x.sub] at e;exact⟨_,_,_,by simp_all only[e1,G,g,e];rfl⟩
theorem yc (k h:Y)(L:U T)(G:Sts L)(u:j W){l F:U Y}{bs:U<|U<|Y×Y}(r:Run (PL L) h l bs F):l.length=L.length->(∀x,l.getD x 0<=1000)->∀(v p:j W) (f i:Md),
  ∃a c w d,aY [4] (evSs (C<|k+4) IT) (bs.map λb=>[((.s,bL b):W)]) [O (f,.lst L),O (i,nI h),u,O (.o .s,.lst<|l.map nI),v,p,J,J,J]=.nx [O (a,.lst L),O (c,nI h),u,O (.o .s,.lst<|F.map nI),w,d,J,J,J]:=by
 induction r with
 |nil l=>intro _ _ v p f i;exact⟨_,_,_,_,rfl⟩
 | cons y _ H =>
  rename_i D I N b bs r;intro z A v p f i;obtain⟨a,c,d,e⟩:=Fh k h L G D I z A b y u p f i;obtain⟨g,m,n,t,M⟩:=H (by rw[y.len,z]) (λx=>Ky (y.le x)<|A x) (O (.s,bL b)) d a c;refine⟨g,m,n,t,?_⟩
  .show Fl.turn (evSs (C<|k+4) IT [O (f,.lst L),O (i,nI h),u,O (.o .s,.lst<|D.map nI),O (.s,bL b),p,J,J,J]) (aY [4] (evSs (C<|k+4) IT)<|bs.map fun b=>[((.s,bL b):W)])=_;rw[e];exact M
theorem wJ (bs:U<|U<|Y×Y):(bs.map bL).map (λt=>[((.s,t):W)])=bs.map λb=>[((.s,bL b):W)]:=by rw[KU];rfl
theorem wo {L:U T}(a:Sts L)(x:Y):(wN L).getD x 0<=1000:=by
 by_cases hx:x<L.length
 .have:=(nV a hx).2;lia
 .rw[Kf,Lu<|by rw[bP];lia];exact Kx _
theorem zO (k h:Y)(L:U T)(c:Sts L){bs:U<|U<|Y×Y}{b:U Y}(r:Run (PL L) h (wN L) bs b)(z:∀x,b.getD x 0=0)(y p F:Md):C (k+5) 356 [(y,.lst L),(p,nI h),(F,.lst<|bs.map bL)]=.ok ((.d,.bl JZ),[]):=by
 have c0:=oj (C<|k+4) 6 L c.st [O (.s,.lst L),J,J,J,J,J,J,J,J] (λ_=>rfl) λ_=>rfl;have G:aO (L.map λu=>((.s,.int (wOf u)):W))=(wN L).map nI:=by rw[fQ,xa c]
 have H:=wJ bs;obtain⟨A,D,Q,Z,w⟩:=yc k h L c (O (.s,.lst<|bs.map bL)) r (bP L) (wo c) J J .s p
 have t:∀f g l m n o,az [8] (bE (evE (C (k+4)) (.op .eq JY [.var 8,.cst (.int 0)]))) (b.map λa=>[((.s,nI a):W)]) [f,g,l,m,n,o,J,J,J] []=.ok ([]++b.map (λ_=>((.d,.bl JZ):W)),[f,g,l,m,n,o,J,J,J]):=λf g l m n o=>aF (λ_=>((.d,.bl JZ):W)) b [] λa v=>⟨_,[f,g,l,m,n,o,J,J,O (.s,nI a)],rfl,by
  obtain⟨i,P,rfl⟩:=En v;rw[z i];have e:(((0:Y):Int)==0)=true:=rfl;simp_all only[e],rfl⟩
 have I:=bT (λ_:Y=>JZ) b;have M:=tO b;have N:=cN b;rw[c7,x_run _ _ _ rfl];simp_all only[aq,dQ,c0,G,H,w,N,t,I,bQ,M]
theorem wt (k c m N:Y)(n:c<N)(o:1<=m)(g h:Md):C (k+2) 303 [(g,nI N),(h,cT (c,m))]=.ok ((.d,.bl JZ),[]):=by have e1:=λi l=>xV k i l;have a:decide ((0:Int)<=(c:Int))=true:=QE (by lia);have b:decide ((c:Int)<(N:Int))=true:=QE (by lia);have e:decide ((m:Int)>0)=true:=QE (by lia);have f:(!((([nI c,nI m].length:Y):Int)==2))=false:=rfl;rw[dj,x_run _ _ _ rfl];simp_all only[ai,nE,e1,f,f9,lN,a,b,e]
def b0 (a:Y):U (Y×Y)->U (U Y)->U (U Y)
|[],S=>S
|q::b,S=>b0 a b<|dZ a S q.1
def bZ:U (Y×Y)->U Y->U Y
|[],d=>d
|q::b,d=>bZ b<|d.set q.1<|d.getD q.1 0+q.2
theorem eL (a:Y):∀(b:U<|Y×Y) (S:U<|U Y),(b0 a b S).length=S.length
|[],_=>rfl
|q::b,S=>by rw[b0,eL a b,cD]
theorem bG (a:Y):∀(b:U<|Y×Y) (S:U<|U Y) (x:Y),x<S.length->x ∉ b.map (·.1)->(b0 a b S).getD x []=S.getD x []
|[],_,_,_,_=>rfl
|q::b,S,x,hx,c=>by rw[b0,bG a b _ x (by rw[cD];exact hx) λz=>c<|Ke _ z,eh a S q.1 x hx,QH λz=>c<|by rw[<- z];exact Ka]
theorem dE (a:Y):∀(b:U<|Y×Y) (S:U<|U Y),(∀q∈b,q.1<S.length)->(b.map (·.1)).Nodup->∀q∈b,(b0 a b S).getD q.1 []=S.getD q.1 []++[a]
|[],_,_,_,_,h=>nomatch h
| r::b,S,h,nd,q,c=>by
 have d:=K1.mp nd;have g:=h r Ka;rcases Kg.mp c with rfl|c
 .rw[b0,bG a b _ _ (by rw[cD];exact g) d.1,eh a S _ _ g,QG rfl]
 .have i:r.1≠q.1:=fun e=>d.1 (by show r.1∈_; rw [e]; exact Lx (f:=fun p:Y×Y=>p.1) c);rw[b0,dE a b _ (λq c=>by rw[cD];exact h q<|Ke _ c) d.2 q c,eh a S _ _<|h q<|Ke _ c,QH i]
theorem gC:∀(b:U<|Y×Y) (l:U Y),(bZ b l).length=l.length
|[],_=>rfl
|q::b,l=>by rw[bZ,gC b,KO]
theorem eW:∀(b:U<|Y×Y) (l:U Y) (x:Y),(∀q∈b,q.1<l.length)->x ∉ b.map (·.1)->(bZ b l).getD x 0=l.getD x 0
|[],_,_,_,_=>rfl
|q::b,l,x,h,hx=>by rw[bZ,eW b _ x (λr a=>by rw[KO];exact h r<|Ke _ a) λz=>hx<|Ke _ z,aN l q.1 x _<|h q Ka,QH λz=>hx<|by rw[<- z];exact Ka]
theorem oX:∀(b:U<|Y×Y) (l:U Y),(∀q∈b,q.1<l.length)->(b.map (·.1)).Nodup->∀q∈b,(bZ b l).getD q.1 0=l.getD q.1 0+q.2
|[],_,_,_,_,h=>nomatch h
| r::b,l,h,nd,q,c=>by
 have a:=K1.mp nd;have d:∀q∈b,q.1<(l.set r.1 (l.getD r.1 0+r.2)).length:=λq c=>by rw[KO];exact h q<|Ke _ c
 have g:=h r Ka;rcases Kg.mp c with rfl|c
 .rw[bZ,eW b _ _ d a.1,aN l _ _ _ g,QG rfl]
 .have i:r.1≠q.1:=fun e=>a.1 (by show r.1∈_; rw [e]; exact Lx (f:=fun p:Y×Y=>p.1) c);rw[bZ,oX b _ d a.2 q c,aN l _ _ _ g,QH i]
structure Jx (P:Y->U Y)(n:Y)(w l:U Y)(a:Y)(S:U (U Y))(dn:U Y):Prop where
 lS:S.length=n
 ld:dn.length=n
 ll:l.length=n
 j1:∀k,dn.getD k 0+l.getD k 0=w.getD k 0
 j2:∀k,k<n->(S.getD k []).length<=a/\∀x∈S.getD k [],x<a
 j3:∀k,k<n->∀p∈P k,∀x∈S.getD p [],∀y∈S.getD k [],x<y
 j4:∀k,k<n->S.getD k []≠[]->∀p∈P k,l.getD p 0=0
 j5:∀k,k<n->0<dn.getD k 0->S.getD k []≠[]
theorem Jx.step {P:Y->U Y}{n h:Y}{w l I:U Y}{a:Y}{S:U<|U Y}{s:U Y}{b:U<|Y×Y}(L:∀k,k<n->∀p∈P k,p<n)(c:Jx P n w l a S s)(x:Bt1 P h l b I):Jx P n w I (a+1) (b0 a b S) (bZ b s):=by
 have F:∀q∈b,q.1<n:=λq f=>by have:=(x.one q f).1;have:=c.ll;lia
 have nd:=x.nd;have o:∀q∈b,q.1<S.length:=λq f=>by rw[c.lS];exact F q f
 have r:∀q∈b,q.1<s.length:=λq f=>by rw[c.ld];exact F q f
 have i:∀k,k<n->∀y∈(b0 a b S).getD k [],y∈S.getD k []\/(y=a/\k∈b.map (·.1)):=λk hk y m=>by
  by_cases g:k∈b.map (·.1)
  .obtain ⟨q,f,rfl⟩:=Kl.mp g;rw[dE a b S o nd q f] at m;rcases KP.mp m with z|z
   .exact .inl z
   .exact .inr ⟨KA.mp z,g⟩
  .rw[bG a b S k (by rw[c.lS];exact hk) g] at m;exact .inl m
 refine⟨by rw[eL,c.lS],by rw[gC,c.ld],by rw[x.len,c.ll],λk=>?_,λk hk=>⟨?_,λy m=>?_⟩,λk hk p hp y m z H=>?_,λk hk t p hp=>?_,λk hk G=>?_⟩
 .have d:=c.j1 k;by_cases g:k∈b.map (·.1)
  .obtain ⟨q,f,rfl⟩:=Kl.mp g;rw[oX b s r nd q f];have:=(x.one q f).2.2.1;lia
  .rw[eW b s k r g,x.out k g];exact d
 .have d:=(c.j2 k hk).1;by_cases g:k∈b.map (·.1)
  .obtain ⟨q,f,rfl⟩:=Kl.mp g;rw[dE a b S o nd q f,Kk,KN];lia
  .rw[bG a b S k (by rw[c.lS];exact hk) g];lia
 .rcases i k hk y m with z | z
  .have:=(c.j2 k hk).2 y z;lia
  .lia
 .have A:=L k hk p hp;have N:p∈b.map (·.1)->l.getD p 0≠0:=λz=>by obtain⟨q,f,rfl⟩:=Kl.mp z;have:=(x.one q f).2.1;have:=(x.one q f).2.2.1;lia
  have D:z∈S.getD k []\/k∈b.map (·.1)->l.getD p 0=0:=λu=>by
   rcases u with u|u
   .exact c.j4 k hk (λe=>by rw[e] at u;cases u) p hp
   .obtain ⟨q,f,rfl⟩:=Kl.mp u;exact(x.one q f).2.2.2 p hp
  have M:l.getD p 0=0:=D<|(i k hk z H).imp id And.right;rcases i p A y m with u|u
  .rcases i k hk z H with v | v
   .exact c.j3 k hk p hp y u z v
   .have:=(c.j2 p A).2 y u;lia
  .exact QL M (N u.2)
 .have le:=x.le p;by_cases g:k∈b.map (·.1)
  .obtain ⟨q,f,rfl⟩:=Kl.mp g;have:=(x.one q f).2.2.2 p hp;lia
  .rw [bG a b S k (by rw [c.lS]; exact hk) g] at t;have:=c.j4 k hk t p hp;lia
 .by_cases g:k∈b.map (·.1)
  .obtain ⟨q,f,rfl⟩:=Kl.mp g;rw[dE a b S o nd q f];simp
  .rw [eW b s k r g] at G;rw[bG a b S k (by rw[c.lS];exact hk) g];exact c.j5 k hk G
abbrev JA:U S:=[
    .ite (.q [0,7,9] []) (.or (.not (.call 303 [.op .len JY [.var 0],.var 9])) (.op .le JY [.op .ix JY [.var 9,.cst (.int 0)],.var 7])) [
     .ret [] (.cst<|.bl JY)] [],
    .asg (.q [9] []) 7 (.op .ix JY [.var 9,.cst<|.int 0]),
    .asg (.q [8,9] []) 8 (.op .add JY [.var 8,.op .ix JY [.var 9,.cst<|.int 1]])]
abbrev JB:U S:=[
    .setI (.q [4,7,9] []) 4 (.var 7) (.op .add JY [.op .ix JY [.var 4,.var 7],.op .ix JY [.var 9,.cst<|.int 1]])]
abbrev JC:U S:=[
    .ite (.q [0,7,9] []) (.or (.not (.call 303 [.op .len JY [.var 0],.var 9])) (.op .le JY [.op .ix JY [.var 9,.cst (.int 0)],.var 7])) [
     .ret [] (.cst<|.bl JY)] [],
    .asg (.q [9] []) 7 (.op .ix JY [.var 9,.cst<|.int 0]),
    .asg (.q [8,9] []) 8 (.op .add JY [.var 8,.op .ix JY [.var 9,.cst<|.int 1]]),
    .apN 3 7 5,
    .setI (.q [4,7,9] []) 4 (.var 7) (.op .add JY [.op .ix JY [.var 4,.var 7],.op .ix JY [.var 9,.cst<|.int 1]])]
theorem Hd (k:Y)(L:U T)(S:U<|U Y)(f:U Y)(a u:Y)(v:Int)(q:Y×Y)(hn:L.length<=12)(Z:S.length=L.length)(hd:f.length=L.length)(x:q.1<L.length)(y:1<=q.2)(hv:v<(q.1:Int))(hs:(S.getD q.1 []).length<1000)(i l n:j W)(z g A D:Md):
  ∃b c e,evSs (C<|k+2) JC [O (z,.lst L),i,l,O (.d,.lst<|mS S),O (.o .s,.lst<|f.map nI),O (g,nI a),n,O (A,.int v),O (D,nI u),O (.s,cT q),J,J,J,J,J,J] =
   .nx [O (b,.lst L),i,l,O (.d,.lst<|mS<|dZ a S q.1),O (.o .s,.lst<|(f.set q.1<|f.getD q.1 0+q.2).map nI),O (g,nI a),n,O (c,nI q.1),O (e,nI<|u+q.2),O (.s,cT q),J,J,J,J,J,J]:=by
 have e1:=λm m'=>wt k q.1 q.2 L.length x y m m';have G:decide ((q.1:Int)<=v)=false:=QP (by lia);have H:((u:Y):Int)+((q.2:Y):Int)=((u+q.2:Y):Int):=by lia
 have r:∃b c e,evSs (C<|k+2) JA [O (z,.lst L),i,l,O (.d,.lst<|mS S),O (.o .s,.lst<|f.map nI),O (g,nI a),n,O (A,.int v),O (D,nI u),O (.s,cT q),J,J,J,J,J,J] =
   .nx [O (b,.lst L),i,l,O (.d,.lst<|mS S),O (.o .s,.lst<|f.map nI),O (g,nI a),n,O (c,nI q.1),O (e,nI<|u+q.2),O (.s,cT q),J,J,J,J,J,J]:=⟨_,_,_,by simp_all only[e1,G,f9,lN,H];rfl⟩
 obtain⟨b,c,e,r⟩:=r;have F:=Ie (S:=S) (k:=q.1) (m:=a) (by rw[Z];exact x) (by lia) hs c g
 have Q:evSs (C<|k+2) [.apN 3 7 5] [O (b,.lst L),i,l,O (.d,.lst<|mS S),O (.o .s,.lst<|f.map nI),O (g,nI a),n,O (c,nI q.1),O (e,nI<|u+q.2),O (.s,cT q),J,J,J,J,J,J] =
   .nx [O (b,.lst L),i,l,O (.d,.lst<|mS<|dZ a S q.1),O (.o .s,.lst<|f.map nI),O (g,nI a),n,O (c,nI q.1),O (e,nI<|u+q.2),O (.s,cT q),J,J,J,J,J,J]:=by
  have e2:evSs (C (k+2)) [.apN 3 7 5] [O (b,.lst L),i,l,O (.d,.lst (mS S)),O (.o .s,.lst (f.map nI)),O (g,nI a),n,O (c,nI q.1),O (e,nI (u+q.2)),O (.s,cT q),J,J,J,J,J,J]=Fl.seq (nxO [O (b,.lst L),i,l,O (.d,.lst (mS S)),O (.o .s,.lst (f.map nI)),O (g,nI a),n,O (c,nI q.1),O (e,nI (u+q.2)),O (.s,cT q),J,J,J,J,J,J] ((jT (O (.d,.lst (mS S))) (O (c,nI q.1)) (O (g,nI a))).map λw=>put [O (b,.lst L),i,l,O (.d,.lst (mS S)),O (.o .s,.lst (f.map nI)),O (g,nI a),n,O (c,nI q.1),O (e,nI (u+q.2)),O (.s,cT q),J,J,J,J,J,J] 3 w)) (evSs (C (k+2)) []):=rfl;rw[e2,F];rfl
 have p:q.1<f.length:=by rw[hd];exact x
 have I:=cY p;have M:=j8 p;have N:((f.getD q.1 0:Y):Int)+((q.2:Y):Int)=((f.getD q.1 0+q.2:Y):Int):=by lia
 have P:=ju f q.1<|f.getD q.1 0+q.2
 have t:∃h,evSs (C<|k+2) JB [O (b,.lst L),i,l,O (.d,.lst<|mS<|dZ a S q.1),O (.o .s,.lst<|f.map nI),O (g,nI a),n,O (c,nI q.1),O (e,nI<|u+q.2),O (.s,cT q),J,J,J,J,J,J] =
   .nx [O (b,.lst L),i,l,O (.d,.lst<|mS<|dZ a S q.1),O (.o .s,.lst<|(f.set q.1<|f.getD q.1 0+q.2).map nI),O (g,nI a),n,O (h,nI q.1),O (e,nI<|u+q.2),O (.s,cT q),J,J,J,J,J,J]:=⟨_,by simp_all only[lN,I,M,N,P];rfl⟩
 obtain⟨h,t⟩:=t;refine⟨b,h,e,?_⟩;rw[show JC=JA++([.apN 3 7 5]++JB) from rfl,go1 r,go1 Q,t]
theorem cF {c:Type}{tg:U Y}{f:Env->Fl}{g:c->U W}{x:c}{ts:U c}{d a b:Env}(h:f a=.nx b)(e:aJ tg (g x) d=O a):aY tg f ((x::ts).map g) d=aY tg f (ts.map g) b:=by rw[Ku];show Fl.of _ (ofO<|aJ tg (g x) d) _=_;rw[e];show Fl.turn (f a) _=_;rw[h];rfl
abbrev JT:U S:=[
   .ite (.q [6] []) (.not (.op (.isI ["list"]) JY [.var 6])) [
    .ret [] (.cst<|.bl JY)] [],
   .asg (.q [] []) 7 (.op .neg JY [.cst<|.int 1]),
   .asg (.q [] []) 8 (.cst<|.int 0),
   .forS [6] [] .seq [.var 6] [9] JC,
   .ite (.q [1,8] []) (.op .gt JY [.var 8,.var 1]) [
    .ret [] (.cst<|.bl JY)] []]
theorem Jx.zero {P:Y->U Y}{n:Y}{w:U Y}(b:w.length=n):Jx P n w w 0 (Kb n []) (Kb n 0):=by
 have r0:∀k,(Kb n ([]:U Y)).getD k []=[]:=λk=>by rw[Kf,Mt];split<;>rfl
 have a:∀k,(Kb n 0).getD k 0=0:=λk=>by rw[Kf,Mt];split<;>rfl
 refine⟨K4,K4,b,λk=>by rw[a];lia,λk _=>?_,λk _ p _ x hx=>?_,λk _ h=>?_,λk _ h=>?_⟩
 .rw[r0];exact⟨J9 _,λx hx=>nomatch hx⟩
 .rw[r0] at hx;cases hx
 .exact QL (r0 k) h
 .rw[a] at h;exact QL h<|Lp _
abbrev JE:U S:=[
    .ite (.q [3,12] [10]) (.op .le JY [.op .ix JY [.op .ix JY [.var 3,.var 10],.cst (.int 0)],.op .ix JY [.op .ix JY [.var 3,.var 12],.op .neg JY [.cst (.int 1)]]]) [
     .ret [] (.cst<|.bl JY)] []]
abbrev JF:U S:=[.forS [11] [] .seq [.op .ix JY [.var 11,.cst<|.int 3]] [12] JE]
theorem tE {l:U Y}(h:l≠[]):∃x∈l,atI (l.map nI) (-1)=O (nI x):=by refine⟨l.getLast h,PK h,oC ?_⟩;rw[P0,NL h];rfl
abbrev OA:U S:=[
    .asg (.q [3,5,9] []) 10 (.op .min JY [.var 5,.op .ix JY [.var 3,.var 9]]),
    .ite (.l [7,9]) (.and (.op .gt JY [.var 10,.cst (.int 0)]) (.or (.op .lt JY [.var 8,.cst (.int 2)]) (.or (.op .eq JY [.var 9,.op .ix JY [.var 7,.op .neg JY [.cst (.int 1)]]]) (.op .eq JY [.call 201 [.io 0,.cst (.int 2)],.cst (.int 0)])))) [
     .ite (.q [] [8]) (.op .eq JY [.var 8,.cst (.int 1)]) [
      .asg (.l []) 10 (.op .add JY [.cst<|.int 1,.call 201 [.io 0,.var 10]])] [],
     .app (.q [9] [10]) 6 (.tup [.var 9,.var 10]),
     .asg (.q [5] [10]) 5 (.op .sub JY [.var 5,.var 10])] []]
def Dl (d c f:Y)(bt:U<|Y×Y)(b:Y)(a:U<|Y×Y):Prop:=∃m,1<=m/\m<=f/\m<=d/\b=f-m/\a=bt++[(c,m)]
theorem EY (k N f c lst:Y)(z:Int)(l Z:U Y)(hc:c<l.length)(hp:0<l.getD c 0)(h60:l.getD c 0<=1000)(b:atI (Z.map nI) (-1)=O (nI lst))(bt:U<|Y×Y)(hb:bt.length<500)(t:T)(A:Tp N t)(hN:N+5<1000000000000000000)(w1 w2 w4 o10:j W)(m5 m8:Md):
  ∃t' L g m5' m8' m9' H,Tp (N+2) t'/\((L=f/\g=bt)\/Dl (l.getD c 0) c f bt L g)/\(0<f->c=lst->Dl (l.getD c 0) c f bt L g) /\
   evSs (C<|k+1) OA [O (.d,t),w1,w2,O (.o .s,.lst<|l.map nI),w4,O (m5,nI f),O (.o .s,bL bt),O (.s,.lst<|Z.map nI),O (m8,.int z),O (.s,nI c),o10,J] =
   .nx [O (.d,t'),w1,w2,O (.o .s,.lst<|l.map nI),w4,O (m5',nI L),O (.o .s,bL g),O (.s,.lst<|Z.map nI),O (m8',.int z),O (m9',nI c),H,J]:=by
 have y:=cY hc;have i:(if((l.getD c 0:Y):Int)<((f:Y):Int) then((l.getD c 0:Y):Int) else((f:Y):Int))=((min f (l.getD c 0):Y):Int):=by split<;>lia
 have D:min f (l.getD c 0)<=f:=Nat.min_le_left _ _;have F:min f (l.getD c 0)<=l.getD c 0:=PX _ _;have M:(bt.map cT).length<LIM:=by rw[J6];exact Jm<|by lia
 have P:∀m,bt.map cT++[T.tup [nI c,nI m]]=(bt++[(c,m)]).map cT:=λm=>by rw[Mk];rfl
 by_cases h0:f=0
 .subst h0;have d:decide (((min 0 (l.getD c 0):Y):Int)>0)=false:=QP (by lia);exact⟨t,0,bt,_,_,_,_,tm A<|by lia,.inl ⟨rfl,rfl⟩,λz=>QL z<|Lp _,by simp_all only[y,i,d];rfl⟩
 .have G:1<=min f (l.getD c 0):=by lia
  have d:decide (((min f (l.getD c 0):Y):Int)>0)=true:=QE (by lia);generalize min f (l.getD c 0)=u at i D F G d;have g7:((f:Y):Int)-((u:Y):Int)=((f-u:Y):Int):=by lia
  have a:Dl (l.getD c 0) c f bt (f-u) (bt++[(c,u)]):=⟨u,G,D,F,rfl,rfl⟩;by_cases hz:z<2
  .have x:decide (z<2)=true:=QE hz;by_cases h1:z=1
   .subst h1;obtain⟨r,t1,a1,b1,p,e1⟩:=b9 (n:=k) .s ((u:Y):Int) A (by lia) (by lia) (by lia);obtain⟨r2,t2,a2,b2,ht2,e2⟩:=b9 (n:=k) .d ((u:Y):Int) A (by lia) (by lia) (by lia);have h:((1:Int)==1)=true:=rfl;obtain⟨v,rfl⟩:=Ms a1;obtain⟨w,rfl⟩:=Ms a2;have g8:(1:Int)+((w:Y):Int)=((1+w:Y):Int):=by lia
    have g9:((f:Y):Int)-((1+w:Y):Int)=((f-(1+w):Y):Int):=by lia
    have part:Dl (l.getD c 0) c f bt (f-(1+w)) (bt++[(c,1+w)]):=⟨1+w,by lia,by lia,by lia,rfl,rfl⟩;exact⟨t2,_,_,_,_,_,_,tm ht2<|by lia,.inr part,λ_ _=>part,by simp_all only[y,i,d,x,h,e2,g8,M,P,g9];rfl⟩
   .have h:(z==1)=false:=beq_eq_false_iff_ne.mpr h1;exact⟨t,_,_,_,_,_,_,tm A<|by lia,.inr a,λ_ _=>a,by simp_all only[y,i,d,x,h,M,P,g7];rfl⟩
  .have x:decide (z<2)=false:=QP hz;have h:(z==1)=false:=beq_eq_false_iff_ne.mpr (by lia);by_cases Q:c=lst
   .have I:(((c:Y):Int)==((lst:Y):Int))=true:=by rw [kL,Q]; exact Q4 _
    exact⟨t,_,_,_,_,_,_,tm A<|by lia,.inr a,λ_ _=>a,by simp_all only[y,i,d,x,h,b,I,M,P,g7];rfl⟩
   .have I:(((c:Y):Int)==((lst:Y):Int))=false:=by rw [kL]; exact beq_eq_false_iff_ne.mpr Q
    obtain⟨r,t1,a1,b1,p,e1⟩:=b9 (n:=k) .d 2 A (by lia) (by decide) (by decide);by_cases hr:r=0
    .have d5:(r==0)=true:=by rw [hr]; rfl
     exact⟨t1,_,_,_,_,_,_,tm p<|by lia,.inr a,λ_ e=>QL e Q,by simp_all only[y,i,d,x,h,b,I,e1,d5,M,P,g7];rfl⟩
    .have d5:(r==0)=false:=beq_eq_false_iff_ne.mpr hr;exact⟨t1,f,bt,_,_,_,_,tm p<|by lia,.inl ⟨rfl,rfl⟩,λ_ e=>QL e Q,by simp_all only[y,i,d,x,h,b,I,e1,d5];rfl⟩
abbrev VC:U S:=[.setI (.q [3,9] [10]) 3 (.var 9)<|.op .sub JY [.op .ix JY [.var 3,.var 9],.var 10]]
structure Ob (P:Y->U Y)(h:Y)(l p:U Y)(lst f:Y)(bt:U (Y×Y)):Prop where
 sm:smB bt+f=h
 sub:(bt.map (·.1)).Sublist p
 one:∀q∈bt,1<=q.2/\q.2<=l.getD q.1 0
 go:lst∈p->bt≠[]
theorem xt (k N h:Y)(hh:0<h)(z:Int)(P:Y->U Y)(l w:U Y)(hcs:w.length<=12)(hc:∀c∈w,c<l.length/\0<l.getD c 0/\l.getD c 0<=1000)(lst:Y)(D:atI (w.map nI) (-1)=O (nI lst))(t:T)(ht:Tp N t)(hN:N+100<1000000000000000000)(M Q Z I v:j W)(F G:Md):
  ∃L A b x y H n,Tp (N+24) L/\Ob P h l w lst A b /\
   aY [9] (evSs (C<|k+1) OA) (w.map λi=>[((.s,nI i):W)]) [O (.d,t),M,Q,O (.o .s,.lst<|l.map nI),Z,O (F,nI h),O (.o .s,bL []),O (.s,.lst<|w.map nI),O (G,.int z),I,v,J] =
   .nx [O (.d,L),M,Q,O (.o .s,.lst<|l.map nI),Z,O (x,nI A),O (.o .s,bL b),O (.s,.lst<|w.map nI),O (y,.int z),H,n,J]:=by
 obtain⟨η',lp,L,A,b,x,y,H,n,htt,a,rfl⟩:=b7 (tg:=[9]) (f:=evSs (C<|k+1) OA) (g:=λ(i:Y)=>[((.s,nI i):W)])
  (λpre η=>∃(t:T) (f:Y) (bt:U<|Y×Y) (F G:Md) (I v:j W),Tp (N+2 * pre.length) t/\Ob P h l pre lst f bt/\η=[O (.d,t),M,Q,O (.o .s,.lst<|l.map nI),Z,O (F,nI f),O (.o .s,bL bt),O (.s,.lst<|w.map nI),O (G,.int z),I,v,J])
  w [] [O (.d,t),M,Q,O (.o .s,.lst<|l.map nI),Z,O (F,nI h),O (.o .s,bL []),O (.s,.lst<|w.map nI),O (G,.int z),I,v,J]
  ⟨t,h,[],F,G,I,v,ht,⟨LD _,PZ _,(λq hq=>nomatch hq),(λz=>nomatch z)⟩,rfl⟩
  (by
   rintro p c r η hp ⟨t,f,bt,F,G,I,v,ht,a,he⟩;subst he;have hcm:c∈w:=by rw[show w=p++c::r from hp];simp
   have hpl:p.length<12:=by have:=QW Mq (show w=p++c::r from hp);rw[Kk,Ki] at this;lia
   have hbl:bt.length<=p.length:=by have:=a.sub.length_le;rw[J6] at this;exact this
   obtain⟨c1,c2,c3⟩:=hc c hcm;obtain⟨L,A,b,x,y,m9',n,ht',d1,d2,e⟩:=EY k (N+2 * p.length) f c lst z l w c1 c2 c3 D bt (by lia) t ht (by lia) M Q Z v F G;have el:(p++[c]).length=p.length+1:=by rw[Kk];rfl
   have dl:Dl (l.getD c 0) c f bt A b->Ob P h l (p++[c]) lst A b:=λ⟨m,x1,x2,x3,x4,x5⟩=>by
    subst x4;subst x5;have sm:=a.sm;refine⟨by rw[zL];lia,?_,λq hq=>?_,λ_=>by simp⟩
    .rw[Mk];exact a.sub.append<|PZ _
    .rcases KP.mp hq with u | u
     .exact a.one q u
     .rw[KA.mp u];exact⟨x1,x3⟩
   refine⟨_,_,rfl,e,L,A,b,x,y,_,n,tm ht'<|by rw[el];lia,?_,rfl⟩;rcases d1 with⟨x1,x2⟩|d1
   .subst x1; subst x2;refine⟨a.sm,a.sub.trans (List.sublist_append_left _ _),a.one,λu eb=>?_⟩;rcases KP.mp u with u|u
    .exact a.go u eb
    .have ec:=(KA.mp u).symm;have f0:0<A:=by have sm:=a.sm;rw[eb] at sm;have:smB []=0:=rfl;lia
     obtain⟨m,_,_,_,_,x5⟩:=d2 f0 ec;rw[eb] at x5;cases x5
   .exact dl d1)
 exact⟨L,A,b,x,y,H,n,tm htt<|by simp;lia,a,lp⟩
theorem lV:∀(b:U<|Y×Y) (l:U Y),(∀q∈b,q.1<l.length/\q.2<=l.getD q.1 0)->(b.map (·.1)).Nodup->bc (cK b l)+smB b=bc l
|[],_,_,_=>rfl
| q::b,l,h,nd=>by
 have a:=K1.mp nd;obtain⟨c,m⟩:=h q Ka
 have o:=lV b (l.set q.1<|l.getD q.1 0-q.2) (λr d=>by
  have k:q.1≠r.1:=λe=>a.1 (by show q.1∈_;rw[e];exact Lx (f:=λp:Y×Y=>p.1) d);obtain⟨g,i⟩:=h r<|Ke _ d;rw[KO,aN l _ _ _ c,QH k];exact⟨g,i⟩) a.2
 have n:=oa l q.1 (l.getD q.1 0-q.2) c;show bc (cK b _)+(q.2+smB b)=_;lia
theorem Ob.bt {P:Y->U Y}{h lst f:Y}{l:U Y}{bt:U<|Y×Y}(a:Ob P h l (can P l) lst f bt):Bt1 P h l bt (cK bt l):=by
 have d:∀q∈bt,q.1∈can P l:=λq b=>a.sub.subset<|Lx (f:=λp:Y×Y=>p.1) b;have c:∀q∈bt,q.1<l.length:=λq b=>(can_mem.mp<|d q b).1;have asc:(bt.map (·.1)).Pairwise (· < ·):=(show(can P l).Pairwise (· < ·) from Qw _ OY).sublist a.sub;have nd:(bt.map (·.1)).Nodup:=asc.imp λz=>by lia
 have e:=a.sm;refine⟨ia _ _,asc,λq b=>⟨c q b,(a.one q b).1,?_,(can_mem.mp<|d q b).2.2⟩,by lia,λx hx=>eR bt l x c hx,lV bt l (λq b=>⟨c q b,(a.one q b).2⟩) nd⟩;rw[jw bt l c nd q b];have:=(a.one q b).2;lia
theorem zQ {bt:U<|Y×Y}(h:bt≠[])(a:∀q∈bt,1<=q.2):1<=smB bt:=by
 cases bt with
 |nil=>exact QL rfl h
 |cons q b=>have:=a q Ka;show 1<=q.2+smB b;lia
theorem zF (k:Y)(n t u v w y z A:j W)(b:U<|Y×Y):∀(l:U Y) (m c:j W),(b.map (·.1)).Nodup->(∀q∈b,q.1<l.length/\q.2<=l.getD q.1 0) ->
  ∃h a,aY [9,10] (evSs (C k) VC) (b.map λq=>[((.s,nI q.1):W),(.s,nI q.2)]) [n,t,u,O (.o .s,.lst<|l.map nI),v,w,y,z,A,m,c,J]=.nx [n,t,u,O (.o .s,.lst<|(cK b l).map nI),v,w,y,z,A,h,a,J]:=by
 induction b with
 |nil=>intro l m c _ _;exact⟨m,c,rfl⟩
 | cons q b ih =>
  intro l m c nd G;have i:=K1.mp nd;obtain⟨D,Z⟩:=G q Ka;have I:=cY D;have L:=j8 D;have M:((l.getD q.1 0:Y):Int)-((q.2:Y):Int)=((l.getD q.1 0-q.2:Y):Int):=by lia
  have N:=ju l q.1<|l.getD q.1 0-q.2;have e:∃F d,evSs (C k) VC [n,t,u,O (.o .s,.lst (l.map nI)),v,w,y,z,A,O (.s,nI q.1),O (.s,nI q.2),J]=.nx [n,t,u,O (.o .s,.lst ((l.set q.1 (l.getD q.1 0-q.2)).map nI)),v,w,y,z,A,O (F,nI q.1),O (d,nI q.2),J]:=⟨_,_,by simp_all only[I,L,M,N];rfl⟩;obtain⟨F,d,e⟩:=e;obtain⟨h,a,lp⟩:=ih (l.set q.1<|l.getD q.1 0-q.2) (O (F,nI q.1)) (O (d,nI q.2)) i.2 λr H=>by have ne:q.1≠r.1:=λe=>i.1 (by show q.1∈_;rw[e];exact Lx (f:=λp:Y×Y=>p.1) H);obtain⟨P,Q⟩:=G r<|Ke _ H;rw[KO,aN l _ _ _ D,QH ne];exact⟨P,Q⟩
  refine⟨h,a,(cF (tg:=[9,10]) (f:=evSs (C k) VC) (g:=λ(q:Y×Y)=>[((.s,nI q.1):W),(.s,nI q.2)]) (x:=q) (ts:=b) e rfl).trans ?_⟩;rw[show cK (q::b) l=cK b (l.set q.1<|l.getD q.1 0-q.2) from rfl];exact lp
abbrev OB:U S:=[
   .asg (.q [2] []) 5 (.var 2),
   .asg (.q [] []) 6 (.lst JY []),
   .asg (.q [1,3] []) 7 (.call 308 [.var 1,.var 3]),
   .asg (.l []) 8 (.call 201 [.io 0,.cst<|.int 3]),
   .forS [7] [] .seq [.var 7] [9] OA,
   .forS [6] [] .sq2 [.var 6] [9,10] VC,
   .app (.q [6] []) 4 (.var 6)]
noncomputable abbrev OC:E:=.op .gt JY [.op .sum JY [.var 3],.cst<|.int 0]
theorem kn:∀{l:U Y},bc l=0->∀x,l.getD x 0=0
|[],_,x=>rfl
|a::l,h,x=>by
 have b:a+bc l=0:=h;cases x with
 |zero=>show a=0;lia
 |succ x=>exact kn (l:=l) (by lia) x
theorem lY:∀{l:U Y},(∀x,l.getD x 0=0)->bc l=0
|[],_=>rfl
|a::l,h=>by have b:a=0:=h 0;have c:=lY (l:=l) λx=>h<|x+1;show a+bc l=0;lia
theorem E1 (k N h:Y)(hh:0<h)(L:U T)(hL:Sts L)(l:U Y)(hl:l.length=L.length)(hs:∀x,l.getD x 0<=1000)(H:can (PL L) l≠[])(t:T)(ht:Tp N t)(hN:N+200<1000000000000000000)(f:U<|U<|Y×Y)(hb:f.length<10000)(o5 o6 o7 o8 w b:j W)(D F:Md):
  ∃y bt m1' m2' o5' o6' o7' o8' p e,Tp (N+25) y/\Bt1 (PL L) h l bt (cK bt l)/\1<=smB bt/\evSs (C<|k+1) OB [O (.d,t),O (D,.lst L),O (F,nI h),O (.o .s,.lst<|l.map nI),O (.o .s,.lst<|f.map bL),o5,o6,o7,o8,w,b,J] =
   .nx [O (.d,y),O (m1',.lst L),O (m2',nI h),O (.o .s,.lst<|(cK bt l).map nI),O (.o .s,.lst<|(f++[bt]).map bL),o5',o6',o7',o8',p,e,J]:=by
 have hn:=hL.len;have u:∀c∈can (PL L) l,c<l.length:=λc r=>(can_mem.mp r).1;have v:(can (PL L) l).length<=12:=Ky (jr L.length _ DI λc r=>by rw[<- hl];exact u c r) hn;have e1:=λm m'=>BL k L hL l hl m m';have g3:=cN<|can (PL L) l;obtain⟨z,t1,a1,b1,M,e2⟩:=b9 (n:=k) .d 3 ht (by lia) (by decide) (by decide);obtain⟨lst,G,g⟩:=tE H;have Q:=λ(w1 w2 w4 w b:j W) (m5 m8:Md)=>xt k (N+1) h hh z (PL L) l (can (PL L) l) v (λc r=>⟨u c r,(can_mem.mp r).2.1,hs c⟩) lst g t1 M (by lia) w1 w2 w4 w b m5 m8;obtain⟨y,f',bt,m5',m8',p,e,I,a,P⟩:=Q (O (D,.lst L)) (O (F,nI h)) (O (.o .s,.lst<|f.map bL)) w b .d .d;have P:aY [9] (evSs (C (k+1)) OA) ((can (PL L) l).map λi=>[((.s,nI i):W)]) [O (.d,t1),O (D,.lst L),O (F,nI h),O (.o .s,.lst (l.map nI)),O (.o .s,.lst (f.map bL)),O (.d,nI h),O (.o .s,.lst []),O (.s,.lst ((can (PL L) l).map nI)),O (.d,.int z),w,b,J]=_:=P;have x:=a.bt;have t0:=zp bt;obtain⟨o9'',o10'',Z⟩:=zF (k+1) (O (.d,y)) (O (D,.lst L)) (O (F,nI h)) (O (.o .s,.lst<|f.map bL)) (O (m5',nI f')) (O (.s,bL bt)) (O (.s,.lst<|(can (PL L) l).map nI)) (O (m8',.int z)) bt l p e x.nd λq A=>⟨(x.one q A).1,(a.one q A).2⟩;have g1:(f.map bL).length<LIM:=by rw[J6];show _<16777215;lia
 have g2:f.map bL++[bL bt]=(f++[bt]).map bL:=by rw[Mk];rfl
 exact⟨y,bt,_,_,_,_,_,_,_,_,tm I<|by lia,x,zQ (a.go G) λq A=>(a.one q A).1,by simp_all only[e1,e2,g3,P,AA,t0,Z,g1,g2];rfl⟩
theorem xX (k N h:Y)(hh:0<h)(L:U T)(i:Sts L)(t:T)(G:Tp N t)(hN:N+30000<1000000000000000000)(D n:Md):
  ∃md a m g,Tp (N+20000) g/\Run (PL L) h (wN L) a m/\(∀x,m.getD x 0=0)/\a.length<=720/\C (k+2) 359 [(.d,t),(D,.lst L),(n,nI h)]=.ok ((md,.lst<|a.map bL),[(.d,g)]):=by
 obtain⟨rk,o⟩:=Bo i;have hn:=i.len;have c0:=oj (C<|k+1) 11 L i.st [J,O (.s,.lst L),J,J,J,J,J,J,J,J,J,J] (λ_=>rfl) λ_=>rfl;have t0:aO (L.map λu=>((.s,.int (wOf u)):W))=(wN L).map nI:=by rw[fQ,xa i]
 have hs:=CK i
 obtain⟨η',lp,a,m,g,w1,w2,o3,p,v,w,z,A,b,a1,a2,a3,a4,rfl⟩:=pH (c:=evT (C<|k+1) (.q [3] []) OC) (f:=evSs (C<|k+1) OB)
  (λr H=>∃(l:U Y) (a:U<|U<|Y×Y) (t:T) (D n:Md) (p v w z A b:j W),r=bc l/\l.length=L.length/\(∀x,l.getD x 0<=1000)/\a.length+bc l<=720/\Tp (N+25 * a.length) t/\Run (PL L) h (wN L) a l/\H=[O (.d,t),O (D,.lst L),O (n,nI h),O (.o .s,.lst<|l.map nI),O (.o .s,.lst<|a.map bL),p,v,w,z,A,b,J])
  (λH=>∃(a:U<|U<|Y×Y) (m:U Y) (g:T) (w1 w2 o3 p v w z A b:j W),Tp (N+20000) g/\Run (PL L) h (wN L) a m/\(∀x,m.getD x 0=0)/\a.length<=720/\H=[O (.d,g),w1,w2,o3,O (.o .s,.lst<|a.map bL),p,v,w,z,A,b,J])
  uH (bc<|wN L) [O (.d,t),O (.s,.lst L),O (n,nI h),O (.o .s,.lst<|(wN L).map nI),O (.o .s,.lst []),J,J,J,J,J,J,J] (by show _<1000000000000;lia)
  ⟨wN L,[],t,.s,n,J,J,J,J,J,J,rfl,bP L,wo i,by simp;lia,tm G<|by simp,.nil _,rfl⟩
  (by
   rintro r H ⟨l,a,t,D,n,p,v,w,z,A,b,hr,I,hx,hb,G,rr,he⟩;subst he;have e1:=cB l;have e2:=eD l;by_cases h0:bc l=0
   .left;have d:decide (((bc l:Y):Int)>0)=false:=QP (by lia);exact⟨_,by simp_all only[e1,e2,d];rfl,a,l,t,_,_,_,_,_,_,_,_,_,tm G<|by lia,rr,kn h0,by lia,rfl⟩
   .right;have d:decide (((bc l:Y):Int)>0)=true:=QE (by lia);have M:can (PL L) l≠[]:=λe=>h0 (lY (xY o I e));obtain⟨g,bt,Q,Z,o5',o6',o7',o8',o9',F,P,x,hp,e⟩:=E1 k (N+25 * a.length) h hh L i l I hx M t G (by lia) a (by lia) p v w z A b D n;have al:=x.all;have el:(a++[bt]).length=a.length+1:=by rw[Kk];rfl
    exact⟨_,_,bc<|cK bt l,by simp_all only[e1,e2,d],e,by lia,cK bt l,a++[bt],g,Q,Z,o5',o6',o7',o8',o9',F,rfl,by rw[x.len,I],λy=>Ky (x.le y)<|hx y,by rw[el];lia,tm P<|by rw[el];lia,rr.snoc x,rfl⟩)
 exact⟨_,a,m,g,a1,a2,a3,a4,by rw[d7,x_run _ _ _ rfl];simp_all only[aQ,c0,t0,lp];rfl⟩
def foO {a b:Type}(step:a->b->j a):a->U b->j a
|s,[]=>O s
|s,x::r=>(step s x).bind λc=>foO step c r
def RsO {b:Type}(R:b->Env->Prop)(z:Fl):j b->Prop
|some s=>∃a,z=.nx a/\R s a
|none=>∃a,z=.rt (.d,.bl JY) a
theorem jv {i k:Type}{tg:U Y}{f:Env->Fl}{g:k->U W}(R:i->Env->Prop)(step:i->k->j i):∀(c:U k) (s:i) (a:Env),(∀s x a,x∈c->R s a->∃b,aJ tg (g x) a=O b/\RsO R (f b) (step s x))->R s a->RsO R (aY tg f (c.map g) a) (foO step s c)
|[],s,a,_,r=>⟨a,rfl,r⟩
| x::c,s,a,h,r=>by
 obtain⟨b,e,y⟩:=h s x a Ka r;have l:aY tg f ((x::c).map g) a=Fl.turn (f b) (aY tg f (c.map g)):=by rw[Ku];show Fl.of a (ofO<|aJ tg (g x) a) _=_;rw[e];rfl
 rw[l];show RsO R _<|(step s x).bind _;cases e2:step s x with
 |none=>rw[e2] at y;obtain⟨d,y⟩:=y;rw[y];exact⟨d,rfl⟩
 |some n=>rw[e2] at y;obtain⟨d,y,m⟩:=y;rw[y];exact jv R step c n d (λs x a hx=>h s x a<|Ke _ hx) m
theorem fv {c:Type}{tg:U Y}{f:Env->Fl}{g:c->U W}{x:c}{ts:U c}{d a b:Env}{w:W}(h:f a=.rt w b)(e:aJ tg (g x) d=O a):aY tg f ((x::ts).map g) d=.rt w b:=by rw[Ku];show Fl.of _ (ofO<|aJ tg (g x) d) _=_;rw[e];show Fl.turn (f a) _=_;rw[h];rfl
noncomputable def dl (n:Y):T->j (Y×Y)
|.tup [.int a,.int b]=>if 0<=a/\a<(n:Int)/\1<=b then O (a.toNat,b.toNat) else J
|_=>J
theorem n8 {n:Y}{t:T}{x:Y×Y}(h:dl n t=O x):t=cT x/\x.1<n/\1<=x.2:=by
 unfold dl at h;split at h
 .rename_i a b;split at h
  .rename_i c;cases h;refine⟨?_,by show a.toNat<n;lia,by show 1<=b.toNat;lia⟩;show T.tup [.int a,.int b]=T.tup [.int (a.toNat:Int),.int (b.toNat:Int)];rw[MF c.1,MF<|by lia]
  .cases h
 .cases h
theorem AR {n:Y}(a b:Int):(dl n<|.tup [.int a,.int b]).isSome=(decide (0<=a)&&(decide (a<(n:Int))&&decide (b >= 1))):=by show(if 0<=a/\a<(n:Int)/\1<=b then O (a.toNat,b.toNat) else J).isSome=_;by_cases c:0<=a<;>by_cases d:a<(n:Int)<;>by_cases e:1<=b<;>simp[c,d,e]
theorem Au (n:Y)(t:T)(h:rOk t=JZ)(c:∀a,t≠.tup a)(m:Md):C (n+1) 265 [(m,t)]=.ok ((.d,.bl JY),[]):=by
 rw[dv,x_run _ _ _ rfl];cases t with
 |int i=>simp_all only[aD,FL]
 |bl b=>simp_all only[aD,Gg]
 |non=>simp_all only[aD,Bb]
 |str x=>simp_all only[aD,FF]
 |tup a=>exact QL rfl (c a)
 |lst a=>simp_all only[aD,HP]
 |_=>cases h
theorem oo {d:U T}(h:∀a b,d≠[a,b]):(((d.length:Y):Int)==2)=false:=by
 cases d with
 |nil=>rfl
 | cons a r =>
  cases r with
  |nil=>rfl
  |cons b r=>
   cases r with
   |nil=>exact QL rfl (h a b)
   |cons c r=>exact beq_eq_false_iff_ne.mpr<|by rw[Ki,Ki,Ki];lia
theorem wc {n:Y}{c:U T}(h:∀a b,c≠[a,b]):dl n (.tup c)=none:=by
 unfold dl;split
 .rename_i a b e;cases e;exact QL rfl (h _ _)
 .rfl
theorem AB {n:Y}{t:T}(h:∀a,t≠.tup a):dl n t=none:=by
 unfold dl;split
 .exact QL rfl (h _)
 .rfl
theorem AD {n:Y}{a b:T}(h:(isN a&&isN b)=JY):dl n (.tup [a,b])=none:=by
 unfold dl;split
 .rename_i x y e;cases e;cases h
 .rfl
theorem wQ (k n:Y)(t:T)(h:rOk t=JZ)(F G:Md):C (k+3) 302 [(F,t),(G,nI n)]=.ok ((.d,.bl (dl n t).isSome),[]):=by
 rw[fE,x_run _ _ _ rfl];by_cases s:∃f,t=.tup f
 .obtain ⟨f,rfl⟩:=s;have o:=rOks_all.mp h;have e1:=λm=>oJ k f o m;by_cases r:∃a b,f=[a,b]
  .obtain ⟨a,b,rfl⟩:=r;have p:((([a,b].length:Y):Int)==2)=true:=rfl;have z:([a,b].map isN).all id=(isN a&&isN b):=by simp
   rw[z] at e1;cases g:isN a&&isN b with
   |false=>rw[g] at e1;rw[AD g];simp_all only[aU,e1,Lo]
   |true=>rw[g] at e1;rw[Kt] at g;obtain⟨i,rfl⟩:=fY g.1;obtain⟨c,rfl⟩:=fY g.2;have A:∀x y:T,atI [x,y] 0=O x:=λx y=>at0 _ _;have D:∀x y:T,atI [x,y] 1=O y:=λx y=>at1 _ _ _;rw[AR];by_cases u:0<=i<;>by_cases v:i<(n:Int)<;>by_cases w:c >= 1<;>simp_all only[aU,e1,p,A,D,u,v,w,decide_true,Q1,ND,P8,LS,M3]
  .have l:∀ a b,f≠[a,b]:=fun a b e=>r ⟨a,b,e⟩;have p:=oo l;rw[wc l];cases g:(f.map isN).all id with
   |false=>rw[g] at e1;simp_all only[aU,e1,Lo]
   |true=>rw[g] at e1;simp_all only[aU,e1,p,Lo]
 .have l:∀ f,t≠.tup f:=fun f e=>s ⟨f,e⟩;have e1:=λm=>Au (k+1) t h l m;rw[AB l];simp_all only[aU,e1,Lo]
theorem iW (k:Y)(t:T)(h:rOk t=JZ)(m:Md):C (k+1) 272 [(m,t)]=.ok ((.d,.bl<|isN t),[]):=by
 rw[eC,x_run _ _ _ rfl];cases t with
 |int i=>simp_all only[aG,EK,Bg,isN]
 |bl b=>simp_all only[aG,IP,Dt,isN]
 |non=>simp_all only[aG,E3,E8,isN]
 |str x=>simp_all only[aG,Fw,GO,isN]
 |tup a=>simp_all only[aG,FI,FN,isN]
 |lst a=>simp_all only[aG,GU,EZ,isN]
 |_=>cases h
theorem ql (k n:Y)(t:T)(h:rOk t=JZ)(I L:Md):C (k+2) 303 [(I,nI n),(L,t)]=.ok ((.d,.bl (dl n t).isSome),[]):=by
 rw[dj,x_run _ _ _ rfl];by_cases z:∃g,t=.tup g
 .obtain ⟨g,rfl⟩:=z;have p:=rOks_all.mp h;by_cases v:∃a b,g=[a,b]
  .obtain ⟨a,b,rfl⟩:=v;have r:(!((([a,b].length:Y):Int)==2))=false:=rfl;have e1:=λm=>iW k a (p a Ka) m;have e2:=λm=>iW k b (p b (Ke _ Ka)) m;have s:∀x y:T,atI [x,y] 0=O x:=λx y=>at0 _ _;have u:∀x y:T,atI [x,y] 1=O y:=λx y=>at1 _ _ _;cases l:isN a&&isN b with
   | false =>
    rw[AD l];cases w:isN a with
    |false=>rw[w] at e1;simp_all only[ai,nE,r,s,u,e1,Lo]
    |true=>rw[w] at e1 l;have H:isN b=false:=l;rw[H] at e2;simp_all only[ai,nE,r,s,u,e1,e2,Lo]
   |true=>
    rw[Kt] at l;obtain⟨i,rfl⟩:=fY l.1;obtain⟨f,rfl⟩:=fY l.2;rw[l.1] at e1;rw[l.2] at e2;have G:decide (f>0)=decide (f >= 1):=by by_cases c:f>0<;>simp[c]<;>lia
    rw[AR];by_cases A:0<=i<;>by_cases D:i<(n:Int)<;>by_cases F:f >= 1<;>simp_all only[ai,nE,r,s,u,e1,e2,G,A,D,F,decide_true,Q1,ND,P8,LS,M3]
  .have o:∀ a b,g≠[a,b]:=fun a b e=>v ⟨a,b,e⟩;have r:(!(((g.length:Y):Int)==2))=true:=by rw[oo o];rfl
   rw[wc o];simp_all only[ai,nE,r,Lo]
 .have o:∀ g,t≠.tup g:=fun g e=>z ⟨g,e⟩;rw[AB o];cases t with
  |int i=>simp_all only[ai,FL,Lo]
  |bl b=>simp_all only[ai,Gg,Lo]
  |non=>simp_all only[ai,Bb,Lo]
  |str x=>simp_all only[ai,FF,Lo]
  |tup g=>exact QL rfl (o g)
  |lst g=>simp_all only[ai,HP,Lo]
  |_=>cases h
def dls (n:Y):U T->j (U<|Y×Y)
|[]=>O []
|t::r=>(dl n t).bind λx=>(dls n r).map (x::·)
theorem gV {n:Y}:∀{a:U T} {b:U<|Y×Y},dls n a=O b->a=b.map cT/\∀x∈b,x.1<n/\1<=x.2
|[],b,h=>by cases h;exact⟨rfl,λ_ z=>nomatch z⟩
| t::r,b,h=>by
 unfold dls at h;cases e:dl n t with
 |none=>rw[e] at h;cases h
 | some x =>
  cases e2:dls n r with
  |none=>rw[e,e2] at h;cases h
  |some l=>rw[e,e2] at h;cases h;obtain⟨f,g,i⟩:=n8 e;obtain⟨c,d⟩:=gV e2;exact⟨by rw[Ku,<- f,<- c],λy k=>(Kg.mp k).elim (λe=>e ▸ ⟨g,i⟩)<|d y⟩
theorem oq {n:Y}:∀a:U T,(a.map λt=>(dl n t).isSome).all id=(dls n a).isSome
|[]=>rfl
|t::r=>by
 rw[Ku,N1,oq r,show dls n (t::r)=(dl n t).bind λx=>(dls n r).map (x::·) from rfl];cases dl n t with
 |none=>rfl
 |some x=>cases dls n r<;>rfl
noncomputable def asc (b:U<|Y×Y):QJ:=decide ((b.map (·.1)).Pairwise (· < ·))
def gd (n h:Y):T->j (U<|Y×Y)
|.lst a=>(dls n a).bind λb=>if(asc b&&decide (smB b<=h))=JZ then O b else J
|_=>J
theorem kr {x:Int}:∀{l:U Int},l.Pairwise (· < ·)->x ∉ l->(insI x l).Pairwise (· < ·)
|[],_,_=>OP _ _
| y::l,h,hx=>by
 have b:=Ls.mp h;have d:x≠y:=λe=>hx<|e ▸ Ka;unfold insI;split
 .rename_i c;refine Ls.mpr ⟨λz a=>?_,h⟩;rcases Kg.mp a with rfl|a
  .lia
  .have:=b.1 z a;lia
 .rename_i c;refine Ls.mpr ⟨λz a=>?_,kr b.2 λz=>hx (Ke _ z)⟩;rcases hZ a with rfl|a
  .lia
  .exact b.1 z a
theorem iS:∀{l:U Int},l.Nodup->(sortI l).Pairwise (· < ·)
|[],_=>.nil
|x::l,h=>kr (iS (K1.mp h).2) λz=>(K1.mp h).1<|dG z
theorem n6:∀(l:U Int) {p:U Int},p.Nodup->(l.foldl addZ p).Nodup
|[],_,h=>h
| a::l,p,h=>by
 rw[Ny];refine n6 l ?_;unfold addZ;split
 .exact h
 .rename_i d
  exact P1.mpr ⟨h,OP _ _,λf b g c e=>by
   rw[KA.mp c] at e;exact d<|e ▸ b⟩
theorem gq:∀a b:U Int,eqTs (a.map T.int) (b.map T.int)=decide (a=b)
|[],[]=>rfl
|[],_::_=>rfl
|_::_,[]=>rfl
|a::as,b::bs=>by show((a==b)&&eqTs (as.map T.int) (bs.map T.int))=_;rw[gq as bs];by_cases c:a=b<;>by_cases d:as=bs<;>simp[c,d]
theorem eJ (l:U Y):l.map nI=(l.map λ(i:Y)=>(i:Int)).map T.int:=by rw[KU];rfl
theorem pA (l:U Int):decide (dp (.lst<|l.map T.int)<=64)=true:=QE (by
 have:∀l:U Int,dps (l.map T.int)=0:=by
  intro l;induction l with
  |nil=>rfl
  |cons a l b=>rw[Ku];unfold dps;rw[b];rfl
 unfold dp;rw[this];lia)
theorem A8 (l:U Y)(f:l.length<64)(m m':Md):∃c:U Int,oSem .sortedSet JY [(m,.lst<|l.map nI)]=O (.d,.lst<|c.map T.int)/\∀m' a,oSem .eq JY [(m',.lst<|l.map nI),(a,.lst<|c.map T.int)]=O (.d,.bl<|decide (l.Pairwise (· < ·))):=by
 refine⟨sortI<|(l.map λ(i:Y)=>(i:Int)).foldl addZ [],?_,λm' a=>?_⟩
 .rw [dh,cB];show(if decide ((l.map λ(i:Y)=>(i:Int)).length<64)=JZ then _ else J)=_;rw[QG<|QE<|by rw[J6];exact f]
 .rw [eJ];show(if(decide (dp (.lst ((l.map λ(i:Y)=>(i:Int)).map T.int))<=64)&&decide (dp (.lst ((sortI ((l.map λ(i:Y)=>(i:Int)).foldl addZ [])).map T.int))<=64))=JZ then O ((.d,.bl (eqTs ((l.map λ(i:Y)=>(i:Int)).map T.int) ((sortI ((l.map λ(i:Y)=>(i:Int)).foldl addZ [])).map T.int))):W) else J)=_;rw[pA,pA,gq]
  have b:((l.map λ(i:Y)=>(i:Int))=sortI ((l.map λ(i:Y)=>(i:Int)).foldl addZ [])) ↔ l.Pairwise (· < ·):=by
   constructor
   .intro e;have:=iS<|n6 (l.map λ(i:Y)=>(i:Int)) (p:=[]) .nil;rw[<- e] at this;exact(M8.mp this).imp λz=>by lia
   .intro h;have hp:(l.map λ(i:Y)=>(i:Int)).Pairwise (· < ·):=M8.mpr (h.imp λz=>by lia);rw[gB _ [] hp,Lv,gm _ hp]
  show O ((Md.d,T.bl<|decide _):W)=_;rw[decide_eq_decide.mpr b]
theorem zT (k h n:Y)(t:T)(N:rOk t=JZ)(hl:∀a,t=.lst a->a.length<64)(m0 m1 m2:Md):C (k+4) 357 [(m0,t),(m1,nI n),(m2,nI h)]=.ok ((.d,.bl (gd n h t).isSome),[]):=by
 rw[gW,x_run _ _ _ rfl];cases t with
 | lst a =>
  have A:=rOks_all.mp N
  have p:∀c f g l,az [4] (bE (evE (C (k+3)) (.call 302 [.var 4,.var 1]))) (a.map λt=>[((.s,t):W)]) [c,O (f,nI n),g,l,J,J,J] []=.ok ([]++a.map (λt=>((.d,.bl (dl n t).isSome):W)),[c,O (f,nI n),g,l,J,J,J]):=λc f g l=>aF (λt=>((.d,.bl (dl n t).isSome):W)) a [] λt z=>⟨_,[c,O (f,nI n),g,l,O (.s,t),J,J],rfl,by
   have e:=λm m'=>wQ k n t (A t z) m m';simp_all only[e],rfl⟩
  have v:=bT (λt=>(dl n t).isSome) a;have o:=oq (n:=n) a;have L:gd n h (.lst a)=(dls n a).bind λb=>if(asc b&&decide (smB b<=h))=JZ then O b else none:=rfl;rw[L];cases e:dls n a with
  |none=>
   have o:(a.map λt=>(dl n t).isSome).all id=false:=by rw[o,e];rfl
   show _=Res.ok ((Md.d,T.bl JY),[]);simp_all only[aH,dQ,p,v,o,bQ]
  | some b =>
   have o:(a.map λt=>(dl n t).isSome).all id=true:=by rw[o,e];rfl
   clear L;obtain⟨rfl,hb⟩:=gV e;have y:b.length<64:=by have:=hl _ rfl;rwa[J6] at this
   have w:∀c f g l,az [5] (bE (evE (C (k+3)) (.op .ix JY [.var 5,.cst (.int 0)]))) (b.map λq=>[((.s,cT q):W)]) [c,f,g,l,J,J,J] []=.ok ([]++b.map (λq=>((.s,nI q.1):W)),[c,f,g,l,J,J,J]):=λc f g l=>aF (λq=>((.s,nI q.1):W)) b [] λq z=>⟨_,[c,f,g,l,J,O (.s,cT q),J],rfl,by simp_all only[f9],rfl⟩;have H:∀c f g l,az [6] (bE (evE (C (k+3)) (.op .ix JY [.var 6,.cst (.int 1)]))) (b.map λq=>[((.s,cT q):W)]) [c,f,g,l,J,J,J] []=.ok ([]++b.map (λq=>((.s,nI q.2):W)),[c,f,g,l,J,J,J]):=λc f g l=>aF (λq=>((.s,nI q.2):W)) b [] λq z=>⟨_,[c,f,g,l,J,J,O (.s,cT q)],rfl,by simp_all only[lN],rfl⟩;have D:=AQ b;have Q:=AY b;obtain⟨ms,F,r⟩:=A8 (b.map (·.1)) (by rw[J6];exact y) .s .s;have Z:=cB<|b.map (·.2);have t8:=eD<|b.map (·.2);have u:=fX b;rw[u] at p;have I:asc b=decide ((b.map (·.1)).Pairwise (· < ·)):=rfl;have P:((bc (b.map (·.2)):Y):Int)=((smB b:Y):Int):=rfl;cases hp:asc b with
   |false=>rw[<- I,hp] at r;rw[show((O b).bind λb=>if(asc b&&decide (smB b<=h))=JZ then O b else J).isSome=JY by show(if(asc b&&decide (smB b<=h))=JZ then O b else J).isSome=JY;rw[hp];rfl];simp_all only[aH,dQ,u,p,w,v,o,bQ,D,F,r]
   | true =>
    rw[<- I,hp] at r;by_cases M:smB b<=h
    .have G:decide (((smB b:Y):Int)<=(h:Int))=true:=QE (by lia);rw[show((O b).bind λb=>if(asc b&&decide (smB b<=h))=JZ then O b else J).isSome=JZ by show(if(asc b&&decide (smB b<=h))=JZ then O b else J).isSome=JZ;rw[hp,QE M];rfl];simp_all only[aH,dQ,u,p,w,H,v,o,bQ,D,F,r,Q,Z,t8,P,G]
    .have G:decide (((smB b:Y):Int)<=(h:Int))=false:=QP (by lia);rw[show((O b).bind λb=>if(asc b&&decide (smB b<=h))=JZ then O b else J).isSome=JY by show(if(asc b&&decide (smB b<=h))=JZ then O b else J).isSome=JY;rw[hp,QP M];rfl];simp_all only[aH,dQ,u,p,w,H,v,o,bQ,D,F,r,Q,Z,t8,P,G]
 |int i=>show _=Res.ok ((Md.d,T.bl JY),[]);simp_all only[aH,zP]
 |bl b=>show _=Res.ok ((Md.d,T.bl JY),[]);simp_all only[aH,zv]
 |non=>show _=Res.ok ((Md.d,T.bl JY),[]);simp_all only[aH,rP]
 |str x=>show _=Res.ok ((Md.d,T.bl JY),[]);simp_all only[aH,xJ]
 |tup a=>show _=Res.ok ((Md.d,T.bl JY),[]);simp_all only[aH,uh]
 |_=>cases N
noncomputable def fO:U (Y×Y)->U Int->U Int
|[],l=>l
|x::b,l=>fO b<|l.set x.1<|l.getD x.1 0-(x.2:Int)
theorem eg:∀(b:U<|Y×Y) (l:U Int),(fO b l).length=l.length
|[],_=>rfl
|x::b,l=>by rw[fO,eg b,KO]
noncomputable def zr (P:Y->U Y)(l:U Int)(c:Y):QJ:=(P c).all λp=>l.getD p 0==0
def zrs (P:Y->U Y)(l:U Int)(b:U<|Y×Y):QJ:=b.all λx=>zr P l x.1
theorem ud {l:U Int}{i:Y}(h:i<l.length):atI (l.map T.int) (i:Int)=O (.int<|l.getD i 0):=atN rfl (by rw[Kz,Kf,Kj h];rfl)
theorem Bf {l:U Int}{i:Y}(h:i<l.length):ixN (l.map T.int).length (i:Int)=O i:=by rw[J6,ixN,QG<|by lia,QG<|by lia];rfl
theorem yJ (l:U Int)(i:Y)(v:Int):(l.map T.int).set i (.int v)=(l.set i v).map T.int:=by rw[N7]
theorem ED (k:Y)(L:U T)(F:Sts L)(l:U Int)(H:l.length=L.length)(x:Y×Y)(p:x.1<L.length)(y z A:j W)(M:Md):
  ∃m,evSs (C k) I1 [O (M,.lst L),y,z,O (.o .s,.lst<|l.map T.int),A,O (.s,cT x),J,J,J]=(if zr (PL L) l x.1 then Fl.nx else Fl.rt (.d,.bl JY)) [O (m,.lst L),y,z,O (.o .s,.lst<|l.map T.int),A,O (.s,cT x),J,J,J]:=by
 obtain⟨a,b,w,e1,e2,e3⟩:=pR F p;have h:=mr p;rw[e1] at h;have u:=cN<|PL L x.1
 have n:∀f g,az [7] (bE (evE (C k) (.op .ne JY [.op .ix JY [.var 3,.var 7],.cst (.int 0)]))) ((PL L x.1).map λc=>[((.s,nI c):W)]) [f,J,J,O (.s,.lst (l.map T.int)),J,g,J,J,J] []=.ok ([]++(PL L x.1).map (λc=>((.d,.bl (!(l.getD c 0==0))):W)),[f,J,J,O (.s,.lst (l.map T.int)),J,g,J,J,J]):=λf g=>aF (λc=>((.d,.bl<|!(l.getD c 0==0)):W)) (PL L x.1) [] λc G=>⟨_,[f,J,J,O (.s,.lst<|l.map T.int),J,g,J,O (.s,nI c),J],rfl,by
  have D:=ud (l:=l) (i:=c) (by rw[H];exact e2 c G);simp_all only[D],rfl⟩
 have v:=bT (λc=>!(l.getD c 0==0))<|PL L x.1
 have e:((PL L x.1).map λc=>!(l.getD c 0==0)).any id=!(zr (PL L) l x.1):=by
  unfold zr;generalize PL L x.1=t;induction t with
  |nil=>rfl
  |cons c t I=>rw[Ku,M1,I,N1];cases(l.getD c 0==0)<;>rfl
 cases r:zr (PL L) l x.1 with
 |true=>rw[r] at e;exact⟨_,by simp_all only[f9,h,nC,u,n,v,bQ,e,oE];rfl⟩
 |false=>rw[r] at e;exact⟨_,by simp_all only[f9,h,nC,u,n,v,bQ,e,oE];rfl⟩
theorem i1s (k:Y)(L:U T)(u:Sts L)(l:U Int)(w:l.length=L.length)(p r t:j W):∀(b:U<|Y×Y),(∀x∈b,x.1<L.length)->∀(h:Md) (n:j W),
 ∃a c,aY [5] (evSs (C k) I1) (b.map λq=>[((.s,cT q):W)]) [O (h,.lst L),p,r,O (.o .s,.lst<|l.map T.int),t,n,J,J,J]=(if zrs (PL L) l b then Fl.nx else Fl.rt (.d,.bl JY)) [O (a,.lst L),p,r,O (.o .s,.lst<|l.map T.int),t,c,J,J,J]
|[],_,h,n=>⟨h,n,rfl⟩
| x::b,v,h,n=>by
 obtain⟨a,e⟩:=ED k L u l w x (v x Ka) p r t h;obtain⟨i,c,D⟩:=i1s k L u l w p r t b (λy A=>v y<|Ke _ A) a<|O (.s,cT x);have m:zrs (PL L) l (x::b)=(zr (PL L) l x.1&&zrs (PL L) l b):=rfl;cases z:zr (PL L) l x.1 with
 |true=>rw[z] at e m;rw[m,LS];refine⟨i,c,(cF (tg:=[5]) (f:=evSs (C k) I1) (g:=λ(q:Y×Y)=>[((.s,cT q):W)]) (x:=x) (ts:=b) e rfl).trans D⟩
 |false=>rw[z] at e m;rw[m];refine⟨a,O (.s,cT x),?_⟩;exact fv (tg:=[5]) (f:=evSs (C k) I1) (g:=λ(q:Y×Y)=>[((.s,cT q):W)]) (x:=x) (ts:=b) e rfl
theorem i2s (k:Y)(c d h i:j W):∀(b:U<|Y×Y) (l:U Int) (m:j W),(∀x∈b,x.1<l.length) ->
 ∃a,aY [5] (evSs (C k) I2) (b.map λq=>[((.s,cT q):W)]) [c,d,h,O (.o .s,.lst<|l.map T.int),i,m,J,J,J]=.nx [c,d,h,O (.o .s,.lst<|(fO b l).map T.int),i,a,J,J,J]
|[],l,m,_=>⟨m,rfl⟩
| x::b,l,m,n=>by
 have p:=n x Ka;obtain⟨a,y⟩:=i2s k c d h i b (l.set x.1<|l.getD x.1 0-(x.2:Int)) (O (.s,cT x)) λr w=>by rw[KO];exact n r<|Ke _ w
 have t:=ud p;have u:=Bf p;have v:=yJ l x.1<|l.getD x.1 0-(x.2:Int);have e:evSs (C k) I2 [c,d,h,O (.o .s,.lst (l.map T.int)),i,O (.s,cT x),J,J,J]=.nx [c,d,h,O (.o .s,.lst ((l.set x.1 (l.getD x.1 0-(x.2:Int))).map T.int)),i,O (.s,cT x),J,J,J]:=by simp_all only[f9,lN,t,u,v]
 exact⟨a,(cF (tg:=[5]) (f:=evSs (C k) I2) (g:=λ(q:Y×Y)=>[((.s,cT q):W)]) (x:=x) (ts:=b) e rfl).trans y⟩
def stP (L:U T)(h:Y)(l:U Int)(t:T):j (U Int):=(gd L.length h t).bind λb=>if zrs (PL L) l b=JZ then O (fO b l) else J
theorem jX {n h:Y}{t:T}{b:U<|Y×Y}(e:gd n h t=O b):t=bL b/\(∀x∈b,x.1<n/\1<=x.2)/\(b.map (·.1)).Pairwise (· < ·)/\smB b<=h:=by
 cases t with
 | lst d =>
  have e:((dls n d).bind λb=>if(asc b&&decide (smB b<=h))=JZ then O b else J)=O b:=e;cases e1:dls n d with
  |none=>rw[e1] at e;cases e
  | some a =>
   rw[e1] at e;have e:(if(asc a&&decide (smB a<=h))=JZ then O a else J)=O b:=e;split at e
   .rename_i c;cases e;rw[Kt] at c;obtain⟨rfl,f⟩:=gV e1;exact⟨rfl,f,QR c.1,QR c.2⟩
   .cases e
 |_=>cases e
abbrev EP (L:U T)(h:Y)(e:j W)(l:U Int)(f:Env):Prop:=∃(a b:Md) (c d:j W),l.length=L.length/\f=[O (a,.lst L),O (b,nI h),e,O (.o .s,.lst<|l.map T.int),c,d,J,J,J]
theorem BJ (k h:Y)(L:U T)(H:Sts L)(l:U Int)(n:l.length=L.length)(t:T)(I:rOk t=JZ)(i:∀G,t=.lst G->G.length<64)(g A:j W)(z u:Md):
  RsO (EP L h g) (evSs (C<|k+4) IT [O (z,.lst L),O (u,nI h),g,O (.o .s,.lst<|l.map T.int),O (.s,t),A,J,J,J]) (stP L h l t):=by
 have e1:=λm f c=>zT k h L.length t I i m f c;unfold stP;cases e:gd L.length h t with
 |none=>
  have e1:∀m f c,C (k+4) 357 [(m,t),(f,nI L.length),(c,nI h)]=.ok ((.d,.bl JY),[]):=λm f c=>by rw[e1,e];rfl
  exact⟨_,by simp_all only[e1];rfl⟩
 | some b =>
  have e1:∀m f c,C (k+4) 357 [(m,t),(f,nI L.length),(c,nI h)]=.ok ((.d,.bl JZ),[]):=λm f c=>by rw[e1,e];rfl
  obtain⟨rfl,w,_,_⟩:=jX e;have F:=fX b;obtain⟨r,v,a⟩:=i1s (k+4) L H l n (O (u,nI h)) g (O (.s,bL b)) b (λx hx=>(w x hx).1) z A;show RsO (EP L h g) _<|if zrs (PL L) l b=JZ then O (fO b l) else J;cases y:zrs (PL L) l b with
  |false=>rw[y] at a;have a:aY [5] (evSs (C (k+4)) I1) (b.map λq=>[((.s,cT q):W)]) _=Fl.rt (.d,.bl JY) _:=a;exact⟨_,by simp_all only[e1,F,a];rfl⟩
  |true=>
   rw[y] at a;have a:aY [5] (evSs (C (k+4)) I1) (b.map λq=>[((.s,cT q):W)]) _=Fl.nx _:=a;obtain⟨D,p⟩:=i2s (k+4) (O (r,.lst L)) (O (u,nI h)) g (O (.s,bL b)) b l v λx hx=>by rw[n];exact(w x hx).1
   exact⟨_,by simp_all only[e1,F,a,p];rfl,_,_,_,_,by rw[eg];exact n,rfl⟩
def wI (L:U T):U Int:=(wN L).map λ(i:Y)=>(i:Int)
def spP (L:U T)(h:Y):T->QJ
|.lst a=>match foO (stP L h) (wI L) a with
 |some l=>l.all (·==0)
 |none=>JY
|_=>JY
def Bx (X:T):Prop:=rOk X=JZ/\∀a,X=.lst a->a.length<800/\∀t∈a,∀b,t=.lst b->b.length<64
theorem uu (l:U Int):(l.map T.int).map (λt=>[((.s,t):W)])=l.map λi=>[((.s,.int i):W)]:=by rw[KU];rfl
theorem rO (k h:Y)(L:U T)(D:Sts L)(X:T)(F:Bx X)(H n m2:Md):C (k+5) 356 [(H,.lst L),(n,nI h),(m2,X)]=.ok ((.d,.bl<|spP L h X),[]):=by
 rw[c7,x_run _ _ _ rfl];cases X with
 | lst m =>
  have G:=rOks_all.mp F.1;have A:=(F.2 m rfl).2;have c0:=oj (C<|k+4) 6 L D.st [O (.s,.lst L),J,J,J,J,J,J,J,J] (λ_=>rfl) λ_=>rfl;have N:aO (L.map λu=>((.s,.int (wOf u)):W))=(wI L).map T.int:=by rw[fQ,xa D];exact eJ _
  have c:=jv (tg:=[4]) (f:=evSs (C<|k+4) IT) (g:=λ(t:T)=>[((.s,t):W)]) (EP L h<|O (.s,.lst m)) (stP L h) m (wI L) [O (.s,.lst L),O (n,nI h),O (.s,.lst m),O (.o .s,.lst<|(wI L).map T.int),J,J,J,J,J]
   (by rintro l t P hx ⟨H,n,o4,M,I,Z⟩;subst Z;exact⟨_,rfl,BJ k h L D l I t (G t hx) (A t hx) (O (.s,.lst m)) M H n⟩) ⟨_,_,_,_,by rw[wI,J6,bP],rfl⟩
  show _=Res.ok ((Md.d,T.bl (match foO (stP L h) (wI L) m with|some l=>l.all (·==0)|none=>JY)),[]);cases e:foO (stP L h) (wI L) m with
  |none=>rw[e] at c;obtain⟨P,c⟩:=c;simp_all only[aq,dQ,c0,N,c]
  |some l=>
   rw[e] at c;obtain⟨P,c,m0',m1',o4,M,I,rfl⟩:=c;have Q:∀p r v w y z,az [8] (bE (evE (C (k+4)) (.op .eq JY [.var 8,.cst (.int 0)]))) (l.map λi=>[((.s,.int i):W)]) [p,r,v,w,y,z,J,J,J] []=.ok ([]++l.map (λi=>((.d,.bl (i==0)):W)),[p,r,v,w,y,z,J,J,J]):=λp r v w y z=>aF (λi=>((.d,.bl<|i==0):W)) l [] λa hj=>⟨_,[p,r,v,w,y,z,J,J,O (.s,.int a)],rfl,by simp_all only[],rfl⟩;have t2:=bT (λi:Int=>i==0) l;have t4:=uu l;have t3:(l.map λi=>i==0).all id=l.all (·==0):=by rw[O5];rfl
   simp_all only[aq,dQ,c0,N,c,t4,Q,t2,bQ,t3]
 |int i=>show _=Res.ok ((Md.d,T.bl JY),[]);simp_all only[aq,zP]
 |bl b=>show _=Res.ok ((Md.d,T.bl JY),[]);simp_all only[aq,zv]
 |non=>show _=Res.ok ((Md.d,T.bl JY),[]);simp_all only[aq,rP]
 |str x=>show _=Res.ok ((Md.d,T.bl JY),[]);simp_all only[aq,xJ]
 |tup m=>show _=Res.ok ((Md.d,T.bl JY),[]);simp_all only[aq,uh]
 |_=>cases F.1
abbrev SJ:Type:=Int×Y×U (U Y)×U Y
def stJ (n a:Y)(s:SJ)(t:T):j SJ:=(dl n t).bind λx=>if s.1<(x.1:Int) then O ((x.1:Int),s.2.1+x.2,dZ a s.2.2.1 x.1,s.2.2.2.set x.1<|s.2.2.2.getD x.1 0+x.2) else J
noncomputable def iD:Int->U (Y×Y)->QJ
|_,[]=>JZ
|v,x::b=>decide (v<(x.1:Int))&&iD (x.1:Int) b
def ko:Int->U (Y×Y)->Int
|v,[]=>v
|_,x::b=>ko (x.1:Int) b
theorem wx (n a:Y):∀(f:U T) (v:Int) (u:Y) (S:U<|U Y) (c:U Y),foO (stJ n a) (v,u,S,c) f=(dls n f).bind λb=>if iD v b=JZ then O (ko v b,u+smB b,b0 a b S,bZ b c) else J
|[],v,u,S,c=>rfl
| t::r,v,u,S,c=>by
 show(stJ n a (v,u,S,c) t).bind _=((dl n t).bind λx=>(dls n r).map (x::·)).bind _;unfold stJ;cases e:dl n t with
 |none=>rfl
 | some x =>
  show(if v<(x.1:Int) then O ((x.1:Int),u+x.2,dZ a S x.1,c.set x.1<|c.getD x.1 0+x.2) else J).bind (λg=>foO (stJ n a) g r)=((dls n r).map (x::·)).bind _;by_cases d:v<(x.1:Int)
  .rw [QG d];show foO (stJ n a) _ r=_;rw[wx n a r];cases dls n r with
   |none=>rfl
   |some b=>show(if iD (x.1:Int) b=JZ then O (ko (x.1:Int) b,u+x.2+smB b,b0 a b<|dZ a S x.1,bZ b<|c.set x.1<|c.getD x.1 0+x.2) else J)=if(decide (v<(x.1:Int))&&iD (x.1:Int) b)=JZ then O (ko (x.1:Int) b,u+(x.2+smB b),b0 a b<|dZ a S x.1,bZ b<|c.set x.1<|c.getD x.1 0+x.2) else J;rw[QE d,LS,Nat.add_assoc]
  .rw [QH d];show J=_;cases dls n r with
   |none=>rfl
   |some b=>show J=if(decide (v<(x.1:Int))&&iD (x.1:Int) b)=JZ then _ else J;rw[QP d];rfl
theorem ir:∀(b:U<|Y×Y) (v:Int),iD v b=JZ ↔ (∀x∈b,v<(x.1:Int))/\(b.map (·.1)).Pairwise (· < ·)
|[],v=>⟨λ_=>⟨(λ_ z=>nomatch z),.nil⟩,λ_=>rfl⟩
| x::b,v=>by
 show(decide (v<(x.1:Int))&&iD (x.1:Int) b)=JZ ↔ _;rw[Kt,QM,ir b,Ku,Ls];constructor
 .rintro ⟨d,c,e⟩;refine⟨λy a=>?_,λy a=>?_,e⟩
  .rcases Kg.mp a with rfl | a
   .exact d
   .have:=c y a;lia
  .obtain ⟨z,g,rfl⟩:=Kl.mp a;have:=c z g;lia
 .rintro ⟨d,c,e⟩;refine⟨d x Ka,λy a=>?_,e⟩;have:=c y.1<|Lx (f:=λp:Y×Y=>p.1) a;lia
theorem ua (b:U<|Y×Y):iD (-1) b=asc b:=by
 cases h:asc b with
 |true=>exact(ir b _).mpr ⟨λx _=>by lia,QR h⟩
 |false=>
  cases a:iD (-1) b with
  |false=>rfl
  |true=>exact QL ((ir b _).mp a).2<|of_decide_eq_false h
abbrev EJ (L:U T)(a:Y)(h i l:j W)(c:Md)(s:SJ)(m:Env):Prop:=∃(b e f:Md) (g:j W),s.2.2.1.length=L.length/\s.2.2.2.length=L.length/\(∀k:Y,s.1<(k:Int)->(s.2.2.1.getD k []).length<=a) /\
 m=[O (b,.lst L),h,i,O (.d,.lst<|mS s.2.2.1),O (.o .s,.lst<|s.2.2.2.map nI),O (c,nI a),l,O (e,.int s.1),O (f,nI s.2.1),g,J,J,J,J,J,J]
theorem DK (k:Y)(L:U T)(Q:L.length<=12)(a:Y)(P:a<1000)(s:SJ)(z:s.2.2.1.length=L.length)(A:s.2.2.2.length=L.length)(D:∀k:Y,s.1<(k:Int)->(s.2.2.1.getD k []).length<=a)(t:T)(ht:rOk t=JZ)(i l n:j W)(G h H I:Md):
  RsO (EJ L a i l n h) (evSs (C<|k+2) JC [O (G,.lst L),i,l,O (.d,.lst<|mS s.2.2.1),O (.o .s,.lst<|s.2.2.2.map nI),O (h,nI a),n,O (H,.int s.1),O (I,nI s.2.1),O (.s,t),J,J,J,J,J,J]) (stJ L.length a s t):=by
 obtain⟨v,u,S,N⟩:=s;have e1:=λm c=>ql k L.length t ht m c;unfold stJ;cases e:dl L.length t with
 |none=>
  have e1:∀m c,C (k+2) 303 [(m,nI L.length),(c,t)]=.ok ((.d,.bl JY),[]):=λm c=>by rw[e1,e];rfl
  exact⟨_,by simp_all only[e1];rfl⟩
 | some x =>
  obtain⟨rfl,x1,x2⟩:=n8 e;show RsO (EJ L a i l n h) _<|if v<(x.1:Int) then _ else J;by_cases f:v<(x.1:Int)
  .rw [QG f];have Z:=D x.1 f;obtain⟨r,w,y,g⟩:=Hd k L S N a u v x Q z A x1 x2 f (M9 Z P) i l n G h H I;refine⟨_,g,r,w,y,_,by rw[cD];exact z,by rw[KO];exact A,λb F=>?_,rfl⟩;have F:(x.1:Int)<(b:Int):=F;by_cases p:b<S.length
   .rw [eh a S x.1 b p,QH<|by lia];exact D b<|by show v<_;lia
   .rw [Kf,Lu<|by rw [cD]; lia];exact Kx _
  .rw [QH f];have e1:∀m c,C (k+2) 303 [(m,nI L.length),(c,cT x)]=.ok ((.d,.bl JZ),[]):=λm c=>by rw[e1,e];rfl
   have M:decide ((x.1:Int)<=v)=true:=QE (by lia);exact⟨_,by simp_all only[e1,f9,M];rfl⟩
abbrev ET (L:U T)(h:Y)(l:j W)(S:U<|U Y)(a:U Y)(m:Env):Prop:=∃(b c:Md) (e f g i k:j W),S.length=L.length/\a.length=L.length/\m=[O (b,.lst L),O (c,nI h),l,O (.d,.lst<|mS S),O (.o .s,.lst<|a.map nI),e,f,g,i,k,J,J,J,J,J,J]
theorem Cr (k h:Y)(L:U T)(hn:L.length<=12)(a:Y)(Z:a<1000)(S:U<|U Y)(p:U Y)(N:S.length=L.length)(P:p.length=L.length)(Q:∀k:Y,(S.getD k []).length<=a)(t:T)(G:rOk t=JZ)(r H I w:j W)(u v:Md):
  (match gd L.length h t with
   |some b=>∃n,evSs (C<|k+2) JT [O (u,.lst L),O (v,nI h),r,O (.d,.lst<|mS S),O (.o .s,.lst<|p.map nI),O (.d,nI a),O (.s,t),H,I,w,J,J,J,J,J,J]=.nx n/\ET L h r (b0 a b S) (bZ b p) n
   |none=>∃n,evSs (C<|k+2) JT [O (u,.lst L),O (v,nI h),r,O (.d,.lst<|mS S),O (.o .s,.lst<|p.map nI),O (.d,nI a),O (.s,t),H,I,w,J,J,J,J,J,J]=.rt (.d,.bl JY) n):=by
 cases t with
 | lst m =>
  have D:=rOks_all.mp G
  have l:=jv (tg:=[9]) (f:=evSs (C<|k+2) JC) (g:=λ(t:T)=>[((.s,t):W)]) (EJ L a (O (v,nI h)) r (O (.s,.lst m)) .d) (stJ L.length a) m (-1,0,S,p) [O (u,.lst L),O (v,nI h),r,O (.d,.lst<|mS S),O (.o .s,.lst<|p.map nI),O (.d,nI a),O (.s,.lst m),O (.d,.int (-1)),O (.d,.int 0),w,J,J,J,J,J,J]
   (by rintro s t n hx ⟨u,m7,m8,w,z,A,M,he⟩;subst he;exact⟨_,rfl,DK k L hn a Z s z A M t (D t hx) (O (v,nI h)) r (O (.s,.lst m)) u .d m7 m8⟩) ⟨_,_,_,_,N,P,λc _=>Q c,rfl⟩
  rw[wx] at l;have hg:gd L.length h (.lst m)=(dls L.length m).bind λb=>if(asc b&&decide (smB b<=h))=JZ then O b else none:=rfl;rw[hg];cases e:dls L.length m with
  |none=>rw[e] at l;obtain⟨n,l⟩:=l;exact⟨_,by simp_all only[dQ,l];rfl⟩
  | some b =>
   rw[e] at l;have l:RsO _ _ (if iD (-1) b=JZ then O (ko (-1) b,0+smB b,b0 a b S,bZ b p) else J):=l;rw[ua,LD] at l;show(match (if(asc b&&decide (smB b<=h))=JZ then O b else J) with|some b=>_|none=>_);cases hp:asc b with
   |false=>rw[hp] at l;obtain⟨n,l⟩:=l;exact⟨_,by simp_all only[dQ,l];rfl⟩
   | true =>
    rw[hp] at l;obtain⟨n,l,m0',m7',m8',o9',z,A,_,rfl⟩:=l;by_cases F:smB b<=h
    .rw [QE F];have y:decide (((smB b:Y):Int)>(h:Int))=false:=QP (by lia);exact⟨_,by simp_all only[dQ,l,y];rfl,_,_,_,_,_,_,_,z,A,rfl⟩
    .rw [QP F];have y:decide (((smB b:Y):Int)>(h:Int))=true:=QE (by lia);exact⟨_,by simp_all only[dQ,l,y];rfl⟩
 |int i=>exact⟨_,by simp_all only[zP];rfl⟩
 |bl b=>exact⟨_,by simp_all only[zv];rfl⟩
 |non=>exact⟨_,by simp_all only[rP];rfl⟩
 |str x=>exact⟨_,by simp_all only[xJ];rfl⟩
 |tup m=>exact⟨_,by simp_all only[uh];rfl⟩
 |_=>cases G
def foT (n h:Y):Y->U (U Y)->U Y->U T->j (U (U Y)×U Y)
|_,S,c,[]=>O (S,c)
|a,S,c,t::d=>(gd n h t).bind λb=>foT n h (a+1) (b0 a b S) (bZ b c) d
theorem rg {a:Y}{b:U<|Y×Y}{S:U<|U Y}(h:∀q∈b,q.1<S.length)(nd:(b.map (·.1)).Nodup)(d:∀k:Y,(S.getD k []).length<=a)(k:Y):((b0 a b S).getD k []).length<=a+1:=by
 have:=d k;by_cases hk:k<S.length
 .by_cases c:k∈b.map (·.1)
  .obtain ⟨x,hx,rfl⟩:=Kl.mp c;rw[dE a b S h nd x hx,Kk,KN];lia
  .rw[bG a b S k hk c];lia
 .rw[Kf,Lu<|by rw[eL];lia];exact Kx _
def RT (L:U T)(h:Y)(b:j W)(z:Fl):j (U (U Y)×U Y)->Prop
|some s=>∃a,z=.nx a/\ET L h b s.1 s.2 a
|none=>∃a,z=.rt (.d,.bl JY) a
theorem Js {tg:U Y}{f:Env->Fl}{m:Md}{a:Y}{t:T}{ts:U T}{η η1:Env}(b:aJ tg [((.d,nI a):W),(m,t)] η=O η1):aY tg f (c6 m a (t::ts)) η=Fl.turn (f η1) (aY tg f<|c6 m (a+1) ts):=by show Fl.of η (ofO<|aJ tg [((.d,nI a):W),(m,t)] η) _=_;rw[b];rfl
theorem jts (k h:Y)(L:U T)(I:L.length<=12)(i:j W):∀(ts:U T) (a:Y) (S:U<|U Y) (c:U Y) (l n:Md) (w y p r u:j W),S.length=L.length->c.length=L.length->(∀k:Y,(S.getD k []).length<=a)->a+ts.length<1000->(∀t∈ts,rOk t=JZ) ->
 RT L h i (aY [5,6] (evSs (C<|k+2) JT) (c6 .s a ts) [O (l,.lst L),O (n,nI h),i,O (.d,.lst<|mS S),O (.o .s,.lst<|c.map nI),w,y,p,r,u,J,J,J,J,J,J]) (foT L.length h a S c ts)
|[],a,S,c,l,n,w,y,p,r,u,v,A,_,_,_=>⟨_,rfl,_,_,_,_,_,_,_,v,A,rfl⟩
| t::ts,a,S,c,l,n,w,y,p,r,u,v,A,G,P,H=>by
 rw[Ki] at P;have g:=Cr k h L I a (by lia) S c v A G t (H t Ka) i p r u l n;rw[Js (tg:=[5,6]) (f:=evSs (C<|k+2) JT) (m:=.s) (a:=a) (t:=t) (ts:=ts) (η:=[O (l,.lst L),O (n,nI h),i,O (.d,.lst<|mS S),O (.o .s,.lst<|c.map nI),w,y,p,r,u,J,J,J,J,J,J]) (η1:=[O (l,.lst L),O (n,nI h),i,O (.d,.lst<|mS S),O (.o .s,.lst<|c.map nI),O (.d,nI a),O (.s,t),p,r,u,J,J,J,J,J,J]) rfl];show RT L h i _<|(gd L.length h t).bind _;cases e:gd L.length h t with
 |none=>rw[e] at g;obtain⟨η,g⟩:=g;rw[g];exact⟨η,rfl⟩
 |some b=>rw[e] at g;obtain⟨η,g,D,F,p5,p6,p7,p8,p9,M,N,rfl⟩:=g;rw[g];obtain⟨_,Z,Q,_⟩:=jX e;exact jts k h L I i ts (a+1) (b0 a b S) (bZ b c) D F p5 p6 p7 p8 p9 M N (rg (λx hx=>by rw[v];exact(Z x hx).1) (Q.imp λz=>by lia) G) (by lia) λt ht=>H t<|Ke _ ht
noncomputable def lsN (l:U Y):Y:=l.getLastD 0
def hdN (l:U Y):Y:=l.headD 0
theorem GX {l:U Y}(h:l≠[]):atI (l.map nI) 0=O (nI<|hdN l):=by
 cases l with
 |nil=>exact QL rfl h
 |cons x r=>exact cY (l:=x::r) (m:=0)<|O2 _
theorem FO {l:U Y}(h:l≠[]):atI (l.map nI) (-1)=O (nI<|lsN l):=oC (by
 rw[P0,NL h,lsN,Qn,NL h];rfl)
def bf (S:U<|U Y)(a p:Y):QJ:=decide (lsN (S.getD p [])<hdN (S.getD a []))
theorem Eg (n:Y)(S:U<|U Y)(a p:Y)(D:a<S.length)(hp:p<S.length)(g:S.getD a []≠[])(h:S.getD p []≠[])(r t u v w x y z A c:j W)(f:Md):
  ∃b,evSs (C n) JE [r,t,u,O (.d,.lst<|mS S),v,w,x,y,z,A,O (f,nI a),c,O (.s,nI p),J,J,J]=(if bf S a p then Fl.nx else Fl.rt (.d,.bl JY)) [r,t,u,O (.d,.lst<|mS S),v,w,x,y,z,A,O (b,nI a),c,O (.s,nI p),J,J,J]:=by
 have i:=AE D;have k:=AE hp;have l:=GX g;have m:=FO h;cases o:bf S a p with
 |true=>have e:decide (((hdN (S.getD a []):Y):Int)<=((lsN (S.getD p []):Y):Int))=false:=QP (by have:=QR o;lia);exact⟨_,by simp_all only[i,k,l,m,e];rfl⟩
 |false=>have e:decide (((hdN (S.getD a []):Y):Int)<=((lsN (S.getD p []):Y):Int))=true:=QE (by have:=of_decide_eq_false o;lia);exact⟨_,by simp_all only[i,k,l,m,e];rfl⟩
theorem jes (n:Y)(S:U<|U Y)(a:Y)(H:a<S.length)(I:∀k,k<S.length->S.getD k []≠[])(u v w y z A D F G m:j W):∀(r:U Y),(∀p∈r,p<S.length)->∀(h:Md) (l:j W),
 ∃c i,aY [12] (evSs (C n) JE) (r.map λb=>[((.s,nI b):W)]) [u,v,w,O (.d,.lst<|mS S),y,z,A,D,F,G,O (h,nI a),m,l,J,J,J]=(if r.all (bf S a) then Fl.nx else Fl.rt (.d,.bl JY)) [u,v,w,O (.d,.lst<|mS S),y,z,A,D,F,G,O (c,nI a),m,i,J,J,J]
|[],_,h,l=>⟨h,l,rfl⟩
| p::r,hp,h,l=>by
 have t:=hp p Ka;obtain⟨c,e⟩:=Eg n S a p H t (I a H) (I p t) u v w y z A D F G m h;obtain⟨o,i,M⟩:=jes n S a H I u v w y z A D F G m r (λx hx=>hp x<|Ke _ hx) c<|O (.s,nI p);rw[N1];cases L:bf S a p with
 |true=>rw[L] at e;rw[LS];exact⟨o,i,(cF (tg:=[12]) (f:=evSs (C n) JE) (g:=λ(b:Y)=>[((.s,nI b):W)]) (x:=p) (ts:=r) e rfl).trans M⟩
 |false=>rw[L] at e;exact⟨c,O (.s,nI p),fv (tg:=[12]) (f:=evSs (C n) JE) (g:=λ(b:Y)=>[((.s,nI b):W)]) (x:=p) (ts:=r) e rfl⟩
theorem Cj (n:Y)(L:U T)(D:Sts L)(S:U<|U Y)(x:S.length=L.length)(F:∀k,k<S.length->S.getD k []≠[])(a:Y)(y:a<L.length)(i l m o r t u v w h:j W)(g:Md):
  ∃c e,evSs (C n) JF [i,l,m,O (.d,.lst<|mS S),o,r,t,u,v,w,O (g,nI a),O (.s,L.getD a .non),h,J,J,J]=(if(PL L a).all (bf S a) then Fl.nx else Fl.rt (.d,.bl JY)) [i,l,m,O (.d,.lst<|mS S),o,r,t,u,v,w,O (c,nI a),O (.s,L.getD a .non),e,J,J,J]:=by
 obtain⟨G,H,I,e1,e2,e3⟩:=pR D y;obtain⟨c,e,f⟩:=jes n S a (by rw[x];exact y) F i l m o r t u v w (O (.s,L.getD a .non)) (PL L a) (λp hp=>by rw[x];exact e2 p hp) g h;have A:=cN<|PL L a;rw[e1] at f ⊢;cases z:(PL L a).all (bf S a) with
 |true=>rw[z] at f;have f:aY [12] (evSs (C n) JE) ((PL L a).map λb=>[((.s,nI b):W)]) _=Fl.nx _:=f;exact⟨c,e,by simp_all only[nC,A,f]⟩
 |false=>rw[z] at f;have f:aY [12] (evSs (C n) JE) ((PL L a).map λb=>[((.s,nI b):W)]) _=Fl.rt (.d,.bl JY) _:=f;exact⟨c,e,by simp_all only[nC,A,f]⟩
def fin (L:U T)(S:U<|U Y)(b:U Y):QJ:=b.all λa=>(PL L a).all<|bf S a
theorem jgs (n:Y)(L:U T)(I:Sts L)(S:U<|U Y)(M:S.length=L.length)(Q:∀k,k<S.length->S.getD k []≠[])(v w y z A D F G H:j W):∀(m:U Y),(∀i∈m,i<L.length)->∀(o p h:j W),
 ∃t u l,aY [10,11] (evSs (C n) JF) (m.map λi=>[((.d,nI i):W),(.s,L.getD i .non)]) [v,w,y,O (.d,.lst<|mS S),z,A,D,F,G,H,o,p,h,J,J,J]=(if fin L S m then Fl.nx else Fl.rt (.d,.bl JY)) [v,w,y,O (.d,.lst<|mS S),z,A,D,F,G,H,t,u,l,J,J,J]
|[],_,o,p,h=>⟨o,p,h,rfl⟩
| i::m,P,o,p,h=>by
 obtain⟨r,l,e⟩:=Cj n L I S M Q i (P i Ka) v w y z A D F G H h .d;obtain⟨a,b,c,lp⟩:=jgs n L I S M Q v w y z A D F G H m (λx hx=>P x<|Ke _ hx) (O (r,nI i)) (O (.s,L.getD i .non)) l;have Z:fin L S (i::m)=((PL L i).all (bf S i)&&fin L S m):=rfl;rw[Z];cases N:(PL L i).all (bf S i) with
 |true=>rw[N] at e;rw[LS];exact⟨a,b,c,(cF (tg:=[10,11]) (f:=evSs (C n) JF) (g:=λ(i:Y)=>[((.d,nI i):W),(.s,L.getD i .non)]) (x:=i) (ts:=m) e rfl).trans lp⟩
 |false=>rw[N] at e;exact⟨_,_,_,fv (tg:=[10,11]) (f:=evSs (C n) JF) (g:=λ(i:Y)=>[((.d,nI i):W),(.s,L.getD i .non)]) (x:=i) (ts:=m) e rfl⟩
noncomputable def tk (x:Y):U (Y×Y)->Y
|[]=>0
|y::b=>(if y.1=x then y.2 else 0)+tk x b
def tkS (x:Y):U (U<|Y×Y)->Y
|[]=>0
|b::bs=>tk x b+tkS x bs
theorem lT (x:Y):∀(b:U<|Y×Y) (d:U Y),(∀y∈b,y.1<d.length)->(bZ b d).getD x 0=d.getD x 0+tk x b
|[],_,_=>rfl
|y::b,d,h=>by
 rw[bZ,lT x b _ λz a=>by rw[KO];exact h z<|Ke _ a,aN d y.1 x _<|h y Ka];show _=_+((if y.1=x then y.2 else 0)+tk x b);by_cases e:y.1=x
 .rw[QG e,QG e,e];lia
 .rw[QH e,QH e];lia
theorem qj (l:U Int)(i x:Y)(v:Int)(h:i<l.length):(l.set i v).getD x 0=if i=x then v else l.getD x 0:=by
 rw[Kf,Oz,Kf];by_cases e:i=x
 .subst e;rw[QG rfl,QG rfl,QG h];rfl
 .rw[QH e,QH e]
theorem gE (x:Y):∀(b:U<|Y×Y) (l:U Int),(∀y∈b,y.1<l.length)->(fO b l).getD x 0=l.getD x 0-((tk x b:Y):Int)
|[],l,_=>by show l.getD x 0=l.getD x 0-((0:Y):Int);lia
|y::b,l,h=>by
 rw[fO,gE x b _ λz a=>by rw[KO];exact h z<|Ke _ a,qj l y.1 x _<|h y Ka];show _=_-(((if y.1=x then y.2 else 0)+tk x b:Y):Int);by_cases e:y.1=x
 .rw[QG e,QG e,e];lia
 .rw[QH e,QH e];lia
theorem vm {x:Y}:∀{b:U<|Y×Y},(∀y∈b,1<=y.2)->x∈b.map (·.1)->0<tk x b
|y::b,h,hx=>by
 show 0<(if y.1=x then y.2 else 0)+tk x b;rcases Kg.mp hx with e|e
 .rw[QG e.symm];have:=h y Ka;lia
 .have:=vm (λz a=>h z<|Ke _ a) e;lia
theorem jg {x:Y}:∀{b:U<|Y×Y},x ∉ b.map (·.1)->tk x b=0
|[],_=>rfl
|y::b,h=>by show(if y.1=x then y.2 else 0)+tk x b=0;rw[QH λ(e:y.1=x)=>h<|e ▸ Ka,jg λz=>h<|Ke _ z]
def Gb (n:Y)(bs:U<|U<|Y×Y):Prop:=∀b∈bs,(∀y∈b,y.1<n/\1<=y.2)/\(b.map (·.1)).Pairwise (· < ·)
def Od (k p:Y):U (U<|Y×Y)->Prop
|[]=>Ra
|b::bs=>(k∈b.map (·.1)->tkS p (b::bs)=0)/\Od k p bs
def stB (P:Y->U Y)(l:U Int)(b:U<|Y×Y):j (U Int):=if zrs P l b=JZ then O (fO b l) else J
theorem zrs_iff {P:Y->U Y}{l:U Int}{b:U<|Y×Y}:zrs P l b=JZ ↔ ∀k∈b.map (·.1),∀p∈P k,l.getD p 0=0:=by
 unfold zrs zr;rw[KI];constructor
 .intro h k hk p hp;obtain⟨y,a,rfl⟩:=Kl.mp hk;exact eq_of_beq<|KI.mp (h y a) p hp
 .intro h y a;exact KI.mpr λp hp=>beq_iff_eq.mpr<|h y.1 (Lx (f:=λp:Y×Y=>p.1) a) p hp
theorem wu {P:Y->U Y}{n:Y}(i:∀k,k<n->∀p∈P k,p<n):∀(bs:U<|U<|Y×Y) (l:U Int),Gb n bs->l.length=n->(∀x,x<n->l.getD x 0=((tkS x bs:Y):Int))->(∀k,k<n->∀p∈P k,Od k p bs)->∃d,foO (stB P) l bs=O d/\d.length=n/\∀x,x<n->d.getD x 0=0
|[],l,_,e,h,_=>⟨l,rfl,e,λx hx=>h x hx⟩
| b::bs,l,m,e,h,ho=>by
 obtain⟨g,s⟩:=m b Ka
 have r:zrs P l b=true:=zrs_iff.mpr λk hk p hp=>by
  have a:k<n:=by obtain⟨y,f,rfl⟩:=Kl.mp hk;exact(g y f).1
  rw[h p<|i k a p hp,(ho k a p hp).1 hk];rfl
 obtain⟨d,e1,e2,e3⟩:=wu i bs (fO b l) (λc o=>m c<|Ke _ o) (by rw[eg,e]) (λx hx=>by
  rw[gE x b l λy f=>by rw[e];exact(g y f).1,h x hx];show((tk x b+tkS x bs:Y):Int)-_=_;lia) λk hk p hp=>(ho k hk p hp).2
 refine⟨d,?_,e2,e3⟩;show(stB P l b).bind _=_;rw[stB,QG r];exact e1
theorem uZ {P:Y->U Y}{n:Y}(i:∀k,k<n->∀p∈P k,p<n):∀(bs:U<|U<|Y×Y) (l a:U Int),Gb n bs->l.length=n->foO (stB P) l bs=O a->(∀x,x<n->a.getD x 0=0)->(∀x,x<n->l.getD x 0=((tkS x bs:Y):Int))/\∀k,k<n->∀p∈P k,Od k p bs
|[],l,a,_,f,e,h=>by cases e;exact⟨λx hx=>h x hx,λ_ _ _ _=>trivial⟩
| b::bs,l,a,m,f,e,h=>by
 obtain⟨r,z⟩:=m b Ka;have e:(stB P l b).bind (λw=>foO (stB P) w bs)=O a:=e;unfold stB at e;cases g:zrs P l b with
 |false=>rw[g] at e;cases e
 | true =>
  rw[g] at e;have e:foO (stB P) (fO b l) bs=O a:=e;obtain⟨u,v⟩:=uZ i bs (fO b l) a (λc s=>m c<|Ke _ s) (by rw[eg,f]) e h;have o:∀x,x<n->l.getD x 0=((tkS x (b::bs):Y):Int):=λx hx=>by have:=u x hx;rw[gE x b l λy t=>by rw[f];exact(r y t).1] at this;show _=((tk x b+tkS x bs:Y):Int);lia
  refine⟨o,λk hk p hp=>⟨λd=>?_,v k hk p hp⟩⟩;have:=zrs_iff.mp g k d p hp;rw[o p<|i k hk p hp] at this;lia
noncomputable def bx (x:Y):Y->U (U<|Y×Y)->U Y
|_,[]=>[]
|a,b::bs=>if x∈b.map (·.1) then a::bx x (a+1) bs else bx x (a+1) bs
theorem kj {x:Y}:∀{bs:U<|U<|Y×Y} {a i:Y},i∈bx x a bs->a<=i
| b::bs,a,i,h=>by
 unfold bx at h;split at h
 .rcases Kg.mp h with rfl | h
  .exact J9 _
  .have:=kj h;lia
 .have:=kj h;lia
theorem jA {x:Y}:∀(bs:U<|U<|Y×Y) (a:Y),(bx x a bs).Pairwise (· < ·)
|[],_=>.nil
|b::bs,a=>by
 unfold bx;split
 .exact Ls.mpr ⟨λz c=>by have:=kj c;lia,jA bs<|a+1⟩
 .exact jA bs (a+1)
theorem jF {n x:Y}:∀{bs:U<|U<|Y×Y} {a:Y},Gb n bs->(bx x a bs=[] ↔ tkS x bs=0)
|[],_,_=>⟨λ_=>rfl,λ_=>rfl⟩
| b::bs,a,e=>by
 have h:=jF (x:=x) (bs:=bs) (a:=a+1) λc f=>e c<|Ke _ f;show _ ↔ tk x b+tkS x bs=0;unfold bx;by_cases d:x∈b.map (·.1)
 .rw [QG d];have:=vm (λy g=>((e b Ka).1 y g).2) d;exact⟨(λz=>by cases z),λz=>by lia⟩
 .rw [QH d,jg d,LD];exact h
theorem tM {n k p:Y}:∀{bs:U<|U<|Y×Y} {a:Y},Gb n bs->((∀i∈bx p a bs,∀d∈bx k a bs,i<d) ↔ Od k p bs)
|[],_,_=>⟨λ_=>trivial,(λ_ _ h=>nomatch h)⟩
| b::bs,a,t=>by
 have f:Gb n bs:=λc w=>t c<|Ke _ w;have m:=tM (k:=k) (p:=p) (bs:=bs) (a:=a+1) f;have u:=jF (x:=p) (bs:=b::bs) (a:=a) t;have r:=jF (x:=p) (bs:=bs) (a:=a+1) f;by_cases l:k∈b.map (·.1)
 .have o:bx k a (b::bs)=a::bx k (a+1) bs:=QG l;rw[o];constructor
  .intro h;have y:bx p a (b::bs)=[]:=List.eq_nil_iff_forall_not_mem.mpr λi e=>by have:=h i e a Ka;have:=kj e;lia
   have s:=u.mp y;have v:tkS p bs=0:=by have:tk p b+tkS p bs=0:=s;lia
   refine⟨λ_=>s,m.mp ?_⟩;rw[r.mpr v];exactλ_ z=>nomatch z
  .intro h i e;rw[u.mpr<|h.1 l] at e;cases e
 .have o:bx k a (b::bs)=bx k (a+1) bs:=QH l;rw[o];constructor
  .intro h;refine⟨λz=>QL z l,m.mp λi e d g=>h i ?_ d g⟩;unfold bx;split
   .exact Ke _ e
   .exact e
  .intro h i e d g;unfold bx at e;split at e
   .rcases Kg.mp e with rfl | e
    .have:=kj g;lia
    .exact m.mpr h.2 i e d g
   .exact m.mpr h.2 i e d g
def gs (n h:Y):U T->j (U<|U<|Y×Y)
|[]=>O []
|t::r=>(gd n h t).bind λb=>(gs n h r).map (b::·)
theorem jL {n h:Y}:∀{i:U T} {bs:U<|U<|Y×Y},gs n h i=O bs->Gb n bs
|[],bs,e=>by cases e;exactλ_ z=>nomatch z
| t::r,bs,e=>by
 have e:((gd n h t).bind λb=>(gs n h r).map (b::·))=O bs:=e;cases e1:gd n h t with
 |none=>rw[e1] at e;cases e
 | some b =>
  rw[e1] at e;cases e2:gs n h r with
  |none=>rw[e2] at e;cases e
  |some a=>rw[e2] at e;cases e;obtain⟨_,f,d,_⟩:=jX e1;exactλc g=>(Kg.mp g).elim (λz=>z ▸ ⟨f,d⟩)<|jL e2 c
theorem wy (L:U T)(h:Y):∀(c:U T) (l:U Int),foO (stP L h) l c=(gs L.length h c).bind λbs=>foO (stB<|PL L) l bs
|[],_=>rfl
| t::r,l=>by
 show(stP L h l t).bind (λa=>foO (stP L h) a r)=((gd L.length h t).bind λb=>(gs L.length h r).map (b::·)).bind _;unfold stP;cases e:gd L.length h t with
 |none=>rfl
 |some b=>
  show(stB (PL L) l b).bind (λa=>foO (stP L h) a r)=((gs L.length h r).map (b::·)).bind _;have e2:(λa=>foO (stP L h) a r)=λa=>(gs L.length h r).bind λbs=>foO (stB (PL L)) a bs:=funext λa=>wy L h r a;rw[e2];cases gs L.length h r with
  |none=>show(stB (PL L) l b).bind (λ_=>J)=J;cases stB (PL L) l b<;>rfl
  |some bs=>rfl
def dY:Y->U (U<|Y×Y)->U (U Y)->U (U Y)
|_,[],S=>S
|a,b::bs,S=>dY (a+1) bs<|b0 a b S
def dP:U (U<|Y×Y)->U Y->U Y
|[],d=>d
|b::bs,d=>dP bs<|bZ b d
theorem mx (n h:Y):∀(c:U T) (a:Y) (S:U<|U Y) (d:U Y),foT n h a S d c=(gs n h c).map λbs=>(dY a bs S,dP bs d)
|[],_,_,_=>rfl
| t::r,a,S,d=>by
 show((gd n h t).bind λb=>foT n h (a+1) (b0 a b S) (bZ b d) r)=((gd n h t).bind λb=>(gs n h r).map (b::·)).map _;cases gd n h t with
 |none=>rfl
 |some b=>show foT n h (a+1) (b0 a b S) (bZ b d) r=((gs n h r).map (b::·)).map _;rw[mx n h r];cases gs n h r<;>rfl
theorem eV {n:Y}(x:Y):∀(bs:U<|U<|Y×Y) (d:U Y),Gb n bs->d.length=n->(dP bs d).length=n/\(dP bs d).getD x 0=d.getD x 0+tkS x bs
|[],d,_,a=>⟨a,rfl⟩
|b::bs,d,e,a=>by have f:=(e b Ka).1;obtain⟨i,k⟩:=eV x bs (bZ b d) (λc g=>e c<|Ke _ g) (by rw[gC,a]);refine⟨i,?_⟩;show(dP bs<|bZ b d).getD x 0=_+(tk x b+tkS x bs);rw[k,lT x b d λy h=>by rw[a];exact(f y h).1];lia
theorem kG {n x:Y}(hx:x<n):∀(bs:U<|U<|Y×Y) (a:Y) (S:U<|U Y),Gb n bs->S.length=n->(dY a bs S).length=n/\(dY a bs S).getD x []=S.getD x []++bx x a bs
|[],_,S,_,d=>⟨d,(KR _).symm⟩
| b::bs,a,S,f,d=>by
 obtain⟨h,g⟩:=f b Ka;obtain⟨m,o⟩:=kG hx bs (a+1) (b0 a b S) (λc i=>f c<|Ke _ i) (by rw[eL,d]);refine⟨m,?_⟩;show(dY (a+1) bs<|b0 a b S).getD x []=_;rw[o,show bx x a (b::bs)=if x∈b.map (·.1) then a::bx x (a+1) bs else bx x (a+1) bs from rfl];by_cases e:x∈b.map (·.1)
 .rw [QG e];obtain⟨y,k,rfl⟩:=Kl.mp e;rw[dE a b S (λz l=>by rw[d];exact(h z l).1) (g.imp λz=>by lia) y k,Lr];rfl
 .rw[QH e,bG a b S x (by rw[d];exact hx) e]
theorem G6:∀{l:U Y},l.Pairwise (· < ·)->∀a∈l,hdN l<=a
|x::l,h,a,b=>by
 rcases Kg.mp b with rfl|b
 .exact J9 _
 .exact Mo ((Ls.mp h).1 a b)
theorem CF {l:U Y}(h:l≠[]):hdN l∈l:=by
 cases l with
 |nil=>exact QL rfl h
 |cons x r=>exact Ka
theorem EB {l:U Y}(h:l≠[]):lsN l∈l:=by rw[lsN,Qn,NL h];exact PK h
theorem vP:∀{l:U Y},l.Pairwise (· < ·)->∀c∈l,c<=lsN l
|[x],_,c,d=>by rw[KA.mp d];exact J9 _
| x::y::l,h,c,d=>by
 have f:=Ls.mp h;have e:lsN (x::y::l)=lsN (y::l):=rfl;rw[e];rcases Kg.mp d with rfl|d
 .have a:=f.1 y Ka;have b:=vP f.2 y Ka;lia
 .exact vP f.2 c d
theorem C3 {S:U<|U Y}{a p:Y}(c:(S.getD a []).Pairwise (· < ·))(d:(S.getD p []).Pairwise (· < ·))(g:S.getD a []≠[])(k:S.getD p []≠[]):bf S a p=JZ ↔ ∀i∈S.getD p [],∀b∈S.getD a [],i<b:=by
 unfold bf;rw[QM];constructor
 .intro h i e b f;have:=vP d i e;have:=G6 c b f;lia
 .exactλh=>h _ (EB k) _<|CF g
theorem DH (a b:U Y)(m m':Md):oSem .ne JY [(m,.lst<|a.map nI),(m',.lst<|b.map nI)]=O (.d,.bl<|!decide (a=b)):=by
 show(if(decide (dp (.lst<|a.map nI)<=64)&&decide (dp (.lst<|b.map nI)<=64))=JZ then O ((.d,.bl<|!eqTs (a.map nI) (b.map nI)):W) else J)=_;rw[QE<|fS a,QE<|fS b,eJ a,eJ b,gq]
 have:((a.map λ(i:Y)=>(i:Int))=b.map λ(i:Y)=>(i:Int)) ↔ a=b:=by
  constructor
  .intro e;have:=QW (M0 Int.toNat) e;rw[KU,KU] at this;simpa[Function.comp_def] using this
  .rintro rfl;rfl
 rw[decide_eq_decide.mpr this];rfl
def spL (L:U T)(h:Y):T->QJ
|.lst a=>match foT L.length h 0 (Kb L.length []) (Kb L.length 0) a with
 |some s=>decide (s.2=wN L)&&fin L s.1 (Kc L.length)
 |none=>JY
|_=>JY
theorem kl (n k:Y):(Kb n 0).getD k 0=0:=by rw[Kf,Mt];split<;>rfl
theorem oB (n k:Y):(Kb n ([]:U Y)).getD k []=[]:=by rw[Kf,Mt];split<;>rfl
theorem fg {L:U T}(c:Sts L){bs:U<|U<|Y×Y}(a:Gb L.length bs)(d:dP bs (Kb L.length 0)=wN L):(∀x,x<L.length->(wN L).getD x 0=tkS x bs)/\(∀x,x<L.length->(dY 0 bs<|Kb L.length []).getD x []=bx x 0 bs/\bx x 0 bs≠[]):=by
 have b:∀x,x<L.length->(wN L).getD x 0=tkS x bs:=λx hx=>by rw[<- d,(eV x bs _ a K4).2,kl,LD]
 refine⟨b,λx hx=>⟨?_,λz=>?_⟩⟩
 .rw[(kG hx bs 0 _ a K4).2,oB];rfl
 .have:=(jF a).mp z;have:=(nV c hx).1;have:=b x hx;lia
theorem qp (k h:Y)(L:U T)(v:Sts L)(X:T)(N:Bx X)(m0 m1 m2:Md):C (k+3) 358 [(m0,.lst L),(m1,nI h),(m2,X)]=.ok ((.d,.bl<|spL L h X),[]):=by
 rw[fN,x_run _ _ _ rfl];cases X with
 | lst r =>
  have hn:=v.len;have P:=rOks_all.mp N.1;have hlt:=(N.2 r rfl).1;have A:∀f g l n p,az [13] (bE (evE (C (k+2)) (.lst JZ []))) (L.map λt=>[((.s,t):W)]) [f,g,l,n,p,J,J,J,J,J,J,J,J,J,J,J] []=.ok ([]++L.map (λ_=>((.d,.lst []):W)),[f,g,l,n,p,J,J,J,J,J,J,J,J,J,J,J]):=λf g l n p=>aF (λ_=>((.d,.lst []):W)) L [] λu hu=>⟨_,[f,g,l,n,p,J,J,J,J,J,J,J,J,O (.s,u),J,J],rfl,by simp_all only[],rfl⟩;have F:aO (L.map λ_=>((.d,.lst []):W))=mS (Kb L.length []):=by rw[aT (λ_=>Md.d) (λ_=>T.lst []) L,mS,Ol,PB];rfl
  have G:(L.map λ_=>((.d,.lst []):W)).all okD=true:=KI.mpr λw hw=>by obtain⟨_,_,rfl⟩:=Kl.mp hw;rfl
  have D:∀f g l n p,az [14] (bE (evE (C (k+2)) (.cst (.int 0)))) (L.map λt=>[((.s,t):W)]) [f,g,l,n,p,J,J,J,J,J,J,J,J,J,J,J] []=.ok ([]++L.map (λ_=>((.d,nI 0):W)),[f,g,l,n,p,J,J,J,J,J,J,J,J,J,J,J]):=λf g l n p=>aF (λ_=>((.d,nI 0):W)) L [] λu hu=>⟨_,[f,g,l,n,p,J,J,J,J,J,J,J,J,J,O (.s,u),J],rfl,by simp_all only[];rfl,rfl⟩;have H:aO (L.map λ_=>((.d,nI 0):W))=(Kb L.length 0).map nI:=by rw[aT (λ_=>Md.d) (λ_=>nI 0) L,Ol,PB]
  have t5:=vV L;have c:=jts k h L hn (O (.s,.lst r)) r 0 (Kb L.length []) (Kb L.length 0) .s m1 J J J J J K4 K4 (λx=>by rw[oB];exact J9 _) (by lia) P;have hs:spL L h (.lst r)=(match foT L.length h 0 (Kb L.length []) (Kb L.length 0) r with|some s=>decide (s.2=wN L)&&fin L s.1 (Kc L.length)|none=>JY):=rfl;rw[hs];rw[mx] at c ⊢;cases e:gs L.length h r with
  |none=>rw[e] at c;obtain⟨η,c⟩:=c;show _=Res.ok ((Md.d,T.bl JY),[]);simp_all only[ah,dQ,A,F,G,D,H,c]
  | some bs =>
   rw[e] at c;have hg:=jL e;obtain⟨η,c,m0',Q,o5,o6,o7,o8,o9,M,g2,rfl⟩:=c;have M:(dY 0 bs (Kb L.length [])).length=L.length:=M;have I:=oj (C<|k+2) 15 L v.st [O (.s,.lst L),J,J,J,O (.s,.lst<|(dP bs<|Kb L.length 0).map nI),J,J,J,J,J,J,J,J,J,J,J] (λ_=>rfl) λ_=>rfl;have Z:aO (L.map λu=>((.s,.int (wOf u)):W))=(wN L).map nI:=by rw[fQ,xa v]
   have z:=λm m'=>DH (dP bs<|Kb L.length 0) (wN L) m m';show _=Res.ok ((Md.d,T.bl<|decide (dP bs (Kb L.length 0)=wN L)&&fin L (dY 0 bs<|Kb L.length []) (Kc L.length)),[]);by_cases y:dP bs (Kb L.length 0)=wN L
   .rw [QE y] at z;rw[QE y,LS];obtain⟨_,hz⟩:=fg v hg y;obtain⟨o10,o11,o12,a⟩:=jgs (k+2) L v (dY 0 bs (Kb L.length [])) M (λx hx=>by rw[(hz x (by lia)).1];exact(hz x (by lia)).2) (O (.s,.lst L)) (O (Q,nI h)) (O (.s,.lst r)) (O (.o .s,.lst ((dP bs (Kb L.length 0)).map nI))) o5 o6 o7 o8 o9 (Kc L.length) (λi hi=>KW.mp hi) J J J;cases hf:fin L (dY 0 bs (Kb L.length [])) (Kc L.length) with
    |true=>rw[hf] at a;have a:aY [10,11] (evSs (C (k+2)) JF) _ _=Fl.nx _:=a;simp_all only[ah,dQ,A,F,G,D,H,c,I,Z,z,t5,a,NF]
    |false=>rw[hf] at a;have a:aY [10,11] (evSs (C (k+2)) JF) _ _=Fl.rt (.d,.bl JY) _:=a;simp_all only[ah,dQ,A,F,G,D,H,c,I,Z,z,t5,a,NF]
   .rw [QP y] at z;rw[QP y,M3];simp_all only[ah,dQ,A,F,G,D,H,c,I,Z,z,P9]
 |int i=>show _=Res.ok ((Md.d,T.bl JY),[]);simp_all only[ah,zP]
 |bl b=>show _=Res.ok ((Md.d,T.bl JY),[]);simp_all only[ah,zv]
 |non=>show _=Res.ok ((Md.d,T.bl JY),[]);simp_all only[ah,rP]
 |str x=>show _=Res.ok ((Md.d,T.bl JY),[]);simp_all only[ah,xJ]
 |tup r=>show _=Res.ok ((Md.d,T.bl JY),[]);simp_all only[ah,uh]
 |_=>cases N.1
theorem ph {n x:Y}:∀{bs:U<|U<|Y×Y},Gb n bs->n<=x->tkS x bs=0
|[],_,_=>rfl
|b::bs,a,hx=>by show tk x b+tkS x bs=0;rw[jg λe=>by obtain⟨y,f,rfl⟩:=Kl.mp e;have:=((a b Ka).1 y f).1;lia,ph (λc d=>a c<|Ke _ d) hx]
theorem BN {L:U T}(m:Sts L)(h:Y)(X:T):spP L h X=spL L h X:=by
 cases X with
 | lst y =>
  show(match foO (stP L h) (wI L) y with|some l=>l.all (·==0)|none=>JY)=(match foT L.length h 0 (Kb L.length []) (Kb L.length 0) y with|some s=>decide (s.2=wN L)&&fin L s.1 (Kc L.length)|none=>JY);rw[wy,mx];cases e:gs L.length h y with
  |none=>rfl
  | some bs =>
   have c:=jL e;have n:∀k,k<L.length->∀p∈PL L k,p<L.length:=λk hk=>by obtain⟨_,_,_,_,e2,_⟩:=pR m hk;exact e2
   show(match foO (stB<|PL L) (wI L) bs with|some l=>l.all (·==0)|none=>JY)=(decide (dP bs (Kb L.length 0)=wN L)&&fin L (dY 0 bs<|Kb L.length []) (Kc L.length));have D:(wI L).length=L.length:=by rw[wI,J6,bP]
   have d:∀x,(wI L).getD x 0=(((wN L).getD x 0:Y):Int):=λx=>by rw[wI,Kf,Kz,Kf];cases(wN L)[x]?<;>rfl
   have R:(decide (dP bs (Kb L.length 0)=wN L)&&fin L (dY 0 bs (Kb L.length [])) (Kc L.length))=JZ ↔ (∀x,x<L.length->(wN L).getD x 0=tkS x bs)/\∀k,k<L.length->∀p∈PL L k,Od k p bs:=by
    rw[Kt,QM]
    have A:dP bs (Kb L.length 0)=wN L->((fin L (dY 0 bs (Kb L.length [])) (Kc L.length))=JZ ↔ ∀k,k<L.length->∀p∈PL L k,Od k p bs):=λg=>by
     obtain⟨_,F⟩:=fg m c g;have f:∀k,k<L.length->∀p∈PL L k,(bf (dY 0 bs (Kb L.length [])) k p=JZ ↔ Od k p bs):=λk hk p hp=>by obtain⟨u,I⟩:=F k hk;obtain⟨w,N⟩:=F p<|n k hk p hp;rw[C3 (by rw[u];exact jA bs 0) (by rw[w];exact jA bs 0) (by rw[u];exact I)<|by rw[w];exact N,u,w];exact tM c
     unfold fin;rw[KI];constructor
     .exactλh k hk p hp=>(f k hk p hp).mp<|KI.mp (h k<|KW.mpr hk) p hp
     .exactλh k hk=>KI.mpr λp hp=>(f k (KW.mp hk) p hp).mpr<|h k (KW.mp hk) p hp
    constructor
    .rintro ⟨a,b⟩;exact⟨(fg m c a).1,(A a).mp b⟩
    .rintro ⟨a,b⟩
     have g:dP bs (Kb L.length 0)=wN L:=kW (by rw[(eV 0 bs _ c K4).1,bP]) λx=>by
      rw[(eV x bs _ c K4).2,kl,LD];by_cases hx:x<L.length
      .exact(a x hx).symm
      .have z:=ph c (show L.length<=x by lia);rw[z,Kf,Lu<|by rw[bP];lia];rfl
     exact⟨g,(A g).mpr b⟩
   have to:=λ(a:∀x,x<L.length->(wN L).getD x 0=tkS x bs) b=>wu n bs (wI L) c D (λx hx=>by rw[d,a x hx]) b;generalize (decide (dP bs (Kb L.length 0)=wN L)&&fin L (dY 0 bs<|Kb L.length []) (Kc L.length))=r at R;cases o:foO (stB<|PL L) (wI L) bs with
   | none =>
    cases r with
    |false=>rfl
    |true=>obtain⟨a,b⟩:=R.mp rfl;obtain⟨M,e1,_,_⟩:=to a b;rw[o] at e1;cases e1
   | some l =>
    show l.all (·==0)=r;cases r with
    |true=>obtain⟨a,b⟩:=R.mp rfl;obtain⟨M,e1,e2,e3⟩:=to a b;rw[o] at e1;cases e1;refine KI.mpr λv t=>?_;obtain⟨i,H,rfl⟩:=NN.mp t;have:=e3 i (by lia);rw[Kf,Kj H] at this;exact beq_iff_eq.mpr this
    | false =>
     cases G:l.all (·==0) with
     |false=>rfl
     | true =>
      refine R.mpr ?_ |>.symm
      obtain⟨a,b⟩:=uZ n bs (wI L) l c D o λx hx=>by
       rw[Kf];cases t:l[x]? with
       |none=>rfl
       |some v=>exact eq_of_beq<|KI.mp G v<|LX t
      exact⟨λx hx=>by have:=a x hx;rw[d] at this;lia,b⟩
 |_=>rfl
theorem yx {a:U T}{k:Y}(h:∀t∈a,dp t<=k):dps a<=k:=by
 induction a with
 |nil=>exact Kx _
 |cons t a c=>show max (dp t) (dps a)<=k;have:=h t Ka;have:=c λu b=>h u<|Ke _ b;lia
theorem szK {c:Y}:∀{ts:U T},(∀t∈ts,szR t<=c)->szRs ts<=(c+2) * ts.length
|[],_=>J9 _
|t::ts,h=>by have b:=h t Ka;have d:=szK (c:=c) (ts:=ts) λu a=>h u<|Ke _ a;rw[Ki,Nat.mul_succ];show szR t+2+szRs ts<=_;lia
def Sd (t:T):Prop:=rOk t=JZ/\dp t<=2/\szR t<=350
def El (t:T):Prop:=rOk t=JZ/\dp t<=3/\szR t<=10000/\∀a,t=.lst a->a.length<64
def Rz (X:T):Prop:=rOk X=JZ/\dp X<=4/\szR X<=9000000/\∀a,X=.lst a->a.length<800/\∀t∈a,∀b,t=.lst b->b.length<64
theorem Rz.bx {X:T}(h:Rz X):Bx X:=⟨h.1,h.2.2.2⟩
theorem cW {b:U T}(h:∀u∈b,Sd u)(d:b.length<=25):El (.lst b):=by
 have a:=szK λu c=>(h u c).2.2;refine⟨rOks_all.mpr λu c=>(h u c).1,?_,?_,λf e=>by cases e;lia⟩
 .show dps b+1<=3;have:=yx λu c=>(h u c).2.1;lia
 .show szRs b+4<=10000;have:(350+2) * b.length<=352 * 25:=Pr _ d;lia
theorem Ek {d:U T}(h:∀u∈d,Sd u)(f:d.length<=25):El (.tup d):=by obtain⟨a,b,c,_⟩:=cW h f;exact⟨a,b,c,(λg e=>nomatch e)⟩
theorem jZ {b:U T}(h:∀t∈b,El t)(d:b.length<800):Rz (.lst b):=by
 have a:=szK λu c=>(h u c).2.2.1;refine⟨rOks_all.mpr λu c=>(h u c).1,?_,?_,λg e=>by cases e;exact⟨d,λt f=>(h t f).2.2.2⟩⟩
 .show dps b+1<=4;have:=yx λu c=>(h u c).2.1;lia
 .show szRs b+4<=9000000;have:(10000+2) * b.length<=10002 * 800:=Pr _<|Mo d;lia
theorem Ew {d:U T}(h:∀t∈d,El t)(f:d.length<800):Rz (.tup d):=by obtain⟨a,b,c,_⟩:=jZ h f;exact⟨a,b,c,(λg e=>nomatch e)⟩
structure Bs (bs:U (U (Y×Y))):Prop where
 ln:bs.length<=720
 b:∀b∈bs,b.length<=12/\∀x∈b,x.1<12/\x.2<=1000
theorem vU {a b:Int}(c:a.natAbs<10000000000000000000)(d:b.natAbs<10000000000000000000):Sd (.tup [.int a,.int b]):=by
 refine⟨?_,?_,?_⟩
 .show (decide (a.natAbs<10000000000000000000)&&(decide (b.natAbs<10000000000000000000)&&JZ))=JZ;rw[QE c,QE d];rfl
 .show max 0 (max 0 0)+1<=2;decide
 .show 100+2+(100+2+0)+4<=350;decide
theorem tI {x:Y×Y}(h:x.1<12/\x.2<=1000):Sd (cT x):=vU (by lia)<|by lia
theorem Bs.el {bs:U<|U<|Y×Y}(h:Bs bs){b:U<|Y×Y}(a:b∈bs):El (bL b):=by refine cW (λu c=>?_) (by rw[J6];have:=(h.b b a).1;lia);obtain⟨x,hx,rfl⟩:=Kl.mp c;exact tI<|(h.b b a).2 x hx
theorem Bs.els {bs:U<|U<|Y×Y}(h:Bs bs){t:T}(c:t∈bs.map bL):El t:=by obtain⟨b,a,rfl⟩:=Kl.mp c;exact h.el a
theorem d6 {bs:U<|U<|Y×Y}(h:Bs bs)(a k:Y)(hk:a<=k){ys:U T}(c:∀y∈ys,El y)(d:ys.length<=2):Rz (.lst<|(bs.map bL).take a++ys++(bs.map bL).drop k):=by
 refine jZ (λt b=>?_) ?_
 .rcases KP.mp b with b | b
  .rcases KP.mp b with b | b
   .exact h.els (Ot b)
   .exact c t b
  .exact h.els (Oq b)
 .have:=h.ln;rw[Kk,Kk,Lc,Lq,J6];lia
theorem GJ {P:Y->U Y}{h n:Y}(g:n<=12){l k:U Y}{bs:U<|U<|Y×Y}(r:Run P h l bs k):l.length=n->(∀x,l.getD x 0<=1000)->∀b∈bs,b.length<=12/\∀x∈b,x.1<12/\x.2<=1000:=by
 induction r with
 |nil l=>exactλ_ _ b f=>nomatch f
 | cons y _ i =>
  rename_i p s t b bs r;intro d e c a;rcases Kg.mp a with rfl|a
  .refine ⟨y.few d g,fun x hx=>?_⟩;obtain⟨m,_,o,_⟩:=y.one x hx;have:=e x.1;exact⟨by lia,by lia⟩
  .exact i (by rw[y.len,d]) (λx=>Ky (y.le x)<|e x) c a
theorem il {c:Type}(b:U c)(a:Y):cut b J (O (a:Int))=b.take a:=by
 show(b.drop 0).take ((if(a:Int)<0 then((a:Int)+(b.length:Int)).toNat else min (a:Int).toNat b.length)-0)=_;rw[QH<|by lia,KQ,Nat.sub_zero,LJ];by_cases h:a<=b.length
 .rw[Pz h]
 .rw[PJ<|by lia,MI<|J9 _,MI<|by lia]
theorem dC {a:Type}(l:U a)(k:Y):cut l (O (k:Int)) J=l.drop k:=by
 have e:sIx l.length 0 (O (k:Int))=min k l.length:=by show(if(k:Int)<0 then((k:Int)+(l.length:Int)).toNat else min (k:Int).toNat l.length)=_;rw[QH<|by lia,LJ]
 have e2:sIx l.length l.length J=l.length:=rfl;rw[cut,e,e2];by_cases h:k<=l.length
 .rw[Pz h];exact MI<|by rw[Lq];lia
 .rw[PJ<|by lia,NC,List.drop_of_length_le<|by lia];exact N2
theorem oK {b:Type}{a:U b}{lo c:j Int}{x:b}(h:x∈cut a lo c):x∈a:=Oq<|Ot h
theorem oS {c:Type}(a:U c)(lo b:j Int):(cut a lo b).length<=a.length:=by rw[cut,Lc,Lq];lia
theorem nu {l:U T}{r:Int}(a:0<=r)(c:r<(l.length:Int)):∃x∈l,atI l r=O x:=by
 obtain⟨n,rfl⟩:=Ms a;have b:n<l.length:=by lia
 exact⟨l[n],Lj _,atN rfl (Kj b)⟩
theorem fq {n:Y}(h:n<=10000):fits n=true:=QE<|by show n<=16777215;lia
theorem kf (k:Y)(b:U T)(n:b.length<=720)(a:Y)(x:T)(h i l:Md):∃m,C (k+1) 360 [(h,.lst b),(i,nI a),(l,x)]=.ok ((m,.lst<|b.take a++[x]++b.drop (a+1)),[]):=by
 have e:=il b a;have f:(a:Int)+1=((a+1:Y):Int):=by lia
 have g:=dC b<|a+1;have c:fits ((b.take a).length+[x].length)=true:=fq (by rw[Lc,KN];lia);have d:fits ((b.take a++[x]).length+(b.drop (a+1)).length)=true:=fq (by rw[Kk,Lc,KN,Lq];lia);rw[kE,x_run _ _ _ rfl];exact⟨_,by simp_all only[bW,e,f,g,c,d];rfl⟩
theorem Eo:∀c:Y,c<12->rOk (.str<|strI (c:Int))=true:=by decide +kernel
def vB (c m N r:Int):U T:=[.tup [.int c,.int<|m+1],.tup [.int c,.int<|m-1],.tup [.int c,.int 0],.tup [.int c,.int<|0-1],.tup [.int r,.int m],.tup [.int N,.int m],.tup [.int<|0-1,.int m]] ++
 [.tup [.int c,.bl JZ],.tup [.bl JY,.int m],.lst [.int c,.int m],.tup [.int c,.int m,.int 1],.tup [.int c],.non,.tup [.str<|strI c,.int m]]
theorem IY {c m N r:Y}(f:c<12)(l:m<=1000)(h:N<=12)(n:r<=12):∀t∈vB (c:Int) (m:Int) (N:Int) (r:Int),Sd t:=by
 have e:∀i:Int,i.natAbs<10000->rOk (.int i)=true:=λi k=>QE (by lia);have b:=e (c:Int) (by lia);have d:=e (m:Int) (by lia);have g:=Eo c f;intro t a;rcases KP.mp a with a|a
 .simp only [Kg,LH,Q3] at a;rcases a with rfl|rfl|rfl|rfl|rfl|rfl|rfl<;>exact vU (by lia)<|by lia
 .simp only [Kg,LH,Q3] at a;rcases a with rfl|rfl|rfl|rfl|rfl|rfl|rfl
  .exact⟨by show(rOk (.int c)&&(JZ&&JZ))=JZ;rw[b];rfl,by show 1<=2;decide,by show 208<=350;decide⟩
  .exact⟨by show(JZ&&(rOk (.int m)&&JZ))=JZ;rw[d];rfl,by show 1<=2;decide,by show 208<=350;decide⟩
  .exact⟨by show(rOk (.int c)&&(rOk (.int m)&&JZ))=JZ;rw[b,d];rfl,by show 1<=2;decide,by show 208<=350;decide⟩
  .exact⟨by show(rOk (.int c)&&(rOk (.int m)&&(JZ&&JZ)))=JZ;rw[b,d];rfl,by show 1<=2;decide,by show 310<=350;decide⟩
  .exact⟨by show(rOk (.int c)&&JZ)=JZ;rw[b];rfl,by show 1<=2;decide,by show 106<=350;decide⟩
  .exact⟨rfl,by show 0<=2;decide,by show 100<=350;decide⟩
  .exact⟨by show(rOk (.str<|strI c)&&(rOk (.int m)&&JZ))=JZ;rw[g,d];rfl,by show 1<=2;decide,by show 208<=350;decide⟩
theorem uC (k N:Y)(bs:U<|U<|Y×Y)(G:Bs bs)(a:Y)(ha:a<bs.length)(z:bs.getD a []≠[])(n:Y)(hn:0<n)(M:n<=12)(t:T)(ht:Tp N t)(hN:N+10<1000000000000000000)(m1 m2 m3:Md):
  ∃md X t',Tp (N+3) t'/\Rz X/\C (k+2) 361 [(.d,t),(m1,.lst<|bs.map bL),(m2,nI a),(m3,nI n)]=.ok ((md,X),[(.d,t')]):=by
 have s:bs.getD a []∈bs:=by rw[Kf,Kj ha];exact Lj _
 have g0:atI (bs.map bL) (a:Int)=O (bL (bs.getD a [])):=atN rfl (by rw[Kz,Kf,Kj ha];rfl);obtain⟨L,v⟩:=G.b _ s;generalize bs.getD a []=b at z s g0 L v;have hbl:0<b.length:=Om.mpr z;have l1:(((b.map cT).length:Y):Int)=(b.length:Int):=by rw[J6]
 obtain⟨r,t1,r0,r1,P,e1⟩:=b9 (n:=k) .d (b.length:Int) ht (by lia) (by lia) (by lia);obtain⟨h,rfl⟩:=Ms r0;have hj:h<b.length:=by lia
 have hx:b[h]∈b:=Lj _;have g1:atI (b.map cT) (h:Int)=O (.tup [nI b[h].1,nI b[h].2]):=atN rfl (by rw[Kz,Kj hj];rfl);obtain⟨A,D⟩:=v _ hx;generalize b[h]=x at hx g1 A D;obtain⟨H,t2,s0,s1,Q,e2⟩:=b9 (n:=k) (lkM m3) (n:Int) P (by lia) (by lia) (by lia);obtain⟨H,rfl⟩:=Ms s0;obtain⟨q3,t3,u0,u1,Z,e3⟩:=b9 (n:=k) .d 14 Q (by lia) (by decide) (by decide);have hs:=IY (c:=x.1) (m:=x.2) (N:=n) (r:=H) A D M (by lia);obtain⟨o,ho,I⟩:=nu (l:=vB (x.1:Int) (x.2:Int) (n:Int) (H:Int)) u0 u1;have so:=hs o ho;have I:atI [T.tup [.int (x.1:Int),.int ((x.2:Int)+1)],.tup [.int (x.1:Int),.int ((x.2:Int)-1)],.tup [.int (x.1:Int),.int 0],.tup [.int (x.1:Int),.int (0-1)],.tup [.int (H:Int),.int (x.2:Int)],.tup [.int (n:Int),.int (x.2:Int)],.tup [.int (0-1),.int (x.2:Int)],.tup [.int (x.1:Int),.bl JZ],.tup [.bl JY,.int (x.2:Int)],.lst [.int (x.1:Int),.int (x.2:Int)],.tup [.int (x.1:Int),.int (x.2:Int),.int 1],.tup [.int (x.1:Int)],.non,.tup [.str (strI (x.1:Int)),.int (x.2:Int)]] q3=O o:=I;have f0:∀a b c d e f g a' b' c' d' e' f' g':T,fits ([a,b,c,d,e,f,g].length+[a',b',c',d',e',f',g'].length)=true:=λ_ _ _ _ _ _ _ _ _ _ _ _ _ _=>rfl;have d0:decide ((x.1:Int).natAbs<10000000000000000000)=true:=QE (by lia);have c1:=il (b.map cT) h;have c2:(h:Int)+1=((h+1:Y):Int):=by lia
 have c3:=dC (b.map cT)<|h+1;have f1:fits (((b.map cT).take h).length+[o].length)=true:=fq (by rw[Lc,KN,J6];lia);have f2:fits (((b.map cT).take h++[o]).length+((b.map cT).drop (h+1)).length)=true:=fq<|by rw[Kk,Lc,KN,Lq,J6];lia
 have he:El (.lst ((b.map cT).take h++[o]++(b.map cT).drop (h+1))):=cW (λu p=>by
  have F:∀u∈b.map cT,Sd u:=λu p=>by obtain⟨y,hy,rfl⟩:=Kl.mp p;exact tI<|v y hy
  rcases KP.mp p with p|p
  .rcases KP.mp p with p | p
   .exact F u (Ot p)
   .rw[KA.mp p];exact so
  .exact F u (Oq p))<|by rw[Kk,Kk,Lc,KN,Lq,J6];lia
 have hz:=d6 G a (a+1) (La _) (ys:=[.lst<|(b.map cT).take h++[o]++(b.map cT).drop (h+1)]) (λy hy=>by rw[KA.mp hy];exact he)<|La _
 obtain⟨mw,e4⟩:∃mw:Md->Md->Md->Md,∀m w i,C (k+1) 360 [(m,.lst (bs.map bL)),(w,nI a),(i,.lst ((b.map cT).take h++[o]++(b.map cT).drop (h+1)))]=.ok ((mw m w i,.lst ((bs.map bL).take a++[.lst ((b.map cT).take h++[o]++(b.map cT).drop (h+1))]++(bs.map bL).drop (a+1))),[]):=
  ⟨λm w i=>(kf k (bs.map bL) (by rw[J6];exact G.ln) a _ m w i).choose,λm w i=>(kf k (bs.map bL) (by rw[J6];exact G.ln) a _ m w i).choose_spec⟩
 exact⟨_,_,t3,tm Z<|by lia,hz,by
  rw[eX,x_run _ _ _ rfl];simp_all only[aW,g0,l1,e1,g1,e2,e3,f0,d0,I,c1,c2,c3,f1,f2,e4];rfl⟩
noncomputable def fl (bs:U<|U<|Y×Y):U Y:=(Kc bs.length).filter λi=>!(bs.getD i []).isEmpty
theorem GC {b:U<|Y×Y}(h:dp (bL b)<=64)(m m':Md):oSem .ne JY [(m,bL b),(m',.lst [])]=O (.d,.bl<|!b.isEmpty):=by show(if(decide (dp (bL b)<=64)&&decide (dp (.lst [])<=64))=JZ then O ((.d,.bl<|!eqTs (b.map cT) []):W) else J)=_;rw[QE h];cases b<;>rfl
theorem sG (p:Y->QJ):∀a:U Y,aO (a.filterMap λi=>if p i=JZ then O ((.d,nI i):W) else J)=(a.filter p).map nI
|[]=>rfl
| i::a=>by
 have c:=sG p a;cases h:p i with
 |true=>rw[List.filterMap_cons_some (b:=((.d,nI i):W))<|by rw[h];rfl,List.filter_cons_of_pos h,Ku,<- c];rfl
 |false=>rw[List.filterMap_cons_none<|by rw[h];rfl,List.filter_cons_of_neg<|by rw[h];decide,c]
abbrev WA:U S:=f_law_bent.body.take 2
abbrev WB:U S:=(f_law_bent.body.drop 2).take 1
abbrev WC:U S:=(f_law_bent.body.drop 3).take 2
abbrev WD:U S:=f_law_bent.body.drop 5
theorem E7 (k N:Y)(bs:U<|U<|Y×Y)(l:Bs bs)(n:Y)(t:T)(v:Tp N t)(L:N+10<1000000000000000000)(y p:Md):
  ∃(z:Int) (e:T),0<=z/\z<16/\Tp (N+1) e/\evSs (C<|k+1) WA [O (.d,t),O (y,.lst<|bs.map bL),O (p,nI n),J,J,J,J,J]=.nx [O (.d,e),O (.s,.lst<|bs.map bL),O (p,nI n),O (.o .s,.lst<|(fl bs).map nI),O (.d,.int z),J,J,J]:=by
 have w:(((bs.map bL).length:Y):Int)=(bs.length:Int):=by rw[J6]
 have M:=l.ln;have D:((bs.length:Int)).toNat=bs.length:=rfl;have A:(decide (((bs.length:Int)).natAbs<4611686018427387904)&&fits bs.length)=true:=by rw[QE<|by lia,fq<|by lia];rfl
 have r:az [7] (b8 (evE (C (k+1)) (.op .ne JY [.op .ix JY [.var 1,.var 7],.lst JY []])) (evE (C (k+1)) (.var 7))) ((Kc bs.length).map λ(i:Y)=>[((.d,.int (i:Int)):W)]) [J,O (.s,.lst (bs.map bL)),J,J,J,J,J,J] []=.ok ([]++(Kc bs.length).filterMap (λi=>if(!(bs.getD i []).isEmpty)=JZ then O ((.d,nI i):W) else J),[J,O (.s,.lst (bs.map bL)),J,J,J,J,J,J]):=
  dM (λi=>if(!(bs.getD i []).isEmpty)=JZ then O ((.d,nI i):W) else J) (Kc bs.length) [] λi c=>by
   have c:=KW.mp c;have g:atI (bs.map bL) (i:Int)=O (bL (bs.getD i [])):=atN rfl (by rw[Kz,Kf,Kj c];rfl);have u:bs.getD i []∈bs:=by rw[Kf,Kj c];exact Lj _
   have a:=λm x=>GC (b:=bs.getD i []) (Ky (l.el u).2.1<|by decide) m x;cases h:(!(bs.getD i []).isEmpty) with
   |true=>rw[h] at a;exact⟨_,[J,O (.s,.lst<|bs.map bL),J,J,J,J,J,O (.d,.int (i:Int))],rfl,by simp_all only[g,a],rfl⟩
   |false=>rw[h] at a;exact⟨_,[J,O (.s,.lst<|bs.map bL),J,J,J,J,J,O (.d,.int (i:Int))],rfl,by simp_all only[g,a],rfl⟩
 have F:=sG (λi=>!(bs.getD i []).isEmpty)<|Kc bs.length;have G:((Kc bs.length).filter λi=>!(bs.getD i []).isEmpty).map nI=(fl bs).map nI:=rfl;obtain⟨z,e,H,I,f,e1⟩:=b9 (n:=k) .d 16 v (by lia) (by decide) (by decide);refine⟨z,e,H,I,f,?_⟩;show evSs (C<|k+1) [_,_] _=_;simp_all only[f_law_bent,w,D,A,r,F,G,e1]
theorem DL (k N:Y)(bs:U<|U<|Y×Y)(c:Bs bs)(z:Int)(x:(fl bs).isEmpty=JZ\/z=15)(t:T)(a:Tp N t)(Q:N+10<1000000000000000000)(P:j W):
  ∃L X i F,Tp (N+1) i/\Rz X/\rd F 0=O (.d,i)/\evSs (C<|k+1) WB [O (.d,t),O (.s,.lst<|bs.map bL),P,O (.o .s,.lst<|(fl bs).map nI),O (.d,.int z),J,J,J]=.rt (L,X) F:=by
 obtain⟨r,i,r0,M,f,e1⟩:=b9 (n:=k) .d 8 a (by lia) (by decide) (by decide);have e2:=λm I=>mD (fl bs) m I;have A:fits ((bs.map bL).length+[T.lst []].length)=true:=fq (by have:=c.ln;rw[J6,KN];lia)
 have y:∀v:U T,(∀t∈v,Sd t)->v.length<=1->Rz (.lst v):=λv h Z=>jZ (λt a=>⟨(h t a).1,Nat.le_succ_of_le (h t a).2.1,Ky (h t a).2.2<|by decide,λb e=>by
  have:=(h t a).2.2;rw[e] at this
  have G:∀b:U T,6 * b.length<=szRs b:=λb=>by
   induction b with
   |nil=>exact J9 _
   |cons u b ih=>
    have:4<=szR u:=by cases u<;>first|(show 4<=szRs _+4;lia)|(show 4<=100;decide)
    show 6 * (b.length+1)<=szR u+2+szRs b;lia
  have:=G b;have:szRs b+4<=350:=by assumption
  lia⟩)<|by lia
 have H:∀X∈[T.non,.tup [],.str (q ""),.lst [.non],.lst [.tup []],.lst [.lst [.tup [.int 0,.int 1]]],.lst (bs.map bL++[.lst []]),.tup (bs.map bL)],Rz X:=by
  intro X p;simp only[Kg,LH,Q3] at p;rcases p with rfl|rfl|rfl|rfl|rfl|rfl|rfl|rfl
  .exact⟨rfl,by decide,by decide,(λ_ e=>nomatch e)⟩
  .exact⟨rfl,by decide,by decide,(λ_ e=>nomatch e)⟩
  .exact⟨by decide +kernel,by decide,by decide,(λ_ e=>nomatch e)⟩
  .exact y _ (λt a=>by rw[KA.mp a];exact⟨rfl,by decide,by decide⟩) (J9 _)
  .exact y _ (λt a=>by rw[KA.mp a];exact⟨rfl,by decide,by decide⟩) (J9 _)
  .exact y _ (λt a=>by rw[KA.mp a];exact⟨rfl,by decide,by decide⟩) (J9 _)
  .refine jZ (fun t a=>?_) (by have:=c.ln; rw [Kk,J6,KN]; lia);rcases KP.mp a with a|a
   .exact c.els a
   .rw[KA.mp a];exact cW (λ_ h=>nomatch h)<|by decide
  .exact Ew (λt a=>c.els a) (by have:=c.ln;rw[J6];lia)
 obtain⟨X,p,g⟩:=nu (l:=[T.non,.tup [],.str<|q "",.lst [.non],.lst [.tup []],.lst [.lst [.tup [.int 0,.int 1]]],.lst<|bs.map bL++[.lst []],.tup<|bs.map bL]) r0 M;have D:=H X p;cases w:(fl bs).isEmpty with
 |true=>rw[w] at e2;exact⟨_,X,i,_,f,D,rfl,by show evSs (C<|k+1) [_] _=_;simp_all only[f_law_bent,e2,e1,A,g];rfl⟩
 |false=>have x:z=15:=x.resolve_left (by rw[w];decide);subst x;rw[w] at e2;have d:((15:Int)==15)=true:=rfl;exact⟨_,X,i,_,f,D,rfl,by show evSs (C<|k+1) [_] _=_;simp_all only[f_law_bent,e2,d,e1,A,g];rfl⟩
theorem F8 (k:Y)(bs:U<|U<|Y×Y)(z:Int)(e:(fl bs).isEmpty=JY)(f:z≠15)(a b c:j W):
  evSs (C<|k+1) WB [a,b,c,O (.o .s,.lst<|(fl bs).map nI),O (.d,.int z),J,J,J]=.nx [a,b,c,O (.o .s,.lst<|(fl bs).map nI),O (.d,.int z),J,J,J]:=by
 have e2:=λm g=>mD (fl bs) m g;rw[e] at e2;have d:(z==15)=false:=beq_eq_false_iff_ne.mpr f;show evSs (C<|k+1) [_] _=_;simp_all only[f_law_bent,e2,d]
theorem Hm (k N:Y)(bs:U<|U<|Y×Y)(y:Bs bs)(m:(fl bs).isEmpty=JY)(t:T)(F:Tp N t)(L:N+10<1000000000000000000)(u v:j W):
  ∃a c,a<bs.length/\bs.getD a []≠[]/\Tp (N+1) c/\∃I H,evSs (C<|k+1) WC [O (.d,t),O (.s,.lst<|bs.map bL),u,O (.o .s,.lst<|(fl bs).map nI),v,J,J,J]=.nx [O (.d,c),O (.s,.lst<|bs.map bL),u,I,v,O (H,nI a),O (.s,bL<|bs.getD a []),J]:=by
 have M:0<(fl bs).length:=by
  cases e:fl bs with
  |nil=>rw[e] at m;cases m
  |cons=>exact O2 _
 have z:(fl bs).length<=bs.length:=by have:=List.length_filter_le (λi=>!(bs.getD i []).isEmpty)<|Kc bs.length;rwa[KY] at this
 have A:=y.ln;have G:((((fl bs).map nI).length:Y):Int)=((fl bs).length:Int):=by rw[J6]
 obtain⟨r,c,r0,P,h,e1⟩:=b9 (n:=k) .d ((fl bs).length:Int) F (by lia) (by lia) (by lia);obtain⟨b,rfl⟩:=Ms r0;have p:b<(fl bs).length:=by lia
 have l:=cY p;have D:(fl bs).getD b 0∈fl bs:=by rw[Kf,Kj p];exact Lj _
 obtain⟨x,f⟩:=NA.mp D;have g:=KW.mp x;generalize (fl bs).getD b 0=a at l f g;have w:atI (bs.map bL) (a:Int)=O (bL (bs.getD a [])):=atN rfl (by rw[Kz,Kf,Kj g];rfl);exact⟨a,c,g,(λe=>by rw[e] at f;cases f),h,_,_,by show evSs (C<|k+1) [_,_] _=_;simp_all only[f_law_bent,G,e1,l,w];rfl⟩
theorem tY:∀b:U<|Y×Y,prsOf (b.map cT)=O (b.map λx=>((x.1:Int),(x.2:Int)))
|[]=>rfl
|x::b=>by show(prsOf<|b.map cT).map (((x.1:Int),(x.2:Int))::·)=_;rw[tY b];rfl
theorem uj {a:U<|Int×Int}(h:∀p∈a,p.1.natAbs<10000/\p.2.natAbs<10000):(∀u∈(sortP a).map (λp=>T.tup [.int p.1,.int p.2]),Sd u)/\((sortP a).map λp=>T.tup [.int p.1,.int p.2]).length<=a.length:=by
 constructor
 .intro u b;obtain⟨p,hp,rfl⟩:=Kl.mp b;obtain⟨i,_,rfl⟩:=Kl.mp hp
  have:(a.getD i (0,0)).1.natAbs<10000/\(a.getD i (0,0)).2.natAbs<10000:=by
   rw[Kf];cases e:a[i]? with
   |none=>exact⟨by decide,by decide⟩
   |some p=>exact h p<|LX e
  exact vU (by lia)<|by lia
 .unfold sortP ordN;rw[J6,J6];split
  .rw[KY];exact J9 _
  .rw[Lc];lia
theorem HY (k N:Y)(bs:U<|U<|Y×Y)(r:Bs bs)(a:Y)(ha:a<bs.length)(hne:bs.getD a []≠[])(n:Y)(hn:0<n)(hn2:n<=12)(z:Int)(z0:0<=z)(z1:z<15)(t:T)(ht:Tp N t)(hN:N+10<1000000000000000000)(w3:j W)(m2 m5:Md):
  ∃I X t' η,Tp (N+3) t'/\Rz X/\rd η 0=O (.d,t')/\evSs (C<|k+2) WD [O (.d,t),O (.s,.lst<|bs.map bL),O (m2,nI n),w3,O (.d,.int z),O (m5,nI a),O (.s,bL<|bs.getD a []),J]=.rt (I,X) η:=by
 have w:bs.getD a []∈bs:=by rw[Kf,Kj ha];exact Lj _
 have hln:=r.ln;obtain⟨hb1,Q⟩:=r.b _ w;have v:∀u∈(bs.getD a []).map cT,Sd u:=λu hu=>by obtain⟨y,i,rfl⟩:=Kl.mp hu;exact tI<|Q y i
 have g:Tp (N+3) t:=tm ht (by lia);have e4:∀x m m' m'',∃I,C (k+2) 360 [(m,.lst (bs.map bL)),(m',nI a),(m'',x)]=.ok ((I,.lst ((bs.map bL).take a++[x]++(bs.map bL).drop (a+1))),[]):=λx m m' m''=>kf (k+1) (bs.map bL) (by rw[J6];exact r.ln) a x m m' m'';have wz:∀x,El x->Rz (.lst ((bs.map bL).take a++[x]++(bs.map bL).drop (a+1))):=λx hx=>d6 r a (a+1) (La _) (ys:=[x]) (λy i=>by rw[KA.mp i];exact hx)<|La _;have F:=il (bs.map bL) a;have P:(a:Int)+1=((a+1:Y):Int):=by lia
 have g3:=dC (bs.map bL)<|a+1;have g3':=dC (bs.map bL) a;have g4:(a:Int)+2=((a+2:Y):Int):=by lia
 have g5:=dC (bs.map bL)<|a+2;have lt:((bs.map bL).take a).length<=720:=by rw[Lc,J6];lia
 have ld:∀c,((bs.map bL).drop c).length<=720:=λc=>by rw[Lq,J6];lia
 have f1:∀c,fits (((bs.map bL).take a).length+((bs.map bL).drop c).length)=true:=λc=>fq (by have:=ld c;lia);have f2:∀x:T,fits (((bs.map bL).take a).length+[x].length)=true:=λx=>fq (by rw[KN];lia);have f3:∀x y:T,fits (((bs.map bL).take a).length+[x,y].length)=true:=λx y=>fq (by show _+2<=_;lia);have f4:∀(x:T) c,fits (((bs.map bL).take a++[x]).length+((bs.map bL).drop c).length)=true:=λx c=>fq (by have:=ld c;rw[Kk,KN];lia);have f5:∀(x y:T) c,fits (((bs.map bL).take a++[x,y]).length+((bs.map bL).drop c).length)=true:=λx y c=>fq (by have:=ld c;rw[Kk];show _+2+_<=_;lia);have l1:(((bs.map bL).length:Y):Int)=(bs.length:Int):=by rw[J6]
 have D:∀lo hi,El (.lst (cut ((bs.getD a []).map cT) lo hi)):=λlo hi=>cW (λu hu=>v u<|oK hu) (by have:=oS ((bs.getD a []).map cT) lo hi;rw[J6] at this;lia);have M:∀c:Int,z≠c->(z==c)=false:=λc h=>beq_eq_false_iff_ne.mpr h;have bd:=λm=>uC k N bs r a ha hne n hn hn2 t ht hN .s m m2;generalize hbb:bs.getD a []=b at v hb1 Q D w;rcases(show z<6\/z=6\/z=7\/z=8\/z=9\/z=10\/z=11\/12<=z by lia) with h|rfl|rfl|rfl|rfl|rfl|rfl|h
 .have d:decide (z<6)=true:=QE h;obtain⟨I,X,t',ht',hX,e⟩:=bd m5;exact⟨_,X,t',_,ht',hX,rfl,by show evSs (C<|k+2) (_::_) _=_;simp_all only[f_law_bent,K3,KQ,d,e];rfl⟩
 .obtain ⟨I,e⟩:=e4 (.lst (b.map cT).reverse) .s m5<|.o .s;have he:El (.lst (b.map cT).reverse):=cW (λu hu=>v u<|List.mem_reverse.mp hu) (by rw[MG,J6];lia);exact⟨_,_,t,_,g,wz _ he,rfl,by show evSs (C<|k+2) (_::_) _=_;simp_all only[f_law_bent,K3,KQ,LP,LR,Q1,e];rfl⟩
 .obtain ⟨I,e⟩:=e4 (.lst<|b.map cT++cut (b.map cT) (O (-1)) J) .s m5<|.o .s;have hc:=oS (b.map cT) (O (-1)) J;rw[J6] at hc;have f:fits ((b.map cT).length+(cut (b.map cT) (O (-1)) J).length)=true:=fq (by rw[J6];lia);have he:El (.lst (b.map cT++cut (b.map cT) (O (-1)) J)):=cW (λu hu=>(KP.mp hu).elim (v u) λh=>v u<|oK h) (by rw[Kk,J6];lia);exact⟨_,_,t,_,g,wz _ he,rfl,by show evSs (C<|k+2) (_::_) _=_;simp_all only[f_law_bent,K3,KQ,LP,LR,Q1,f,e];rfl⟩
 .obtain ⟨I,e⟩:=e4 (.lst<|cut (b.map cT) (O 1) J) .s m5<|.o .s;exact⟨_,_,t,_,g,wz _<|D (O 1) J,rfl,by show evSs (C<|k+2) (_::_) _=_;simp_all only[f_law_bent,K3,KQ,LP,LR,Q1,e];rfl⟩
 .obtain ⟨I,e⟩:=e4 (.tup<|b.map cT) .s m5<|.o .s;have he:El (.tup (b.map cT)):=Ek v (by rw[J6];lia);exact⟨_,_,t,_,g,wz _ he,rfl,by show evSs (C<|k+2) (_::_) _=_;simp_all only[f_law_bent,K3,KQ,LP,LR,Q1,e];rfl⟩
 .have H:=d6 r a (a+1) (La _) (ys:=[]) (fun _ h=>nomatch h)<|Kx _;rw[KR] at H;exact⟨_,_,t,_,g,H,rfl,by show evSs (C<|k+2) (_::_) _=_;simp_all only[f_law_bent,K3,KQ,LP,LR,Q1,F,P,g3,f1];rfl⟩
 .have H:=d6 r a a (J9 _) (ys:=[.lst []]) (fun y i=>by rw [KA.mp i]; exact cW (fun _ h=>nomatch h)<|Kx _)<|La _;exact⟨_,_,t,_,g,H,rfl,by show evSs (C<|k+2) (_::_) _=_;simp_all only[f_law_bent,K3,KQ,LP,LR,Q1,F,g3',f2,f4];rfl⟩
 .have d0:decide (z<6)=false:=QP (by lia);have q6:=M 6 (by lia);have q7:=M 7 (by lia);have q8:=M 8 (by lia);have q9:=M 9 (by lia);have q10:=M 10 (by lia);have q11:=M 11 (by lia)
  have l:=d6 r a (a+1) (La _) (ys:=[.lst<|cut (b.map cT) J<|O 1,.lst<|cut (b.map cT) (O 1) J]) (λy i=>by
   rcases Kg.mp i with rfl|i
   .exact D J (O 1)
   .rw[KA.mp i];exact D (O 1) J)<|J9 _
  by_cases hl:a+1<bs.length
  .have L:decide (((a+1:Y):Int)<(bs.length:Int))=true:=QE (by lia);have Z:bs.getD (a+1) []∈bs:=by rw[Kf,Kj hl];exact Lj _
   have g0:atI (bs.map bL) ((a+1:Y):Int)=O (bL (bs.getD (a+1) [])):=atN rfl (by rw[Kz,Kf,Kj hl];rfl);obtain⟨c1,c2⟩:=r.b _ Z;have G:=r.el Z;generalize bs.getD (a+1) []=b2 at g0 c1 c2 Z G;rcases(show z=12\/z=13\/z=14 by lia) with rfl|rfl|rfl
   .have p1:=tY (b++b2);rw[Mk] at p1;have hp:∀p∈(b++b2).map (λx:Y×Y=>((x.1:Int),(x.2:Int))),p.1.natAbs<10000/\p.2.natAbs<10000:=λp hp=>by obtain⟨x,hx,rfl⟩:=Kl.mp hp;have:x.1<12/\x.2<=1000:=(KP.mp hx).elim (Q x) (c2 x);exact⟨by show((x.1:Int)).natAbs<10000;lia,by show((x.2:Int)).natAbs<10000;lia⟩
    obtain⟨s1,s2⟩:=uj hp;have hlen:((b++b2).map λx:Y×Y=>((x.1:Int),(x.2:Int))).length<=24:=by rw[J6,Kk];lia
    have f0:fits ((b.map cT).length+(b2.map cT).length)=true:=fq (by rw[J6,J6];lia);have hd:decide (((b++b2).map λx:Y×Y=>((x.1:Int),(x.2:Int))).length<64)=true:=QE (by lia);generalize (b++b2).map (λx:Y×Y=>((x.1:Int),(x.2:Int)))=ps at p1 s1 s2 hlen hd;have H:=d6 r a (a+2) (by lia) (ys:=[.lst<|(sortP ps).map λp=>T.tup [.int p.1,.int p.2]]) (λy i=>by rw[KA.mp i];exact cW s1<|by lia)<|La _;have ss:∀m,oSem .sortedP JY [(m,.lst (b.map cT++b2.map cT))]=O (.o .s,.lst ((sortP ps).map λp=>T.tup [.int p.1,.int p.2])):=λm=>by rw[i5,p1];show(if decide (ps.length<64)=JZ then _ else J)=_;rw[hd];rfl
    exact⟨_,_,t,_,g,H,rfl,by show evSs (C<|k+2) (_::_) _=_;simp_all only[f_law_bent,K3,KQ,LP,LR,Q1,F,P,g4,g5,g0,l1,L,f0,ss,f2,f4];rfl⟩
   .have H:=d6 r a (a+2) (by lia) (ys:=[bL b2,bL b]) (fun y i=>by
     rcases Kg.mp i with rfl|i
     .exact G
     .rw[KA.mp i];exact r.el w) (J9 _)
    exact⟨_,_,t,_,g,H,rfl,by show evSs (C<|k+2) (_::_) _=_;simp_all only[f_law_bent,K3,KQ,LP,LR,Q1,F,P,g4,g5,g0,l1,L,f3,f5];rfl⟩
   .exact⟨_,_,t,_,g,l,rfl,by show evSs (C<|k+2) (_::_) _=_;simp_all only[f_law_bent,K3,KQ,LP,LR,Q1,F,P,g3,l1,L,f3,f5];rfl⟩
  .have L:decide (((a+1:Y):Int)<(bs.length:Int))=false:=QP (by lia);cases A:(z==12) with
   |true=>have q13:=M 13 (by have:=eq_of_beq A;lia);exact⟨_,_,t,_,g,l,rfl,by show evSs (C<|k+2) (_::_) _=_;simp_all only[f_law_bent,K3,KQ,d0,q6,q7,q8,q9,q10,q11,A,q13,F,P,g3,l1,L,f3,f5];rfl⟩
   |false=>
    cases e13:(z==13) with
    |true=>exact⟨_,_,t,_,g,l,rfl,by show evSs (C<|k+2) (_::_) _=_;simp_all only[f_law_bent,K3,KQ,d0,q6,q7,q8,q9,q10,q11,A,e13,F,P,g3,l1,L,f3,f5];rfl⟩
    |false=>exact⟨_,_,t,_,g,l,rfl,by show evSs (C<|k+2) (_::_) _=_;simp_all only[f_law_bent,K3,KQ,d0,q6,q7,q8,q9,q10,q11,A,e13,F,P,g3,l1,L,f3,f5];rfl⟩
theorem Cv {n:Y}{u:T}(k:n<=12)(h:StT n u):rOk u=true:=by
 obtain⟨i,b,w,d,rfl,f,g,l,m,c,_⟩:=h;have a:rOks (d.map T.int)=true:=rOks_all.mpr λt e=>by obtain⟨x,hx,rfl⟩:=Kl.mp e;have:=c x hx;exact QE<|by lia
 show((decide ((i:Int).natAbs<10000000000000000000)&&(decide ((b:Int).natAbs<10000000000000000000)&&JZ))&&(JZ&&(decide (w.natAbs<10000000000000000000)&&(rOks (d.map T.int)&&JZ))))=JZ;rw[a,QE<|by lia,QE<|by lia,QE<|by lia];rfl
theorem oI:∀a:U Int,szRs (a.map T.int)=102 * a.length
|[]=>rfl
|i::a=>by show 100+2+szRs (a.map T.int)=_;rw[oI a,Ki];lia
theorem HF {n:Y}{u:T}(h:StT n u):szR u<=2000:=by obtain⟨i,a,w,c,rfl,d,e,g,k,b,f⟩:=h;show((100+2+(100+2+0)+4)+2+((0+4)+2+(100+2+((szRs (c.map T.int)+4)+2+0))))+4<=2000;rw[oI];lia
theorem G8:∀{L:U T},(∀u∈L,szR u<=2000)->szRs L<=2002 * L.length
|[],_=>Kx _
|u::L,h=>by have b:=h u Ka;have c:=G8 λv a=>h v<|Ke _ a;show szR u+2+szRs L<=_;rw[Ki];lia
theorem bss (x:Str):(!(x==x))=false:=by rw[Q4];rfl
theorem xh (k N:Y)(bs:U<|U<|Y×Y)(r:Bs bs)(n:Y)(hn:∀b∈bs,b≠[]->0<n)(y:n<=12)(t:T)(ht:Tp N t)(hN:N+100<1000000000000000000)(u g:Md):
  ∃c X f,Tp (N+10) f/\Rz X/\C (k+3) 363 [(.d,t),(u,.lst<|bs.map bL),(g,nI n)]=.ok ((c,X),[(.d,f)]):=by
 obtain⟨z,F,z0,z1,p,L⟩:=E7 (k+1) N bs r n t ht (by lia) u g;have out:∀{c:Md} {X f:T} {l:Env},rd l 0=O (.d,f)->Fl.out [0] (.rt (c,X) l)=.ok ((c,X),[(.d,f)]):=λ{c X f l} h=>by show(ofO<|(rd l 0).bind λw=>O [w]).bind (qe (c,X))=_;rw[h];rfl
 have run:C (k+3) 363 [(.d,t),(u,.lst (bs.map bL)),(g,nI n)]=Fl.out [0] (evSs (C (k+2)) (WB++(WC++WD)) [O (.d,F),O (.s,.lst (bs.map bL)),O (g,nI n),O (.o .s,.lst ((fl bs).map nI)),O (.d,.int z),J,J,J]):=by rw[mq,x_run _ _ _ rfl];show Fl.out [0] (evSs (C<|k+2) (WA++(WB++(WC++WD))) [O (.d,t),O (u,.lst<|bs.map bL),O (g,nI n),J,J,J,J,J])=_;rw[go1 L]
 rw[run];by_cases D:(fl bs).isEmpty=JZ\/z=15
 .obtain ⟨c,X,f,l,i,x,v,M⟩:=DL (k+1) (N+1) bs r z D F p (by lia)<|O (g,nI n);exact⟨c,X,f,tm i<|by lia,x,by rw[jP,M];exact out v⟩
 .have G:(fl bs).isEmpty=false:=by cases e:(fl bs).isEmpty<;>first | rfl | exact QL (.inl e) D
  have I:z≠15:=λe=>D<|.inr e;rw[go1<|F8 (k+1) bs z G I _ _ _];obtain⟨a,t2,H,m,A,w3,m5,P⟩:=Hm (k+1) (N+1) bs r G F p (by lia) (O (g,nI n))<|O (.d,.int z);rw[go1 P];have Z:bs.getD a []∈bs:=by rw[Kf,Kj H];exact Lj _
  obtain⟨c,X,f,l,i,x,v,Q⟩:=HY k (N+1+1) bs r a H m n (hn _ Z m) y z z0 (by lia) t2 A (by lia) w3 g m5;exact⟨c,X,f,tm i<|by lia,x,by rw[Q];exact out v⟩
theorem rpX {L:U T}(e:Sts L){X:T}(f:Rz X):(decide (dp (.tup [.lst L,X])<=64)&&rOk (.tup [.lst L,X])&&fits (szR<|.tup [.lst L,X]))=true:=by
 have o:=e.len;have m:rOk (.lst L)=true:=rOks_all.mpr λt k=>Cv e.len<|e.st t k;have p:=G8 λu g=>HF<|e.st u g
 have n:dps L<=3:=yx λu g=>by
  obtain⟨i,d,w,h,rfl,_⟩:=e.st u g;have:dps (h.map T.int)<=0:=yx λv l=>by obtain⟨_,_,rfl⟩:=Kl.mp l;exact J9 _
  show max (max 0 (max 0 0)+1) (max (0+1)<|max 0<|max (dps (h.map T.int)+1) 0)+1<=3;lia
 have a:dp (.tup [.lst L,X])<=64:=by have:=f.2.1;show max (dps L+1) (max (dp X) 0)+1<=64;lia
 have b:rOk (.tup [.lst L,X])=true:=by show(rOk (.lst L)&&(rOk X&&JZ))=JZ;rw[m,f.1];rfl
 have c:szR (.tup [.lst L,X])<=16777215:=by have:=f.2.2.1;show(szRs L+4)+2+(szR X+2+0)+4<=16777215;lia
 rw[QE a,b];exact QE c
abbrev QI:U S:=[
    .asg (.l [3,5]) 7 (.call 363 [.io 1,.var 5,.op .len JY [.var 3]]),
    .asg (.l [4]) 8 (.op .ix JY [.lst JY [.var 4,.op .max JY [.cst<|.int 1,.op .sub JY [.var 4,.cst<|.int 1]],.cst<|.int 20],.call 201 [.io 1,.cst<|.int 3]]),
    .asg (.q [3,7] []) 9 (.op .repr JY [.tup [.var 3,.var 7]]),
    .asg (.q [3,7,8] []) 10 (.call 356 [.var 3,.var 8,.var 7]),
    .ite (.q [3,7,8,10] []) (.or (.not (.op (.isI ["bool"]) JY [.var 10])) (.op .ne JY [.var 10,.call 358 [.var 3,.var 8,.var 7]])) [
     .ret [] (.cst<|.bl JY)] [],
    .ite (.q [3,7,9] []) (.op .ne JY [.op .repr JY [.tup [.var 3,.var 7]],.var 9]) [
     .ret [] (.cst<|.bl JY)] []]
theorem bbb (x:QJ):(!(x==x))=false:=by cases x<;>rfl
theorem Gh (N:Y)(L:U T)(g:Sts L)(h:Y)(bs:U<|U<|Y×Y)(Z:Bs bs)(hn:∀b∈bs,b≠[]->0<L.length)(t:T)(ht:Tp N t)(Q:N+100<1000000000000000000)(H I F o7 o8 o9 y:j W)(m3 m4 m5:Md):
  ∃G u v w z A D i,Tp (N+20) G/\evSs (C 39) QI [H,O (.d,t),I,O (m3,.lst L),O (m4,nI h),O (m5,.lst<|bs.map bL),F,o7,o8,o9,y]=.nx [H,O (.d,G),I,O (u,.lst L),O (v,nI h),O (w,.lst<|bs.map bL),F,z,A,D,i]:=by
 obtain⟨md,X,t1,o,m,e1⟩:=xh 36 N bs Z L.length hn g.len t ht Q .s .d;obtain⟨r,t2,r0,r1,p,e2⟩:=b9 (n:=38) .d 3 o (by lia) (by decide) (by decide);have M:(if(1:Int)<(h:Int)-1 then(h:Int)-1 else 1)=((max 1 (h-1):Y):Int):=by split<;>lia
 obtain⟨f,P⟩:∃f:Y,atI [nI h,nI (max 1 (h-1)),T.int 20] r=O (nI f):=by
  obtain⟨x,hx,e⟩:=nu (l:=[nI h,nI<|max 1<|h-1,T.int 20]) r0 r1;simp only[Kg,LH,Q3] at hx;rcases hx with rfl|rfl|rfl
  .exact⟨_,e⟩
  .exact⟨_,e⟩
  .exact⟨20,e⟩
 have rp:=rpX g m;have e3:=λa b c=>rO 34 f L g X m.bx a b c;have k:=λa b c=>qp 36 f L g X m.bx a b c;rw[<- BN g f X] at k;generalize spP L f X=s at e3 k;exact⟨t2,_,_,_,_,_,_,_,tm p<|by lia,by simp_all only[e1,e2,M,P,rp,e3,k,Dt,bbb,bss];rfl⟩
theorem x9 (N:Y)(L:U T)(hL:Sts L)(h:Y)(bs:U<|U<|Y×Y)(hb:Bs bs)(hn:∀b∈bs,b≠[]->0<L.length)(t:T)(ht:Tp N t)(hN:N+1000<1000000000000000000)(M P I z D G k:j W)(o u w:Md):
  ∃m s v x y A F H l,Tp (N+80) m/\aY [6] (evSs (C 39) QI) ((Kc 4).map λ(i:Y)=>[((.d,.int (i:Int)):W)]) [M,O (.d,t),P,O (o,.lst L),O (u,nI h),O (w,.lst<|bs.map bL),I,z,D,G,k]=.nx [M,O (.d,m),P,O (s,.lst L),O (v,nI h),O (x,.lst<|bs.map bL),y,A,F,H,l]:=by
 obtain⟨η',lp,m,s,v,x,y,A,F,H,l,n,rfl⟩:=b7 (tg:=[6]) (f:=evSs (C 39) QI) (g:=λ(i:Y)=>[((.d,.int (i:Int)):W)])
  (λpre η=>∃(m:T) (o u w:Md) (I z D G k:j W),Tp (N+20 * pre.length) m/\η=[M,O (.d,m),P,O (o,.lst L),O (u,nI h),O (w,.lst<|bs.map bL),I,z,D,G,k])
  (Kc 4) [] [M,O (.d,t),P,O (o,.lst L),O (u,nI h),O (w,.lst<|bs.map bL),I,z,D,G,k] ⟨t,o,u,w,I,z,D,G,k,ht,rfl⟩
  (by
   rintro p i r η hp ⟨m,o,u,w,I,z,D,G,k,n,he⟩;subst he;have Q:=QW Mq hp;simp only[Lv,KY,Kk,Ki] at Q;obtain⟨t2,a,b,c,d,e,f,g,Z,hh⟩:=Gh _ L hL h bs hb hn m n (by lia) M P (O (.d,.int (i:Int))) z D G k o u w;exact⟨_,_,rfl,hh,t2,a,b,c,_,d,e,f,g,tm Z<|by rw[Kk,KN];lia,rfl⟩)
 exact⟨m,s,v,x,y,A,F,H,l,tm n<|by show N+20 * 4<=_;lia,lp⟩
noncomputable abbrev QU:U S:=[
   .asg (.l []) 3 (.call 278 [.io 1]),
   .asg (.l [3]) 4 (.call 279 [.io 1]),
   .asg (.l [3,4]) 5 (.call 359 [.io 1,.var 3,.var 4])]
abbrev QV:U S:=[
   .ite (.q [3,4,5] []) (.op .isnB JY [.call 356 [.var 3,.var 4,.var 5],.cst (.bl JZ)]) [
    .ret [] (.cst<|.bl JY)] [],
   .forS [] [] .rng [.cst<|.int 4] [6] QI]
def QO:U S:=QU++QV
theorem G7 (N:Y)(t:T)(ht:Tp N t)(hN:N+100000<1000000000000000000)(m n o3 o4 o5 o p u v e:j W):
  ∃F o3' o4' o5' o6' o7' o8' o9' A,Tp (N+30000) F/\evSs (C 39) QO [m,O (.d,t),n,o3,o4,o5,o,p,u,v,e]=.nx [m,O (.d,F),n,o3',o4',o5',o6',o7',o8',o9',A]:=by
 obtain⟨md,L,t1,ht1,l1,D,l3,e1⟩:=rj (L:=37) ht (by lia);have w:Sts L:=⟨l1,D,l3⟩;obtain⟨md2,h,t2,ht2,h1,h2,e2⟩:=uF (L:=37) ht1 (by lia);obtain⟨h,rfl⟩:=Ms (show 0<=h by lia);obtain⟨md3,bs,l4,G,ht3,r,z,Z,e3⟩:=xX 37 (N+300+3) h (by lia) L w t2 ht2 (by lia) .s .s;have f:Bs bs:=⟨Z,GJ w.len r (bP L)<|wo w⟩
 have hn:∀b∈bs,b≠[]->0<L.length:=λb P Q=>by
  have key:∀{l D:U Y} {bs:U (U (Y×Y))},Run (PL L) h l bs D->l.length=L.length->b∈bs->0<L.length:=by
   intro l D bs r;induction r with
   |nil l=>exactλ_ f=>nomatch f
   | cons y _ ih =>
    intro hl f;rcases Kg.mp f with rfl|f
    .obtain ⟨x,hx⟩:=List.exists_mem_of_ne_nil _ Q;have:=(y.one x hx).1;lia
    .exact ih (by rw[y.len,hl]) f
  exact key r (bP L) P
 have e4:=λa b c=>zO 34 h L w r z a b c;have I:∃m3 m4 m5,evSs (C 39) QU [m,O (.d,t),n,o3,o4,o5,o,p,u,v,e]=.nx [m,O (.d,G),n,O (m3,.lst L),O (m4,nI h),O (m5,.lst (bs.map bL)),o,p,u,v,e]:=⟨_,_,_,by simp_all only[e1,e2,e3];rfl⟩;obtain⟨m3,m4,m5,I⟩:=I;unfold QO;rw[go1 I];have n1:(decide ((4:Int).natAbs<4611686018427387904)&&fits 4)=true:=rfl;have n2:(4:Int).toNat=4:=rfl;have bt:(!(JZ==JZ))=false:=rfl;have M:∃g i k,evSs (C 39) (QV.take 1) [m,O (.d,G),n,O (m3,.lst L),O (m4,nI h),O (m5,.lst (bs.map bL)),o,p,u,v,e]=.nx [m,O (.d,G),n,O (g,.lst L),O (i,nI h),O (k,.lst (bs.map bL)),o,p,u,v,e]:=⟨_,_,_,by simp_all only[Na,NH,e4,rn,bt];rfl⟩;obtain⟨g,i,k,M⟩:=M;obtain⟨F,a3,a4,a5,a6,a7,a8,a9,H,ht',lp⟩:=x9 _ L w h bs f hn G ht3 (by lia) m n o p u v e g i k;refine⟨F,O (a3,.lst L),O (a4,nI h),O (a5,.lst<|bs.map bL),a6,a7,a8,a9,H,tm ht'<|by lia,?_⟩;show evSs (C 39) (QV.take 1++QV.drop 1) _=_;rw[go1 M];show evSs (C 39) [.forS [] [] .rng [.cst<|.int 4] [6] QI] _=_;simp_all only[n1,n2,lp]
theorem wC (t:T)(H:Tp 0 t)(w:j W):
  ∃M x o3 l m n o s u k,aY [2] (evSs (C 39) QO) ((Kc 4).map λ(i:Y)=>[((.d,.int (i:Int)):W)]) [w,O (.d,t),J,J,J,J,J,J,J,J,J]=.nx [w,M,x,o3,l,m,n,o,s,u,k]:=by
 obtain⟨N,I,v,x,o3,l,m,n,o,s,u,k,_,rfl⟩:=b7 (tg:=[2]) (f:=evSs (C 39)<|QU++QV) (g:=λ(i:Y)=>[((.d,.int (i:Int)):W)])
  (λpre D=>∃(v:T) (x o3 l m n o s u k:j W),Tp (30000 * pre.length) v/\D=[w,O (.d,v),x,o3,l,m,n,o,s,u,k])
  (Kc 4) [] [w,O (.d,t),J,J,J,J,J,J,J,J,J] ⟨t,J,J,J,J,J,J,J,J,J,H,rfl⟩
  (by
   rintro p i r D hp ⟨v,x,o3,l,m,n,o,s,u,k,z,F⟩;subst F;have y:=QW Mq hp;simp only[Lv,KY,Kk,Ki] at y;obtain⟨L,a,b,c,d,e,f,g,h,A,G⟩:=G7 _ v z (by lia) w (O (.d,.int (i:Int))) o3 l m n o s u k;exact⟨_,_,rfl,G,L,_,a,b,c,d,e,f,g,h,tm A<|by rw[Kk,KN];lia,rfl⟩)
 exact⟨_,_,_,_,_,_,_,_,_,_,I⟩
theorem pure_law (a:U Int):∃m bs,C 40 0 [(.d,.scr a)]=.ok ((m,.bl JZ),bs):=by have b:Tp 0 (nT (cut a J (O 63)) 0 0):=⟨_,0,0,rfl,J9 _⟩;have e1:=xZ a;obtain⟨s,t,o3,k,l,n,o,p,r,i,c⟩:=wC _ b<|O (.d,.scr a);generalize nT (cut a J<|O 63) 0 0=t0 at e1 c;have g:(decide ((4:Int).natAbs<4611686018427387904)&&fits 4)=true:=rfl;have h:(4:Int).toNat=4:=rfl;rw[show C 40 0 [(.d,.scr a)]=runF (C 39) f_law [(.d,.scr a)] from rfl,x_run _ _ _ rfl];have e:f_law.body=[.asg (.q [0] []) 1 (.call 179 [.var 0]),.forS [] [] .rng [.cst (.int 4)] [2] QO,.ret [] (.cst (.bl JZ))]:=rfl;have f:f_law.ns=10:=rfl;rw[e];exact⟨_,_,by simp_all only[f,e1,g,h,c];rfl⟩
end
end P75

namespace A75
open PySem PySem.Spec PyProof.Rows L2 L3 MR
noncomputable def top (i:Y):Q0:=PySem.Challenge.pw_broadrow_k75_timetables_looked_at.main.body.getD i<|.Pass ⟨0,0,0,0⟩
abbrev um:Q0:=top 1
abbrev vE:Q0:=top 2
abbrev tP:Q0:=top 4
abbrev uT:Q0:=top 5
abbrev uV:Q0:=top 6
abbrev rX:Q0:=top 8
abbrev uU:Q0:=top 9
abbrev su:Q0:=top 10
abbrev vJ:Q0:=top 11
abbrev rC:Q0:=top 12
abbrev vW:Q0:=top 13
abbrev uX:Q0:=top 14
abbrev vh:Q0:=top 15
abbrev vK:Q0:=top 16
abbrev uM:Q0:=top 17
abbrev rG:Q0:=top 18
abbrev rZ:Q0:=top 19
abbrev s0:Q0:=top 20
structure Glb (K:J2)(w:J8)(mg:Str->j B):Prop where
 mk ::
structure Calls (P:QN)(w:J8)(K:J2)(mg:Str->j B)(base:QS)(n:Y)(C:M.Call):Prop where
 c264:af P w K mg base n C "sort_of" 264 []
 c265:af P w K mg base n C "are_numbers" 265 []
 c356:af P w K mg base n C "is_timetable" 356 []
 c357:af P w K mg base n C "is_beat" 357 []
 c302:af P w K mg base n C "is_dealt" 302 []
 c179:af P w K mg base n C "_law_tape" 179 []
 c201:af P w K mg base n C "_law_draw" 201 [0]
 c278:af P w K mg base n C "_law_waits" 278 [0]
 c279:af P w K mg base n C "_law_hands" 279 [0]
 c308:af P w K mg base n C "_law_can" 308 []
 c272:af P w K mg base n C "_law_whole" 272 []
 c303:af P w K mg base n C "_law_is_deal" 303 []
 c358:af P w K mg base n C "_law_is_table" 358 []
 c359:af P w K mg base n C "_law_other_table" 359 [0]
 c360:af P w K mg base n C "_law_with" 360 []
 c361:af P w K mg base n C "_law_bent_deal" 361 [0]
 c363:af P w K mg base n C "_law_bent" 363 [0]
abbrev DD (x:Str)(e:Q0)(N:U Str)(g:M.Fn):Prop:=∀{P:QN} {w:J8} {K:J2} {d:Str->j B} {a:QS} {n:Y} {C:M.Call} {f:QF} {c:B} {A:Kq} {b:U Env} {s:J0} {H:Hp} {E:XK},Calls P w K d a n C->Txt d->Glb K w d->Room n (A.deeper<|Ll x (defScope e) s.heap.objs.size f c)->SSs (kb CX0 P w K d a N x (defScope e) f c A b s H E).nox (slN N.length) g.io C (defBody e) g.body
theorem FU:aC ["thing"] ["thing"] (defScope um):=fsc
theorem IA:DD "sort_of" um ["thing"] aX:=λ{_ _ _ _ _ _ _ _ _ _ _ s _ _} a T G b=>
 have S:=FU
 (@ssc _ _ _ _ _ _ _ _ (zIf (tB (ck (by decide) OV T.isin T.bool (sV 0))) (ss1 (aK sS)) ss0)
    (@ssc _ _ _ _ _ _ _ _ (zIf (tB (ck (by decide) Qq T.isin T.int (sV 0))) (ss1 (aK sS)) ss0)
    (@ssc _ _ _ _ _ _ _ _ (zIf (tB (ck (by decide) Qs T.isin T.str (sV 0))) (ss1 (aK sS)) ss0)
    (@ssc _ _ _ _ _ _ _ _ (zIf (tB (ck (by decide) Ma T.isin T.list (sV 0))) (ss1 (aK sS)) ss0)
    (ss1 (aK (sIf (tB (ck (by decide) NQ T.isin T.tup (sM 0))) sS sS)))))))
theorem FG:aC ["thing"] ["thing"] (defScope vE):=fsc
theorem Jw:DD "are_numbers" vE ["thing"] aD:=λ{_ _ _ _ _ _ _ _ _ _ _ s _ _} b T G a=>
 have S:=FG
 (ss1 (aK (sBW (iE (ck (by decide) NQ T.isin T.tup (sV 0)) (vA1 (Dq (hm:=T.all) (ha:=(sC1 [] [] [] [] (de (sV 0)) (λ_ _ _ _=>(sEq a (aA b.c264 a (@say _ _ _ _ _ _ _ (sV 0) sa0 rfl rfl)) sS)) csc .nil .nil))))))))
theorem EO:aC ["steps","hands","thing","left","beat","one"] ["steps","hands","thing"] (defScope tP):=fsc
theorem JJ:DD "is_timetable" tP ["steps","hands","thing","left","beat","one"] aq:=λ{_ _ _ _ _ _ _ _ _ _ _ s _ _} b T G a=>
 have S:=EO
 (@ssc _ _ _ _ _ _ _ _ (zIf (er (tB (ck (by decide) Ma T.isin T.list (sV 2)))) (ss1 (aK sO)) ss0)
    (@ssc _ _ _ _ _ _ _ _ (@zA _ _ _ _ _ _ _ 3 _ _ _ _ S.nd (sC1 [] [] [] [] (de (sV 0)) (λ_ _ _ _=>(@aE _ _ _ _ _ _ _ _ _ (sV 0) sI (λ_ _=>rfl))) csc .nil .nil) rfl rfl rfl rfl rfl rfl)
    (@ssc _ _ _ _ _ _ _ _ (dS 4 S.nd (de (sV 2)) (@ssc _ _ _ _ _ _ _ _ (zIf (er (tB (aA b.c357 a (@say _ _ _ _ _ _ _ (sV 4) (@say _ _ _ _ _ _ _ (eB (hm:=T.len) (ha:=(sV 0))) (@say _ _ _ _ _ _ _ (sV 1) sa0 rfl rfl) rfl rfl) rfl rfl)))) (ss1 (aK sO)) ss0)
     (@ssc _ _ _ _ _ _ _ _ (dS 5 S.nd (de (sV 4)) (ss1 (zIf (tB (JR (hm:=T.any) (ha:=(sC1 [3] [3] [("left",s.heap.objs.size+1)] ["left"] (de (@aE _ _ _ _ _ _ _ _ _ (@aE _ _ _ _ _ _ _ _ _ (sV 0) (@aE _ _ _ _ _ _ _ _ _ (sV 5) sI (λ_ _=>rfl)) (λ_ _=>rfl)) sI (λ_ _=>rfl))) (λ_ _ _ _=>(sNe a (@aE _ _ _ _ _ _ _ _ _ (sV 1) (sV 0) (λ_ _=>rfl)) sI)) csc (kh .nil) (frc .nil))))) (ss1 (aK sO)) ss0)))
     (ss1 (dS 5 S.nd (de (sV 4)) (ss1 (qa 3 (mX (@aE _ _ _ _ _ _ _ _ _ (sV 3) (@aE _ _ _ _ _ _ _ _ _ (sV 5) sI (λ_ _=>rfl)) (λ_ _=>rfl)) (@aE _ _ _ _ _ _ _ _ _ (sV 5) sI (λ_ _=>rfl))) (@aE _ _ _ _ _ _ _ _ _ (sV 5) sI (λ_ _=>rfl)))))))))
    (ss1 (aK (Dq (hm:=T.all) (ha:=(sC1 [] [] [] [] (de (sM 3)) (λ_ _ _ _=>(sEq a (sV 0) sI)) csc .nil .nil))))))))
theorem FW:aC ["thing","many","hands","numbers"] ["thing","many","hands"] (defScope uT):=fsc
theorem IG:DD "is_beat" uT ["thing","many","hands","numbers"] aH:=λ{_ _ _ _ _ _ _ _ _ _ _ s _ _} b T G a=>
 have S:=FW
 (@ssc _ _ _ _ _ _ _ _ (zIf (tW (wOr (er (tB (ck (by decide) Ma T.isin T.list (sV 0)))) (wO1 (er (tB (Dq (hm:=T.all) (ha:=(sC1 [1] [1] [("many",s.heap.objs.size+1)] ["many"] (de (sV 0)) (λ_ _ _ _=>(aA b.c302 a (@say _ _ _ _ _ _ _ (sV 0) (@say _ _ _ _ _ _ _ (sV 1) sa0 rfl rfl) rfl rfl))) csc (kh .nil) (frc .nil))))))))) (ss1 (aK sO)) ss0)
    (@ssc _ _ _ _ _ _ _ _ (zC1 3 [] [] [] [] (de (sV 0)) (λ_ _ _ _=>(@aE _ _ _ _ _ _ _ _ _ (sV 0) sI (λ_ _=>rfl))) csc .nil .nil S.nd)
    (ss1 (aK (sBW (iE (sEq a (sV 3) (tN (hm:=T.sorted) (hm2:=T.set) (ha:=(sV 3)))) (vA1 (sLe (Ii (hm:=T.sum) (ha:=(sC1 [] [] [] [] (de (sM 0)) (λ_ _ _ _=>(@aE _ _ _ _ _ _ _ _ _ (sV 0) sI (λ_ _=>rfl))) csc .nil .nil))) (sM 2)))))))))
theorem EU:aC ["thing","many"] ["thing","many"] (defScope uV):=fsc
theorem Jj:DD "is_dealt" uV ["thing","many"] aU:=λ{_ _ _ _ _ _ _ _ _ _ _ s _ _} b T G a=>
 have S:=EU
 (ss1 (aK (sBW (iE (aA b.c265 a (@say _ _ _ _ _ _ _ (sV 0) sa0 rfl rfl)) (iE (sEq a (eB (hm:=T.len) (ha:=(sV 0))) sI) (iE (yk sI (@aE _ _ _ _ _ _ _ _ _ (sV 0) sI (λ_ _=>rfl)) (sM 1)) (vA1 (sGe (@aE _ _ _ _ _ _ _ _ _ (sV 0) sI (λ_ _=>rfl)) sI))))))))
theorem Il:aC ["_law_script"] ["_law_script"] (defScope rX):=fsc
theorem Jd:DD "_law_tape" rX ["_law_script"] b5:=λ{_ _ _ _ _ _ _ _ _ _ _ s _ _} a T G b=>
 have S:=Il
 (ss1<|aK<|@sLx _ _ _ _ _ _ _ (by decide)<|@slx _ _ _ _ _ _ _ (G9 (hm:=T.list) (ha:=(jI (sM 0) sI))) (@slx _ _ _ _ _ _ _ sI (@slx _ _ _ _ _ _ _ sI sl0 rfl) rfl) rfl)
theorem FP:aC ["_law_tape_here","_law_many","_law_digit","_law_at","_law_cell","_law_mixed"] ["_law_tape_here","_law_many"] (defScope uU):=fsc
theorem Jb:DD "_law_draw" uU ["_law_tape_here","_law_many","_law_digit","_law_at","_law_cell","_law_mixed"] bA:=λ{_ _ _ _ _ _ _ _ _ _ _ s _ _} a T G b=>
 have S:=FP
 (@ssc _ _ _ _ _ _ _ _ (zIf (mE (@aE _ _ _ _ _ _ _ _ _ (sV 0) sI (λ_ _=>rfl)) sI) (@ssc _ _ _ _ _ _ _ _ (@zA _ _ _ _ _ _ _ 2 _ _ _ _ S.nd (fI (@aE _ _ _ _ _ _ _ _ _ (sV 0) sI (λ_ _=>rfl)) (sV 1)) rfl rfl rfl rfl rfl rfl)
      (@ssc _ _ _ _ _ _ _ _ (qa 0 (vG (@aE _ _ _ _ _ _ _ _ _ (sV 0) sI (λ_ _=>rfl)) (sV 1)) sI)
      (ss1 (aK (sM 2))))) ss0)
    (@ssc _ _ _ _ _ _ _ _ (@zA _ _ _ _ _ _ _ 3 _ _ _ _ S.nd (@aE _ _ _ _ _ _ _ _ _ (sV 0) sI (λ_ _=>rfl)) rfl rfl rfl rfl rfl rfl)
    (@ssc _ _ _ _ _ _ _ _ (qa 0 (aV (sV 3) sI) sI)
    (@ssc _ _ _ _ _ _ _ _ (@zA _ _ _ _ _ _ _ 4 _ _ _ _ S.nd sI rfl rfl rfl rfl rfl rfl)
    (@ssc _ _ _ _ _ _ _ _ (zIf (mE (eB (hm:=T.len) (ha:=(@aE _ _ _ _ _ _ _ _ _ (sV 0) sI (λ_ _=>rfl)))) sI) (ss1 (@zA _ _ _ _ _ _ _ 4 _ _ _ _ S.nd (@aE _ _ _ _ _ _ _ _ _ (@aE _ _ _ _ _ _ _ _ _ (sV 0) sI (λ_ _=>rfl)) (fI (sV 3) (eB (hm:=T.len) (ha:=(@aE _ _ _ _ _ _ _ _ _ (sV 0) sI (λ_ _=>rfl))))) (λ_ _=>rfl)) rfl rfl rfl rfl rfl rfl)) ss0)
    (@ssc _ _ _ _ _ _ _ _ (zIf (tW (tH (we (sV 3) (eB (hm:=T.len) (ha:=(@aE _ _ _ _ _ _ _ _ _ (sV 0) sI (fun _ _=>rfl))))) (wA1 (Iu (sV 4) (Jz sI sI))))) (@ssc _ _ _ _ _ _ _ _ (qa 0 (vG (sV 4) (sV 1)) sI)
     (ss1 (aK (fI (sM 4) (sM 1))))) ss0)
    (@ssc _ _ _ _ _ _ _ _ (@zA _ _ _ _ _ _ _ 5 _ _ _ _ S.nd (fI (nK (aV (fI (sV 4) sI) sI) (aV (aV (nK (nK sI (sV 3)) (sV 3)) (nK sI (sV 3))) sI)) sI) rfl rfl rfl rfl rfl rfl)
    (@ssc _ _ _ _ _ _ _ _ (@zA _ _ _ _ _ _ _ 5 _ _ _ _ S.nd (fI (aV (aV (nK (sV 5) (sV 5)) (nK sI (sV 3))) (fI (sV 4) sI)) sI) rfl rfl rfl rfl rfl rfl)
    (ss1 (aK (fI (vG (sM 5) sI) (sM 1))))))))))))
theorem HV:aC ["_law_tape_here","_law_many","_law_left","_law_turn","_law_ahead","_law_often","_law_k","_law_number","_law_found","_law_width"] ["_law_tape_here"] (defScope su):=fsc
theorem Jp:DD "_law_waits" su ["_law_tape_here","_law_many","_law_left","_law_turn","_law_ahead","_law_often","_law_k","_law_number","_law_found","_law_width"] f_law_waits:=λ{_ _ _ _ _ _ _ _ _ _ _ s _ _} b T G a=>
 have S:=HV
 (@ssc _ _ _ _ _ _ _ _ (@zA _ _ _ _ _ _ _ 1 _ _ _ _ S.nd (@aE _ _ _ _ _ _ _ _ _ (@sLx _ _ _ _ _ _ _ (by decide) (@slx _ _ _ _ _ _ _ sI (@slx _ _ _ _ _ _ _ sI (@slx _ _ _ _ _ _ _ sI (@slx _ _ _ _ _ _ _ sI (@slx _ _ _ _ _ _ _ sI (@slx _ _ _ _ _ _ _ sI (@slx _ _ _ _ _ _ _ sI (@slx _ _ _ _ _ _ _ sI (@slx _ _ _ _ _ _ _ sI (@slx _ _ _ _ _ _ _ sI (@slx _ _ _ _ _ _ _ sI (@slx _ _ _ _ _ _ _ sI sl0 rfl) rfl) rfl) rfl) rfl) rfl) rfl) rfl) rfl) rfl) rfl) rfl)) (aA b.c201 a (sai 0 (@say _ _ _ _ _ _ _ sI sa0 rfl rfl))) (λ_ _=>rfl)) rfl rfl rfl rfl rfl rfl)
    (@ssc _ _ _ _ _ _ _ _ (@zA _ _ _ _ _ _ _ 2 _ _ _ _ S.nd (IF T.list T.range (sV 1)) rfl rfl rfl rfl rfl rfl)
    (@ssc _ _ _ _ _ _ _ _ (@zA _ _ _ _ _ _ _ 3 _ _ _ _ S.nd (@sLx _ _ _ _ _ _ _ (by decide) sl0) rfl rfl rfl rfl rfl rfl)
    (@ssc _ _ _ _ _ _ _ _ (@zA _ _ _ _ _ _ _ 4 _ _ _ _ S.nd Fe rfl rfl rfl rfl rfl rfl)
    (@ssc _ _ _ _ _ _ _ _ (@zA _ _ _ _ _ _ _ 5 _ _ _ _ S.nd (aV sI (aA b.c201 a (sai 0 (@say _ _ _ _ _ _ _ sI sa0 rfl rfl)))) rfl rfl rfl rfl rfl rfl)
    (@ssc _ _ _ _ _ _ _ _ (dS 6 S.nd (qy (hm:=T.range) (ha:=(sV 1))) (@ssc _ _ _ _ _ _ _ _ (@zA _ _ _ _ _ _ _ 7 _ _ _ _ S.nd (HR 2 (aA b.c201 a (sai 0 (@say _ _ _ _ _ _ _ (Ic 2 T.len) sa0 rfl rfl)))) rfl rfl rfl rfl rfl rfl)
     (@ssc _ _ _ _ _ _ _ _ (EW 4 a (xj (hm:=T.sorted) (ha:=(JV 3 [5,0] [5,0] [("_law_tape_here",s.heap.objs.size+1),("_law_often",s.heap.objs.size+2)] ["_law_often","_law_tape_here"] (λ_ _ _ _=>(dX a (aA b.c201 a (sai 2 (@say _ _ _ _ _ _ _ (sV 1) sa0 rfl rfl))) sI)) (λ_ _ _ _=>(sV 0)) csc (kh (kh .nil)) (frc (frc .nil))))) (sV 7))
     (ss1 (xf 3 (sV 7))))))
    (@ssc _ _ _ _ _ _ _ _ (@zA _ _ _ _ _ _ _ 8 _ _ _ _ S.nd (@sLx _ _ _ _ _ _ _ (by decide) sl0) rfl rfl rfl rfl rfl rfl)
    (@ssc _ _ _ _ _ _ _ _ (dS 6 S.nd (qy (hm:=T.range) (ha:=(sV 1))) (@ssc _ _ _ _ _ _ _ _ (@zA _ _ _ _ _ _ _ 9 _ _ _ _ S.nd (@aE _ _ _ _ _ _ _ _ _ (@sLx _ _ _ _ _ _ _ (by decide) (@slx _ _ _ _ _ _ _ sI (@slx _ _ _ _ _ _ _ (aV sI (aA b.c201 a (sai 0 (@say _ _ _ _ _ _ _ sI sa0 rfl rfl)))) (@slx _ _ _ _ _ _ _ (aV sI (aA b.c201 a (sai 0 (@say _ _ _ _ _ _ _ sI sa0 rfl rfl)))) (@slx _ _ _ _ _ _ _ (aV sI (aA b.c201 a (sai 0 (@say _ _ _ _ _ _ _ sI sa0 rfl rfl)))) sl0 rfl) rfl) rfl) rfl)) (Gi (nK (aA b.c201 a (sai 0 (@say _ _ _ _ _ _ _ sI sa0 rfl rfl))) sI) sI) (fun _ _=>rfl)) rfl rfl rfl rfl rfl rfl)
     (ss1 (xf 8 (@sTx _ _ _ _ _ _ _ (by decide) (@slx _ _ _ _ _ _ _ (@sTx _ _ _ _ _ _ _ (by decide) (@slx _ _ _ _ _ _ _ (Gi (sV 6) sI) (@slx _ _ _ _ _ _ _ (IK (sV 6) sI) sl0 rfl) rfl)) (@slx _ _ _ _ _ _ _ (@sTx _ _ _ _ _ _ _ (by decide) sl0) (@slx _ _ _ _ _ _ _ (sV 9) (@slx _ _ _ _ _ _ _ (CC a (sV 4) (sV 6)) sl0 rfl) rfl) rfl) rfl))))))
    (ss1 (aK (sM 8)))))))))))
theorem FD:aC ["_law_tape_here"] ["_law_tape_here"] (defScope vJ):=fsc
theorem JP:DD "_law_hands" vJ ["_law_tape_here"] bJ:=λ{_ _ _ _ _ _ _ _ _ _ _ s _ _} a T G b=>
 have S:=FD
 (@ss1 _ _ _ _ _ _<|@aK _ _ _ _ _ _ _ _<|@aE _ _ _ _ _ _ _ _ _ (@sLx _ _ _ _ _ _ _ (by decide)<|@slx _ _ _ _ _ _ _ sI (@slx _ _ _ _ _ _ _ sI (@slx _ _ _ _ _ _ _ (aV sI<|aA a.c201 b<|sai 0<|@say _ _ _ _ _ _ _ sI sa0 rfl rfl) (@slx _ _ _ _ _ _ _ (aV sI<|aA a.c201 b<|sai 0<|@say _ _ _ _ _ _ _ sI sa0 rfl rfl) sl0 rfl) rfl) rfl) rfl) (aA a.c201 b<|sai 0<|@say _ _ _ _ _ _ _ sI sa0 rfl rfl) λ_ _=>rfl)
theorem Gr:aC ["_law_steps","_law_left"] ["_law_steps","_law_left"] (defScope rC):=fsc
theorem JM:DD "_law_can" rC ["_law_steps","_law_left"] cH:=λ{_ _ _ _ _ _ _ _ _ _ _ s _ _} b T G a=>
 have S:=Gr
 (ss1 (aK (Fu [1,0] [1,0] [("_law_steps",s.heap.objs.size+1),("_law_left",s.heap.objs.size+2)] ["_law_left","_law_steps"] (qy (hm:=T.range) (ha:=(eB (hm:=T.len) (ha:=(sV 0))))) (λ_ _ _ _=>(tW (tH (mE (@aE _ _ _ _ _ _ _ _ _ (sV 1) (sV 0) (λ_ _=>rfl)) sI) (wA1 (dX a (Fu [1] [1] [("_law_left",s.heap.objs.size+2)] ["_law_left"] (de (@aE _ _ _ _ _ _ _ _ _ (@aE _ _ _ _ _ _ _ _ _ (sV 2) (sV 0) (λ_ _=>rfl)) sI (λ_ _=>rfl))) (λ_ _ _ _=>(mE (@aE _ _ _ _ _ _ _ _ _ (sV 1) (sV 0) (λ_ _=>rfl)) sI)) (λ_ _ _ _=>(sV 0)) csc (kh .nil) (frc .nil)) (@sLx _ _ _ _ _ _ _ (by decide) sl0)))))) (λ_ _ _ _=>(sV 0)) csc (kh (kh .nil)) (frc (frc .nil)))))
theorem GA:aC ["_law_thing"] ["_law_thing"] (defScope vW):=fsc
theorem IJ:DD "_law_whole" vW ["_law_thing"] aG:=λ{_ _ _ _ _ _ _ _ _ _ _ s _ _} a T G b=>
 have S:=GA
 (ss1 (aK (sBW (iE (ck (by decide) Qq T.isin T.int (sV 0)) (vA1 (Iy (ck (by decide) OV T.isin T.bool (sV 0))))))))
theorem Gf:aC ["_law_many","_law_thing"] ["_law_many","_law_thing"] (defScope uX):=fsc
theorem JQ:DD "_law_is_deal" uX ["_law_many","_law_thing"] ai:=λ{_ _ _ _ _ _ _ _ _ _ _ s _ _} b T G a=>
 have S:=Gf
 (@ssc _ _ _ _ _ _ _ _ (zIf (tW (wOr (er (tB (ck (by decide) NQ T.isin T.tup (sV 1)))) (wO1 (u5 a (eB (hm:=T.len) (ha:=(sV 1))) sI)))) (ss1 (aK sO)) ss0)
    (ss1 (aK (sBW (iE (aA b.c272 a (@say _ _ _ _ _ _ _ (@aE _ _ _ _ _ _ _ _ _ (sV 1) sI (λ_ _=>rfl)) sa0 rfl rfl)) (iE (aA b.c272 a (@say _ _ _ _ _ _ _ (@aE _ _ _ _ _ _ _ _ _ (sV 1) sI (λ_ _=>rfl)) sa0 rfl rfl)) (iE (sLe sI (@aE _ _ _ _ _ _ _ _ _ (sV 1) sI (λ_ _=>rfl))) (iE (sLt (@aE _ _ _ _ _ _ _ _ _ (sV 1) sI (λ_ _=>rfl)) (sM 0)) (vA1 (sGt (@aE _ _ _ _ _ _ _ _ _ (sV 1) sI (λ_ _=>rfl)) sI))))))))))
theorem G5:aC ["_law_steps","_law_hands_here","_law_thing","_law_beats","_law_done","_law_at","_law_beat","_law_last","_law_busy","_law_deal","_law_k","_law_step","_law_other"] ["_law_steps","_law_hands_here","_law_thing"] (defScope vh):=fsc
theorem IU:DD "_law_is_table" vh ["_law_steps","_law_hands_here","_law_thing","_law_beats","_law_done","_law_at","_law_beat","_law_last","_law_busy","_law_deal","_law_k","_law_step","_law_other"] ah:=λ{_ _ _ _ _ _ _ _ _ _ _ s _ _} b T G a=>
 have S:=G5
 (@ssc _ _ _ _ _ _ _ _ (zIf (er (tB (ck (by decide) Ma T.isin T.list (sV 2)))) (ss1 (aK sO)) ss0)
    (@ssc _ _ _ _ _ _ _ _ (zC1 3 [] [] [] [] (de (sV 0)) (λ_ _ _ _=>(@sLx _ _ _ _ _ _ _ (by decide) sl0)) csc .nil .nil S.nd)
    (@ssc _ _ _ _ _ _ _ _ (zC1 4 [] [] [] [] (de (sV 0)) (λ_ _ _ _=>sI) csc .nil .nil S.nd)
    (@ssc _ _ _ _ _ _ _ _ (sC 5 6 S.nd (AO (hm:=T.enum) (ha:=(sV 2))) (@ssc _ _ _ _ _ _ _ _ (zIf (er (tB (ck (by decide) Ma T.isin T.list (sV 6)))) (ss1 (aK sO)) ss0)
     (@ssc _ _ _ _ _ _ _ _ (@zA _ _ _ _ _ _ _ 7 _ _ _ _ S.nd (xS sI) rfl rfl rfl rfl rfl rfl)
     (@ssc _ _ _ _ _ _ _ _ (@zA _ _ _ _ _ _ _ 8 _ _ _ _ S.nd sI rfl rfl rfl rfl rfl rfl)
     (@ssc _ _ _ _ _ _ _ _ (dS 9 S.nd (de (sV 6)) (@ssc _ _ _ _ _ _ _ _ (zIf (tW (wOr (er (tB (aA b.c303 a (@say _ _ _ _ _ _ _ (eB (hm:=T.len) (ha:=(sV 0))) (@say _ _ _ _ _ _ _ (sV 9) sa0 rfl rfl) rfl rfl)))) (wO1 (Ij (@aE _ _ _ _ _ _ _ _ _ (sV 9) sI (fun _ _=>rfl)) (sV 7))))) (ss1 (aK sO)) ss0)
      (@ssc _ _ _ _ _ _ _ _ (@zA _ _ _ _ _ _ _ 7 _ _ _ _ S.nd (@aE _ _ _ _ _ _ _ _ _ (sV 9) sI (λ_ _=>rfl)) rfl rfl rfl rfl rfl rfl)
      (@ssc _ _ _ _ _ _ _ _ (@zA _ _ _ _ _ _ _ 8 _ _ _ _ S.nd (aV (sV 8) (@aE _ _ _ _ _ _ _ _ _ (sV 9) sI (λ_ _=>rfl))) rfl rfl rfl rfl rfl rfl)
      (@ssc _ _ _ _ _ _ _ _ (IQ 3 7 5)
      (ss1 (qa 4 (aV (@aE _ _ _ _ _ _ _ _ _ (sV 4) (sV 7) (λ_ _=>rfl)) (@aE _ _ _ _ _ _ _ _ _ (sV 9) sI (λ_ _=>rfl))) (sV 7))))))))
     (ss1 (zIf (mE (sV 8) (sV 1)) (ss1 (aK sO)) ss0)))))))
    (@ssc _ _ _ _ _ _ _ _ (zIf (u5 a (sV 4) (sC1 [] [] [] [] (de (sV 0)) (λ_ _ _ _=>(@aE _ _ _ _ _ _ _ _ _ (sV 0) sI (λ_ _=>rfl))) csc .nil .nil)) (ss1 (aK sO)) ss0)
    (@ssc _ _ _ _ _ _ _ _ (sC 10 11 S.nd (AO (hm:=T.enum) (ha:=(sV 0))) (ss1 (dS 12 S.nd (de (@aE _ _ _ _ _ _ _ _ _ (sV 11) sI (λ_ _=>rfl))) (ss1 (zIf (Ij (@aE _ _ _ _ _ _ _ _ _ (@aE _ _ _ _ _ _ _ _ _ (sV 3) (sV 10) (λ_ _=>rfl)) sI (λ_ _=>rfl)) (@aE _ _ _ _ _ _ _ _ _ (@aE _ _ _ _ _ _ _ _ _ (sV 3) (sV 12) (λ_ _=>rfl)) (xS sI) (λ_ _=>rfl))) (ss1 (aK sO)) ss0)))))
    (ss1 (aK sO))))))))
theorem E2:aC ["_law_tape_here","_law_steps","_law_hands_here","_law_left","_law_beats","_law_free","_law_beat","_law_some","_law_lazy","_law_number","_law_many"] ["_law_tape_here","_law_steps","_law_hands_here"] (defScope vK):=fsc
theorem JO:DD "_law_other_table" vK ["_law_tape_here","_law_steps","_law_hands_here","_law_left","_law_beats","_law_free","_law_beat","_law_some","_law_lazy","_law_number","_law_many"] aQ:=λ{_ _ _ _ _ _ _ _ _ _ _ s _ _} b T G a=>
 have S:=E2
 (@ssc _ _ _ _ _ _ _ _ (zC1 3 [] [] [] [] (de (sV 1)) (fun _ _ _ _=>(@aE _ _ _ _ _ _ _ _ _ (sV 0) sI (fun _ _=>rfl))) csc .nil .nil S.nd)
    (@ssc _ _ _ _ _ _ _ _ (@zA _ _ _ _ _ _ _ 4 _ _ _ _ S.nd (@sLx _ _ _ _ _ _ _ (by decide) sl0) rfl rfl rfl rfl rfl rfl)
    (@ssc _ _ _ _ _ _ _ _ (IS (mE (Ii (hm:=T.sum) (ha:=(sV 3))) sI) (@ssc _ _ _ _ _ _ _ _ (@zA _ _ _ _ _ _ _ 5 _ _ _ _ S.nd (sV 2) rfl rfl rfl rfl rfl rfl)
     (@ssc _ _ _ _ _ _ _ _ (@zA _ _ _ _ _ _ _ 6 _ _ _ _ S.nd (@sLx _ _ _ _ _ _ _ (by decide) sl0) rfl rfl rfl rfl rfl rfl)
     (@ssc _ _ _ _ _ _ _ _ (@zA _ _ _ _ _ _ _ 7 _ _ _ _ S.nd (aA b.c308 a (@say _ _ _ _ _ _ _ (sV 1) (@say _ _ _ _ _ _ _ (sV 3) sa0 rfl rfl) rfl rfl)) rfl rfl rfl rfl rfl rfl)
     (@ssc _ _ _ _ _ _ _ _ (@zA _ _ _ _ _ _ _ 8 _ _ _ _ S.nd (aA b.c201 a (sai 0 (@say _ _ _ _ _ _ _ sI sa0 rfl rfl))) rfl rfl rfl rfl rfl rfl)
     (@ssc _ _ _ _ _ _ _ _ (dS 9 S.nd (de (sV 7)) (@ssc _ _ _ _ _ _ _ _ (@zA _ _ _ _ _ _ _ 10 _ _ _ _ S.nd (Jy (hm:=T.min) (ha:=(sV 5)) (hb:=(@aE _ _ _ _ _ _ _ _ _ (sV 3) (sV 9) (fun _ _=>rfl)))) rfl rfl rfl rfl rfl rfl)
      (ss1 (zIf (tW (tH (mE (sV 10) sI) (wA1 (tW (wOr (we (sV 8) sI) (wOr (dX a (sV 9) (@aE _ _ _ _ _ _ _ _ _ (sV 7) (xS sI) (fun _ _=>rfl))) (wO1 (dX a (aA b.c201 a (sai 0 (@say _ _ _ _ _ _ _ sI sa0 rfl rfl))) sI)))))))) (@ssc _ _ _ _ _ _ _ _ (zIf (dX a (sV 8) sI) (ss1 (@zA _ _ _ _ _ _ _ 10 _ _ _ _ S.nd (aV sI (aA b.c201 a (sai 0 (@say _ _ _ _ _ _ _ (sV 10) sa0 rfl rfl)))) rfl rfl rfl rfl rfl rfl)) ss0)
       (@ssc _ _ _ _ _ _ _ _ (xf 6 (@sTx _ _ _ _ _ _ _ (by decide) (@slx _ _ _ _ _ _ _ (sV 9) (@slx _ _ _ _ _ _ _ (sV 10) sl0 rfl) rfl)))
       (ss1 (@zA _ _ _ _ _ _ _ 5 _ _ _ _ S.nd (mX (sV 5) (sV 10)) rfl rfl rfl rfl rfl rfl)))) ss0))))
     (@ssc _ _ _ _ _ _ _ _ (sC 9 10 S.nd (HL (sV 6)) (ss1 (qa 3 (mX (@aE _ _ _ _ _ _ _ _ _ (sV 3) (sV 9) (λ_ _=>rfl)) (sV 10)) (sV 9))))
     (ss1 (xf 4 (sV 6))))))))))
    (ss1 (aK (sM 4))))))
theorem Hk:aC ["_law_beats","_law_at","_law_beat"] ["_law_beats","_law_at","_law_beat"] (defScope uM):=fsc
theorem Jo:DD "_law_with" uM ["_law_beats","_law_at","_law_beat"] bW:=λ{_ _ _ _ _ _ _ _ _ _ _ s _ _} a T G b=>
 have S:=Hk
 (ss1 (aK (aV (aV (jI (sV 0) (sV 1)) (@sLx _ _ _ _ _ _ _ (by decide) (@slx _ _ _ _ _ _ _ (sM 2) sl0 rfl))) (iz (sV 0) (aV (sV 1) sI)))))
theorem Ha:aC ["_law_tape_here","_law_beats","_law_at","_law_many","_law_beat","_law_k","_law_number","_law_things","_law_some","_law_one"] ["_law_tape_here","_law_beats","_law_at","_law_many"] (defScope rG):=fsc
theorem IH:DD "_law_bent_deal" rG ["_law_tape_here","_law_beats","_law_at","_law_many","_law_beat","_law_k","_law_number","_law_things","_law_some","_law_one"] aW:=λ{_ _ _ _ _ _ _ _ _ _ _ s _ _} a T G b=>
 have S:=Ha
 (@ssc _ _ _ _ _ _ _ _ (@zA _ _ _ _ _ _ _ 4 _ _ _ _ S.nd (@aE _ _ _ _ _ _ _ _ _ (sV 1) (sV 2) (λ_ _=>rfl)) rfl rfl rfl rfl rfl rfl)
    (@ssc _ _ _ _ _ _ _ _ (@zA _ _ _ _ _ _ _ 5 _ _ _ _ S.nd (aA a.c201 b (sai 0 (@say _ _ _ _ _ _ _ (eB (hm:=T.len) (ha:=(sV 4))) sa0 rfl rfl))) rfl rfl rfl rfl rfl rfl)
    (@ssc _ _ _ _ _ _ _ _ (GL 6 7 S.nd (@aE _ _ _ _ _ _ _ _ _ (sV 4) (sV 5) (λ_ _=>rfl)))
    (@ssc _ _ _ _ _ _ _ _ (@zA _ _ _ _ _ _ _ 8 _ _ _ _ S.nd (@sLx _ _ _ _ _ _ _ (by decide) (@slx _ _ _ _ _ _ _ (@sTx _ _ _ _ _ _ _ (by decide) (@slx _ _ _ _ _ _ _ (sV 6) (@slx _ _ _ _ _ _ _ (aV (sV 7) sI) sl0 rfl) rfl)) (@slx _ _ _ _ _ _ _ (@sTx _ _ _ _ _ _ _ (by decide) (@slx _ _ _ _ _ _ _ (sV 6) (@slx _ _ _ _ _ _ _ (mX (sV 7) sI) sl0 rfl) rfl)) (@slx _ _ _ _ _ _ _ (@sTx _ _ _ _ _ _ _ (by decide) (@slx _ _ _ _ _ _ _ (sV 6) (@slx _ _ _ _ _ _ _ sI sl0 rfl) rfl)) (@slx _ _ _ _ _ _ _ (@sTx _ _ _ _ _ _ _ (by decide) (@slx _ _ _ _ _ _ _ (sV 6) (@slx _ _ _ _ _ _ _ (mX sI sI) sl0 rfl) rfl)) (@slx _ _ _ _ _ _ _ (@sTx _ _ _ _ _ _ _ (by decide) (@slx _ _ _ _ _ _ _ (aA a.c201 b (sai 0 (@say _ _ _ _ _ _ _ (sV 3) sa0 rfl rfl))) (@slx _ _ _ _ _ _ _ (sV 7) sl0 rfl) rfl)) (@slx _ _ _ _ _ _ _ (@sTx _ _ _ _ _ _ _ (by decide) (@slx _ _ _ _ _ _ _ (sV 3) (@slx _ _ _ _ _ _ _ (sV 7) sl0 rfl) rfl)) (@slx _ _ _ _ _ _ _ (@sTx _ _ _ _ _ _ _ (by decide) (@slx _ _ _ _ _ _ _ (mX sI sI) (@slx _ _ _ _ _ _ _ (sV 7) sl0 rfl) rfl)) sl0 rfl) rfl) rfl) rfl) rfl) rfl) rfl)) rfl rfl rfl rfl rfl rfl)
    (@ssc _ _ _ _ _ _ _ _ (@zA _ _ _ _ _ _ _ 8 _ _ _ _ S.nd (aV (sV 8) (@sLx _ _ _ _ _ _ _ (by decide) (@slx _ _ _ _ _ _ _ (@sTx _ _ _ _ _ _ _ (by decide) (@slx _ _ _ _ _ _ _ (sV 6) (@slx _ _ _ _ _ _ _ sO sl0 rfl) rfl)) (@slx _ _ _ _ _ _ _ (@sTx _ _ _ _ _ _ _ (by decide) (@slx _ _ _ _ _ _ _ sO (@slx _ _ _ _ _ _ _ (sV 7) sl0 rfl) rfl)) (@slx _ _ _ _ _ _ _ (@sLx _ _ _ _ _ _ _ (by decide) (@slx _ _ _ _ _ _ _ (sV 6) (@slx _ _ _ _ _ _ _ (sV 7) sl0 rfl) rfl)) (@slx _ _ _ _ _ _ _ (@sTx _ _ _ _ _ _ _ (by decide) (@slx _ _ _ _ _ _ _ (sV 6) (@slx _ _ _ _ _ _ _ (sV 7) (@slx _ _ _ _ _ _ _ sI sl0 rfl) rfl) rfl)) (@slx _ _ _ _ _ _ _ (@sTx _ _ _ _ _ _ _ (by decide) (@slx _ _ _ _ _ _ _ (sV 6) sl0 rfl)) (@slx _ _ _ _ _ _ _ sN (@slx _ _ _ _ _ _ _ (@sTx _ _ _ _ _ _ _ (by decide) (@slx _ _ _ _ _ _ _ (Io (hm:=T.str) (ha:=(sV 6))) (@slx _ _ _ _ _ _ _ (sV 7) sl0 rfl) rfl)) sl0 rfl) rfl) rfl) rfl) rfl) rfl) rfl))) rfl rfl rfl rfl rfl rfl)
    (@ssc _ _ _ _ _ _ _ _ (@zA _ _ _ _ _ _ _ 9 _ _ _ _ S.nd (@aE _ _ _ _ _ _ _ _ _ (sV 8) (aA a.c201 b (sai 0 (@say _ _ _ _ _ _ _ sI sa0 rfl rfl))) (λ_ _=>rfl)) rfl rfl rfl rfl rfl rfl)
    (ss1 (aK (aA a.c360 b (@say _ _ _ _ _ _ _ (sM 1) (@say _ _ _ _ _ _ _ (sM 2) (@say _ _ _ _ _ _ _ (aV (aV (jI (sV 4) (sV 5)) (@sLx _ _ _ _ _ _ _ (by decide) (@slx _ _ _ _ _ _ _ (sM 9) sl0 rfl))) (iz (sV 4) (aV (sV 5) sI))) sa0 rfl rfl) rfl rfl) rfl rfl))))))))))
theorem Gu:aC ["_law_tape_here","_law_beats","_law_many","_law_full","_law_way","_law_at","_law_beat"] ["_law_tape_here","_law_beats","_law_many"] (defScope rZ):=fsc
theorem Jl:DD "_law_bent" rZ ["_law_tape_here","_law_beats","_law_many","_law_full","_law_way","_law_at","_law_beat"] f_law_bent:=λ{_ _ _ _ _ _ _ _ _ _ _ s _ _} b T G a=>
 have S:=Gu
 (@ssc _ _ _ _ _ _ _ _ (Iw 3 [1] [1] [("_law_beats",s.heap.objs.size+1)] ["_law_beats"] (qy (hm:=T.range) (ha:=(eB (hm:=T.len) (ha:=(sV 1))))) (λ_ _ _ _=>(u5 a (@aE _ _ _ _ _ _ _ _ _ (sV 1) (sV 0) (λ_ _=>rfl)) (@sLx _ _ _ _ _ _ _ (by decide) sl0))) (λ_ _ _ _=>(sV 0)) csc (kh .nil) (frc .nil) S.nd)
    (@ssc _ _ _ _ _ _ _ _ (@zA _ _ _ _ _ _ _ 4 _ _ _ _ S.nd (aA b.c201 a (sai 0 (@say _ _ _ _ _ _ _ sI sa0 rfl rfl))) rfl rfl rfl rfl rfl rfl)
    (@ssc _ _ _ _ _ _ _ _ (zIf (tW (wOr (dX a (sV 3) (@sLx _ _ _ _ _ _ _ (by decide) sl0)) (wO1 (dX a (sV 4) sI)))) (@ss1 _ _ _ _ _ _ (@aK _ _ _ _ _ _ _ _ (@aE _ _ _ _ _ _ _ _ _ (@sLx _ _ _ _ _ _ _ (by decide) (@slx _ _ _ _ _ _ _ sN (@slx _ _ _ _ _ _ _ (@sTx _ _ _ _ _ _ _ (by decide) sl0) (@slx _ _ _ _ _ _ _ sS (@slx _ _ _ _ _ _ _ (@sLx _ _ _ _ _ _ _ (by decide) (@slx _ _ _ _ _ _ _ sN sl0 rfl)) (@slx _ _ _ _ _ _ _ (@sLx _ _ _ _ _ _ _ (by decide) (@slx _ _ _ _ _ _ _ (@sTx _ _ _ _ _ _ _ (by decide) sl0) sl0 rfl)) (@slx _ _ _ _ _ _ _ (@sLx _ _ _ _ _ _ _ (by decide) (@slx _ _ _ _ _ _ _ (@sLx _ _ _ _ _ _ _ (by decide) (@slx _ _ _ _ _ _ _ (@sTx _ _ _ _ _ _ _ (by decide) (@slx _ _ _ _ _ _ _ sI (@slx _ _ _ _ _ _ _ sI sl0 rfl) rfl)) sl0 rfl)) sl0 rfl)) (@slx _ _ _ _ _ _ _ (aV (sV 1) (@sLx _ _ _ _ _ _ _ (by decide) (@slx _ _ _ _ _ _ _ (@sLx _ _ _ _ _ _ _ (by decide) sl0) sl0 rfl))) (@slx _ _ _ _ _ _ _ (tX (hm:=T.tup) (ha:=(sV 1))) sl0 rfl) rfl) rfl) rfl) rfl) rfl) rfl) rfl)) (aA b.c201 a (sai 0 (@say _ _ _ _ _ _ _ sI sa0 rfl rfl))) (λ_ _=>rfl)))) ss0)
    (@ssc _ _ _ _ _ _ _ _ (@zA _ _ _ _ _ _ _ 5 _ _ _ _ S.nd (@aE _ _ _ _ _ _ _ _ _ (sV 3) (aA b.c201 a (sai 0 (@say _ _ _ _ _ _ _ (eB (hm:=T.len) (ha:=(sV 3))) sa0 rfl rfl))) (λ_ _=>rfl)) rfl rfl rfl rfl rfl rfl)
    (@ssc _ _ _ _ _ _ _ _ (@zA _ _ _ _ _ _ _ 6 _ _ _ _ S.nd (@aE _ _ _ _ _ _ _ _ _ (sV 1) (sV 5) (λ_ _=>rfl)) rfl rfl rfl rfl rfl rfl)
    (@ssc _ _ _ _ _ _ _ _ (zIf (we (sV 4) sI) (ss1 (aK (aA b.c361 a (sai 0 (@say _ _ _ _ _ _ _ (sM 1) (@say _ _ _ _ _ _ _ (sM 5) (@say _ _ _ _ _ _ _ (sM 2) sa0 rfl rfl) rfl rfl) rfl rfl))))) ss0)
    (@ssc _ _ _ _ _ _ _ _ (zIf (dX a (sV 4) sI) (ss1 (aK (aA b.c360 a (@say _ _ _ _ _ _ _ (sM 1) (@say _ _ _ _ _ _ _ (sM 5) (@say _ _ _ _ _ _ _ (Hw T.list T.rev (sM 6)) sa0 rfl rfl) rfl rfl) rfl rfl)))) ss0)
    (@ssc _ _ _ _ _ _ _ _ (zIf (dX a (sV 4) sI) (ss1 (aK (aA b.c360 a (@say _ _ _ _ _ _ _ (sM 1) (@say _ _ _ _ _ _ _ (sM 5) (@say _ _ _ _ _ _ _ (aV (sV 6) (iz (sV 6) (xS sI))) sa0 rfl rfl) rfl rfl) rfl rfl)))) ss0)
    (@ssc _ _ _ _ _ _ _ _ (zIf (dX a (sV 4) sI) (ss1 (aK (aA b.c360 a (@say _ _ _ _ _ _ _ (sM 1) (@say _ _ _ _ _ _ _ (sM 5) (@say _ _ _ _ _ _ _ (iz (sM 6) sI) sa0 rfl rfl) rfl rfl) rfl rfl)))) ss0)
    (@ssc _ _ _ _ _ _ _ _ (zIf (dX a (sV 4) sI) (ss1 (aK (aA b.c360 a (@say _ _ _ _ _ _ _ (sM 1) (@say _ _ _ _ _ _ _ (sM 5) (@say _ _ _ _ _ _ _ (tX (hm:=T.tup) (ha:=(sM 6))) sa0 rfl rfl) rfl rfl) rfl rfl)))) ss0)
    (@ssc _ _ _ _ _ _ _ _ (zIf (dX a (sV 4) sI) (ss1 (aK (aV (jI (sV 1) (sV 5)) (iz (sV 1) (aV (sV 5) sI))))) ss0)
    (@ssc _ _ _ _ _ _ _ _ (zIf (dX a (sV 4) sI) (ss1 (aK (aV (aV (jI (sV 1) (sV 5)) (@sLx _ _ _ _ _ _ _ (by decide) (@slx _ _ _ _ _ _ _ (@sLx _ _ _ _ _ _ _ (by decide) sl0) sl0 rfl))) (iz (sV 1) (sV 5))))) ss0)
    (@ssc _ _ _ _ _ _ _ _ (zIf (tW (tH (dX a (sV 4) sI) (wA1 (we (aV (sV 5) sI) (eB (hm:=T.len) (ha:=(sV 1))))))) (ss1 (aK (aV (aV (jI (sV 1) (sV 5)) (@sLx _ _ _ _ _ _ _ (by decide) (@slx _ _ _ _ _ _ _ (vk (hm:=T.sorted) (ha:=(aV (sM 6) (@aE _ _ _ _ _ _ _ _ _ (sV 1) (aV (sV 5) sI) (λ_ _=>rfl))))) sl0 rfl))) (iz (sV 1) (aV (sV 5) sI))))) ss0)
    (@ssc _ _ _ _ _ _ _ _ (zIf (tW (tH (dX a (sV 4) sI) (wA1 (we (aV (sV 5) sI) (eB (hm:=T.len) (ha:=(sV 1))))))) (ss1 (aK (aV (aV (jI (sV 1) (sV 5)) (@sLx _ _ _ _ _ _ _ (by decide) (@slx _ _ _ _ _ _ _ (@aE _ _ _ _ _ _ _ _ _ (sV 1) (aV (sV 5) sI) (λ_ _=>rfl)) (@slx _ _ _ _ _ _ _ (sM 6) sl0 rfl) rfl))) (iz (sV 1) (aV (sV 5) sI))))) ss0)
    (ss1 (aK (aV (aV (jI (sV 1) (sV 5)) (@sLx _ _ _ _ _ _ _ (by decide) (@slx _ _ _ _ _ _ _ (jI (sV 6) sI) (@slx _ _ _ _ _ _ _ (iz (sV 6) sI) sl0 rfl) rfl))) (iz (sV 1) (aV (sV 5) sI)))))))))))))))))))
theorem S0:aC ["_law_script","_law_tape_here","_law_k","_law_steps","_law_hands_here","_law_beats","_law_j","_law_thing","_law_others","_law_kept","_law_found"] ["_law_script"] (defScope s0):=fsc
theorem D0:DD "law" s0 ["_law_script","_law_tape_here","_law_k","_law_steps","_law_hands_here","_law_beats","_law_j","_law_thing","_law_others","_law_kept","_law_found"] f_law:=λ{_ _ _ _ _ _ _ _ _ _ _ s _ _} a T G hr=>
 have S:=S0
 (@ssc _ _ _ _ _ _ _ _ (@zA _ _ _ _ _ _ _ 1 _ _ _ _ S.nd (aA a.c179 hr (@say _ _ _ _ _ _ _ (sV 0) sa0 rfl rfl)) rfl rfl rfl rfl rfl rfl)
    (@ssc _ _ _ _ _ _ _ _ (dS 2 S.nd (qy (hm:=T.range) (ha:=sI)) (@ssc _ _ _ _ _ _ _ _ (@zA _ _ _ _ _ _ _ 3 _ _ _ _ S.nd (aA a.c278 hr (sai 1 sa0)) rfl rfl rfl rfl rfl rfl)
     (@ssc _ _ _ _ _ _ _ _ (@zA _ _ _ _ _ _ _ 4 _ _ _ _ S.nd (aA a.c279 hr (sai 1 sa0)) rfl rfl rfl rfl rfl rfl)
     (@ssc _ _ _ _ _ _ _ _ (@zA _ _ _ _ _ _ _ 5 _ _ _ _ S.nd (aA a.c359 hr (sai 1 (@say _ _ _ _ _ _ _ (sV 3) (@say _ _ _ _ _ _ _ (sV 4) sa0 rfl rfl) rfl rfl))) rfl rfl rfl rfl rfl rfl)
     (@ssc _ _ _ _ _ _ _ _ (zIf (DQ (aA a.c356 hr (@say _ _ _ _ _ _ _ (sV 3) (@say _ _ _ _ _ _ _ (sV 4) (@say _ _ _ _ _ _ _ (sV 5) sa0 rfl rfl) rfl rfl) rfl rfl)) sO) (ss1 (aK sO)) ss0)
     (ss1 (dS 6 S.nd (qy (hm:=T.range) (ha:=sI)) (@ssc _ _ _ _ _ _ _ _ (@zA _ _ _ _ _ _ _ 7 _ _ _ _ S.nd (aA a.c363 hr (sai 1 (@say _ _ _ _ _ _ _ (sV 5) (@say _ _ _ _ _ _ _ (eB (hm:=T.len) (ha:=(sV 3))) sa0 rfl rfl) rfl rfl))) rfl rfl rfl rfl rfl rfl)
      (@ssc _ _ _ _ _ _ _ _ (@zA _ _ _ _ _ _ _ 8 _ _ _ _ S.nd (@aE _ _ _ _ _ _ _ _ _ (@sLx _ _ _ _ _ _ _ (by decide) (@slx _ _ _ _ _ _ _ (sV 4) (@slx _ _ _ _ _ _ _ (JD (hm:=T.max) (ha:=sI) (hb:=(mX (sV 4) sI))) (@slx _ _ _ _ _ _ _ sI sl0 rfl) rfl) rfl)) (aA a.c201 hr (sai 1 (@say _ _ _ _ _ _ _ sI sa0 rfl rfl))) (λ_ _=>rfl)) rfl rfl rfl rfl rfl rfl)
      (@ssc _ _ _ _ _ _ _ _ (@zA _ _ _ _ _ _ _ 9 _ _ _ _ S.nd (AU (hr:=hr) (hm:=T.repr) (ha:=(@sTx _ _ _ _ _ _ _ (by decide) (@slx _ _ _ _ _ _ _ (sV 3) (@slx _ _ _ _ _ _ _ (sV 7) sl0 rfl) rfl)))) rfl rfl rfl rfl rfl rfl)
      (@ssc _ _ _ _ _ _ _ _ (@zA _ _ _ _ _ _ _ 10 _ _ _ _ S.nd (aA a.c356 hr (@say _ _ _ _ _ _ _ (sV 3) (@say _ _ _ _ _ _ _ (sV 8) (@say _ _ _ _ _ _ _ (sV 7) sa0 rfl rfl) rfl rfl) rfl rfl)) rfl rfl rfl rfl rfl rfl)
      (@ssc _ _ _ _ _ _ _ _ (zIf (tW (wOr (er (tB (ck (by decide) OV T.isin T.bool (sV 10)))) (wO1 (u5 hr (sV 10) (aA a.c358 hr (@say _ _ _ _ _ _ _ (sV 3) (@say _ _ _ _ _ _ _ (sV 8) (@say _ _ _ _ _ _ _ (sV 7) sa0 rfl rfl) rfl rfl) rfl rfl)))))) (ss1 (aK sO)) ss0)
      (ss1 (zIf (u5 hr (AU (hr:=hr) (hm:=T.repr) (ha:=(@sTx _ _ _ _ _ _ _ (by decide) (@slx _ _ _ _ _ _ _ (sV 3) (@slx _ _ _ _ _ _ _ (sV 7) sl0 rfl) rfl)))) (sV 9)) (ss1 (aK sO)) ss0))))))))))))))
    (ss1 (aK sO))))
end A75

namespace A75
open PySem PySem.Spec PyProof.Rows L2 L3 MR
abbrev Cl (n:Y):M.Call:=M.callR prog 1000000 1000001 n
section
variable {P:QN}{w:J8}{K:J2}{mg:Str->j B}{base:QS}
theorem all (M:Df K mg "sort_of" um ["thing"])(N:Df K mg "are_numbers" vE ["thing"])(d356:Df K mg "is_timetable" tP ["steps","hands","thing"])(d357:Df K mg "is_beat" uT ["thing","many","hands"])(d302:Df K mg "is_dealt" uV ["thing","many"])(I:Df K mg "_law_tape" rX ["_law_script"])(L:Df K mg "_law_draw" uU ["_law_tape_here","_law_many"])(Z:Df K mg "_law_waits" su ["_law_tape_here"])(d279:Df K mg "_law_hands" vJ ["_law_tape_here"])(d308:Df K mg "_law_can" rC ["_law_steps","_law_left"])(Q:Df K mg "_law_whole" vW ["_law_thing"])(d303:Df K mg "_law_is_deal" uX ["_law_many","_law_thing"])(d358:Df K mg "_law_is_table" vh ["_law_steps","_law_hands_here","_law_thing"])(d359:Df K mg "_law_other_table" vK ["_law_tape_here","_law_steps","_law_hands_here"])(d360:Df K mg "_law_with" uM ["_law_beats","_law_at","_law_beat"])(d361:Df K mg "_law_bent_deal" rG ["_law_tape_here","_law_beats","_law_at","_law_many"])(d363:Df K mg "_law_bent" rZ ["_law_tape_here","_law_beats","_law_many"])  (T:Txt mg)(G:Glb K w mg):∀n,Calls P w K mg base n<|Cl n
|0=>
 have g:af P w K mg base 0 (Cl 0) "sort_of" 264 []:=M.z;have i:af P w K mg base 0 (Cl 0) "are_numbers" 265 []:=N.z;have t:af P w K mg base 0 (Cl 0) "is_timetable" 356 []:=d356.z;have u:af P w K mg base 0 (Cl 0) "is_beat" 357 []:=d357.z;have o:af P w K mg base 0 (Cl 0) "is_dealt" 302 []:=d302.z;have d:af P w K mg base 0 (Cl 0) "_law_tape" 179 []:=I.z;have e:af P w K mg base 0 (Cl 0) "_law_draw" 201 [0]:=L.z;have l:af P w K mg base 0 (Cl 0) "_law_waits" 278 [0]:=Z.z;have m:af P w K mg base 0 (Cl 0) "_law_hands" 279 [0]:=d279.z;have r:af P w K mg base 0 (Cl 0) "_law_can" 308 []:=d308.z;have k:af P w K mg base 0 (Cl 0) "_law_whole" 272 []:=Q.z;have p:af P w K mg base 0 (Cl 0) "_law_is_deal" 303 []:=d303.z;have v:af P w K mg base 0 (Cl 0) "_law_is_table" 358 []:=d358.z;have x:af P w K mg base 0 (Cl 0) "_law_other_table" 359 [0]:=d359.z;have y:af P w K mg base 0 (Cl 0) "_law_with" 360 []:=d360.z;have D:af P w K mg base 0 (Cl 0) "_law_bent_deal" 361 [0]:=d361.z;have F:af P w K mg base 0 (Cl 0) "_law_bent" 363 [0]:=d363.z
 ⟨g,i,t,u,o,d,e,l,m,r,k,p,v,x,y,D,F⟩
|n+1=>
 have c:=all M N d356 d357 d302 I L Z d279 d308 Q d303 d358 d359 d360 d361 d363  T G n;have g:af P w K mg base (n+1) (Cl (n+1)) "sort_of" 264 []:=M.s aX FU (C:=Cl n) (by intro f b A a s H E h;exact@IA P w K mg base n (Cl n) f b A a s H E c T G h);have i:af P w K mg base (n+1) (Cl (n+1)) "are_numbers" 265 []:=N.s aD FG (C:=Cl n) (by intro f b A a s H E h;exact@Jw P w K mg base n (Cl n) f b A a s H E c T G h);have t:af P w K mg base (n+1) (Cl (n+1)) "is_timetable" 356 []:=d356.s aq EO (C:=Cl n) (by intro f b A a s H E h;exact@JJ P w K mg base n (Cl n) f b A a s H E c T G h);have u:af P w K mg base (n+1) (Cl (n+1)) "is_beat" 357 []:=d357.s aH FW (C:=Cl n) (by intro f b A a s H E h;exact@IG P w K mg base n (Cl n) f b A a s H E c T G h);have o:af P w K mg base (n+1) (Cl (n+1)) "is_dealt" 302 []:=d302.s aU EU (C:=Cl n) (by intro f b A a s H E h;exact@Jj P w K mg base n (Cl n) f b A a s H E c T G h);have d:af P w K mg base (n+1) (Cl (n+1)) "_law_tape" 179 []:=I.s b5 Il (C:=Cl n) (by intro f b A a s H E h;exact@Jd P w K mg base n (Cl n) f b A a s H E c T G h);have e:af P w K mg base (n+1) (Cl (n+1)) "_law_draw" 201 [0]:=L.s bA FP (C:=Cl n) (by intro f b A a s H E h;exact@Jb P w K mg base n (Cl n) f b A a s H E c T G h);have l:af P w K mg base (n+1) (Cl (n+1)) "_law_waits" 278 [0]:=Z.s f_law_waits HV (C:=Cl n) (by intro f b A a s H E h;exact@Jp P w K mg base n (Cl n) f b A a s H E c T G h);have m:af P w K mg base (n+1) (Cl (n+1)) "_law_hands" 279 [0]:=d279.s bJ FD (C:=Cl n) (by intro f b A a s H E h;exact@JP P w K mg base n (Cl n) f b A a s H E c T G h);have r:af P w K mg base (n+1) (Cl (n+1)) "_law_can" 308 []:=d308.s cH Gr (C:=Cl n) (by intro f b A a s H E h;exact@JM P w K mg base n (Cl n) f b A a s H E c T G h);have k:af P w K mg base (n+1) (Cl (n+1)) "_law_whole" 272 []:=Q.s aG GA (C:=Cl n) (by intro f b A a s H E h;exact@IJ P w K mg base n (Cl n) f b A a s H E c T G h);have p:af P w K mg base (n+1) (Cl (n+1)) "_law_is_deal" 303 []:=d303.s ai Gf (C:=Cl n) (by intro f b A a s H E h;exact@JQ P w K mg base n (Cl n) f b A a s H E c T G h);have v:af P w K mg base (n+1) (Cl (n+1)) "_law_is_table" 358 []:=d358.s ah G5 (C:=Cl n) (by intro f b A a s H E h;exact@IU P w K mg base n (Cl n) f b A a s H E c T G h);have x:af P w K mg base (n+1) (Cl (n+1)) "_law_other_table" 359 [0]:=d359.s aQ E2 (C:=Cl n) (by intro f b A a s H E h;exact@JO P w K mg base n (Cl n) f b A a s H E c T G h);have y:af P w K mg base (n+1) (Cl (n+1)) "_law_with" 360 []:=d360.s bW Hk (C:=Cl n) (by intro f b A a s H E h;exact@Jo P w K mg base n (Cl n) f b A a s H E c T G h);have D:af P w K mg base (n+1) (Cl (n+1)) "_law_bent_deal" 361 [0]:=d361.s aW Ha (C:=Cl n) (by intro f b A a s H E h;exact@IH P w K mg base n (Cl n) f b A a s H E c T G h);have F:af P w K mg base (n+1) (Cl (n+1)) "_law_bent" 363 [0]:=d363.s f_law_bent Gu (C:=Cl n)<|by intro f b A a s H E h;exact@Jl P w K mg base n (Cl n) f b A a s H E c T G h
 ⟨g,i,t,u,o,d,e,l,m,r,k,p,v,x,y,D,F⟩
end
theorem pure_law:∀a:U Int,a.length<=63->∃m bs,Cl 40 0 [(.d,.scr a)]=.ok ((m,.bl JZ),bs):=λa _=>P75.pure_law a
theorem all_mk {l:OL}{w:J8}{K:J2}{h:QS}{a:Str->j B}{fa:QF}(X:K.In h)(G:h.Ns KC a)(hfa:a "law"=O (.ref fa))(I:Raw K "sort_of" um .none)(L:Raw K "are_numbers" vE .none)(r356:Raw K "is_timetable" tP .none)(r357:Raw K "is_beat" uT .none)(Q:Raw K "is_dealt" uV .none)(D:Raw K "_law_tape" rX .none)(H:Raw K "_law_draw" uU .none)(N:Raw K "_law_waits" su .none)(P:Raw K "_law_hands" vJ .none)(r308:Raw K "_law_can" rC .none)(M:Raw K "_law_whole" vW .none)(Z:Raw K "_law_is_deal" uX .none)(r358:Raw K "_law_is_table" vh .none)(r359:Raw K "_law_other_table" vK .none)(r360:Raw K "_law_with" uM .none)(r361:Raw K "_law_bent_deal" rG .none)(r363:Raw K "_law_bent" rZ .none)(r0:Raw K "law" s0 .none)   (tx:DE K ["isinstance","int","tuple","list","bool","sum","len","all","zip","range","enumerate","any","max","min","sorted","str","repr","abs","dict","set","reversed"]):
  ∃fd:Lb,(∀(s:J0) (v:B),L0 s fd ⟨[v],[]⟩ [("_law_script",v)])/\∀b:QS,K.In b->b.Ns KC a->eE l.prog w K a b CX0 40 fa fd ["_law_script"] (spS K (Cl 40) 0 []):=by
 have e:Df K a "sort_of" um ["thing"]:=bM X G I λ_ _ _ _ _ _=>u1 λ_=>rfl;have g:Df K a "are_numbers" vE ["thing"]:=bM X G L λ_ _ _ _ _ _=>u1 λ_=>rfl;have r:Df K a "is_timetable" tP ["steps","hands","thing"]:=bM X G r356 λ_ _ _ _ _ _=>u3 λ_ _ _=>rfl;have t:Df K a "is_beat" uT ["thing","many","hands"]:=bM X G r357 λ_ _ _ _ _ _=>u3 λ_ _ _=>rfl;have n:Df K a "is_dealt" uV ["thing","many"]:=bM X G Q λ_ _ _ _ _ _=>u2 λ_ _=>rfl;have c:Df K a "_law_tape" rX ["_law_script"]:=bM X G D λ_ _ _ _ _ _=>u1 λ_=>rfl;have d:Df K a "_law_draw" uU ["_law_tape_here","_law_many"]:=bM X G H λ_ _ _ _ _ _=>u2 λ_ _=>rfl;have k:Df K a "_law_waits" su ["_law_tape_here"]:=bM X G N λ_ _ _ _ _ _=>u1 λ_=>rfl;have m:Df K a "_law_hands" vJ ["_law_tape_here"]:=bM X G P λ_ _ _ _ _ _=>u1 λ_=>rfl;have p:Df K a "_law_can" rC ["_law_steps","_law_left"]:=bM X G r308 λ_ _ _ _ _ _=>u2 λ_ _=>rfl;have i:Df K a "_law_whole" vW ["_law_thing"]:=bM X G M λ_ _ _ _ _ _=>u1 λ_=>rfl;have o:Df K a "_law_is_deal" uX ["_law_many","_law_thing"]:=bM X G Z λ_ _ _ _ _ _=>u2 λ_ _=>rfl;have u:Df K a "_law_is_table" vh ["_law_steps","_law_hands_here","_law_thing"]:=bM X G r358 λ_ _ _ _ _ _=>u3 λ_ _ _=>rfl;have x:Df K a "_law_other_table" vK ["_law_tape_here","_law_steps","_law_hands_here"]:=bM X G r359 λ_ _ _ _ _ _=>u3 λ_ _ _=>rfl;have y:Df K a "_law_with" uM ["_law_beats","_law_at","_law_beat"]:=bM X G r360 λ_ _ _ _ _ _=>u3 λ_ _ _=>rfl;have z:Df K a "_law_bent_deal" rG ["_law_tape_here","_law_beats","_law_at","_law_many"]:=bM X G r361 λ_ _ _ _ _ _=>u4 λ_ _ _ _=>rfl;have A:Df K a "_law_bent" rZ ["_law_tape_here","_law_beats","_law_many"]:=bM X G r363 λ_ _ _ _ _ _=>u3 λ_ _ _=>rfl;have T:=CV X G tx;have Gm:Glb K w a:=⟨⟩;exact xn X G hfa r0 (λ_ _ _ _ _ _ _ _=>.of_eq rfl) λf fd F b=>Fun.okM F S0 rfl (by decide) (by decide) (by decide) (λ_ _ _ _ _ _ h=>D0 (all e g r t n c d k m p i o u x y z A  T Gm 39) T Gm h) λ_=>rfl
end A75

set_option maxHeartbeats 0
namespace H75
open PySem PySem.W TP
noncomputable abbrev pr:QN:=PySem.Challenge.pw_broadrow_k75_timetables_looked_at
def tn (i:Y):Q0:=pr.main.body.getD i<|.Pass p0
noncomputable def rc:U Rc:=[.m,
.d,
.d,
.m,
.d,
.d,
.d,
.m,
.d,
.d,
.d,
.d,
.d,
.d,
.d,
.d,
.d,
.d,
.d,
.d,
.d]
theorem c0 (w:J8):Cut pr rc 0 15 187 p0 21 554 125 339 ⟨160,0,177,15⟩ w:=λo=>by kernel_rfl
theorem ch:Ch pr rc 21 125 339 0 15 187 p0 (554+(2)):=yi c0<|Br<|by kernel_rfl
def q:QN:=view pr [20]
noncomputable def lo:U Str:=(["sort_of","are_numbers","is_timetable","is_beat","is_dealt","_law_tape","_law_draw","_law_waits","_law_hands","_law_can","_law_whole","_law_is_deal","_law_is_table","_law_other_table","_law_with","_law_bent_deal","_law_bent"]:U QZ).map Str.ofString
noncomputable def as:U QF:=[3,20,21,25,26,30,31,35,36,42,43,49,50,56,57,61,62,68,69,73,74,80,81,87,88,92,93,97,98,104,105,111,112,116,117,123,124]
def K:K0->Frag:=kK pr rc 21 as
def hk:Hook:=hkk pr rc 21 125
abbrev Xt (s:J0):QJ:=xlAt q [] s&&recOk (RowW.records<|OpenRow.toRowW<|OpenLaw.row PySem.Challenge.rw_broadrow_k75_timetables_looked_at) s
theorem kin (w:J8)(h:QS)(a:hk.says w h):(K w.params).In h:=IZ (by kernel_rfl) (by kernel_rfl) a
theorem lk (w:J8):(λo=>((staticsOk (Nk pr.main.body) (Lf w.params) (hp pr rc 21 125 w.params)&&namesBound pr (hp pr rc 21 125 w.params)&&gensDone ⟨hp pr rc 21 125 w.params,#[],{},339,o⟩&&laidKept (Lf w.params) (hp pr rc 21 125 w.params)),openSeen q lo (Nk pr.main.body) Xt JZ ⟨hp pr rc 21 125 w.params,#[],{},339,o⟩,Hook.obs hk ⟨hp pr rc 21 125 w.params,#[],{},339,o⟩))=λ_=>(JZ,openGood q lo,Hook.val hk w):=by kernel_rfl
theorem e1:opening pr=plainProg pr.main.scope.names:=by kernel_rfl
theorem e2:MV pr=pr.main.body:=by kernel_rfl
theorem e3 (s:J0):fenceModules? pr s=O s:=by kernel_rfl
theorem pre (w:J8)(o:Ry):topGo L5 pr w 11 an 12 ⟨Lf w.params,Nv [],boot_drawn,boot_toks,o⟩ (topStub pr)=O ((sT pr rc w.params 0 15 187 o).abs,⟨denote L5<|cE pr,cE pr,p0,B0⟩):=by kernel_rfl
theorem blk (w:J8)(o:Ry):segRun L5 pr w 11 an 1 1 (sT pr rc w.params 0 15 187 o).abs (blockOf (MV pr) (ev pr) (cE pr) p0 B0)=O (.next,(sT pr rc w.params 0 15 187 o).abs,cE pr,p0):=by kernel_rfl
theorem left:LeftO pr q lo Xt (Hook.obs hk) (Hook.val hk) 1232:=yV e1 (by kernel_rfl) e3 e2 yy pre blk ch (by kernel_rfl) lk
end H75

set_option maxHeartbeats 4000000
open PySem PySem.W PyProof.Rows
set_option maxRecDepth 100000 in
set_option maxHeartbeats 0 in
theorem PySem.Challenge.cw_broadrow_k75_timetables_looked_at_holds : PySem.Challenge.rw_broadrow_k75_timetables_looked_at.Holds := by
 w_on; refine holds_law (by kernel_rfl) fun said=>?_
 refine holds_open (q:=H75.q) (loose:=H75.lo) (Xt:=H75.Xt) (XP:=XL H75.q []) (Yf:=Hook.obs H75.hk) (Ya:=Hook.val H75.hk) (YP:=Hook.says H75.hk) (N:=1232) (d:=TP.drec (H75.tn 20)) (kwd:=[]) H75.left (Hook.of H75.hk) (Hook.keeps H75.hk) (fun s e=>xl_of s (Ou.mp e).1) XL.keeps (by kernel_rfl) (by kernel_rfl) (by kernel_rfl) (fun s e=>recFacts_of (Ou.mp e).2) (by rfl) (by first | assumption | decide +kernel) (by decide +kernel) ⟨rfl,rfl,rfl,rfl,rfl,by decide +kernel⟩ ?hw ?hc
 case hw=>w_witness2
 refine MR.walkX (sx:="_law_script") (l:=PySem.Challenge.rw_broadrow_k75_timetables_looked_at) (k:=40) (C:=A75.Cl 40) (ix:=0) (K:=H75.K) A75.pure_law rfl (by kernel_rfl) ⟨rfl,by decide,by decide,rfl⟩ H75.kin ?F
 case F =>
  intro w mg fa h KX G hmg
  refine' A75.all_mk KX G hmg ?zr264 ?zr265 ?zr356 ?zr357 ?zr302 ?zr179 ?zr201 ?zr278 ?zr279 ?zr308 ?zr272 ?zr303 ?zr358 ?zr359 ?zr360 ?zr361 ?zr363 ?zr0   ?ztx
  case ztx=>refine' ⟨?_,?_,?_,?_,?_,?_,?_,?_,?_,?_,?_,?_,?_,?_,?_,?_,?_,?_,?_,?_,?_,trivial⟩<;>kernel_rfl
  all_goals exact TP.raw_mk (by kernel_rfl) (by kernel_rfl) (by kernel_rfl) (by kernel_rfl)
