import PyProof.Rows.All
import Wide.All
import OpenK.AllK
import Wide.FinOn
import Lean
import PyProof.EqAt
import PyProof.EqKinds
import PyProof.TupleCall
import PyProof.ExcInit
import PyProof.ExcClass3
import PyProof.ExcBaseAll.ValueError
import PyProof.StationsW
import PyProof.FString
import PyProof.Rows.FStr
import PyProof.NsDelKeeps
import PyProof.RulesAs
import PyProof.ExcArgs
import PySem.Str
import PySem.Builtin.Str.Common
import PyProof.ReprReads
import PyProof.Rows.Range3
import PyProof.P3Eq
import PyProof.Rows.RegSetRoads
import PyProof.CollectWalk
import PySem.Challenge.RW_broadrow_k78_whole_none_is_much_shorter
noncomputable section
open _root_ renaming List → U, Nat → Y, Option → j
open Option renaming some → O, none → J
open PySem renaming Value → B
open _root_ renaming decide_eq_true → RI, if_pos → RJ, if_neg → RK, absurd → RM, Bool → RN, decide_eq_true_eq → RP, decide_eq_false → RR, Array → RW, False → RX, congrArg → RY, String → R1, of_decide_eq_true → R3, beq_self_eq_true → R4, beq_eq_false_iff_ne → R7, or_false → R8, beq_iff_eq → R9, Inhabited → Sb, DecidableEq → Sd, if_true → Sn, True → Sv
open PySem renaming Addr → RL, wpAny → RO, Program → RS, Expr → RT, Heap → RU, eval → RV, Stmt → R0, IsPair → R5, Scope → R6, scanBound → Se, wpAny_pyNext_list_item → Sf, wpAny_pyNext_range_end → Sg, wpAny_pyIter_rangeiter → Sh, wpAny_pyNext_list_end → Sj, builtinLookup_eq_fast → Sk, wpAny_tryCatch → Sl, isSubtype_type → Sm, DictEntry → So, valueAt → Sr, comprehension → Su, wpAny_call → Sw, setsByText → Sx, GenState → Sy, seqIndex_neg → Sz, backToKw → SD, ZipApart → SF, OsState → SG, setNext → SH, cLine → SJ, atKey → SK, ElemsOf → SM, isTrue → SN, pyIter → SO, bindL → SQ, bindC → SR, field → SU, newExc → SV
open PyProof.Rows renaming IntsAre → Sa, subscriptTail_builtinR → Si, subscriptTail → Ss, IsTup → SI
open Option renaming some → Ke, none → Kf
open Bool renaming false → Kg, true → Kh
open PySem renaming wpAny_bind → Kj, Shared → Ki, wpAny_pure → Ko, starEach → Kl, model → Km, World → Ks, mainGlobals → K3, foldedSetIterable → Lj, Around → KO, backTo → KQ, rawInt → KP, wpAny_mono → Lb, wpAny_newObj_type → LK, wpAny_callSpecial?_slot → Mn, wpAny_holding → Ls, wpAny_call_entry → LV, wpAny_pyIter_list → Ma, wpAny_field → Lr, swapsWith → Ln, wpAny_seqItems → L9, closureFor → LD, compareOp → LC, bootBuiltins → L8, binaryOp → Lw, lookup_relabel_local → Nb, SetTable → Lv, codeAny → Lp, FuncData → LF, wpAny_setField → MD, wpAny_Call_Name_kw → Na, Params → Lk, wpAny_setField_rec → M9, wpAny_passesOwn → MN, Builtin → Lu, codeAny_builtin → MM, attributeBase → MC, plainId_quiet → MB, wpAny_truthy_bool → M8, wpAny_setState_of → M7, sysModules → Mb, wpAny_askSetting → M6, letOwnedTupleGo → M5, wpAny_pyIter_tuple → NJ, wpAny_rule → Mp, wpAny_of_eq → MA, IsZip → Lo, pickOrder → Mo, pyNext → LM, behindInMarks → Nc, sliceBounds → MQ, wpAny_letGo → MP, wpAny_ite_false → NK, assign → LR, treeTable → ME, assignEach → MO, getItem → Mc, Keyword → L7, call_meets → ML, fits_of_scanBound → N7, sizeLine_eq → M4, wpAny_isInstance → N6, wpAny_execs_nil → N5, IsPart → L6, wpAny_typeOf → NG, wpAny_updateSeq_pair → OL, importedModules → N4, wpAny_setEntries_of → OK, holding → Mz, BindsTo → My, callerA → Mx, firstArgMember → N3, keywordEach → NF, PassesOwn → M3, Result → Ml, wpAny_standAt → N2, wpAny_onRaise → N1, wpAny_attempt → N0, typeIs_int → ND, hashInt → MK, relabel → MJ, codeAny_mono → NZ, tupleKind → NH, wpAny_updateSeq → OM, IsRangeIter → N9, subscripted → N8
open PySem.W renaming boot_heap → LL, behindTheImports → NI
open PyProof.Rows renaming envOfC → LQ, AllBare → Mm
open List renaming getD_eq_getElem?_getD → Kv, mem_cons_of_mem → Kw, mem_cons_self → Ku, length_map → Kr, getElem?_eq_getElem → KN, length_cons → Kz, range → Kq, length_append → KJ, replicate → Ky, mem_cons → KD, size_toArray → KU, getElem?_map → KY, mem_map → KG, mem_append_right → K7, mem_singleton → K1, length_set → KZ, length_singleton → Lf, all_eq_true → K5, length_range → K9, append_nil → La, map_cons → K2, getElem?_eq_some_iff → LJ, getElem?_cons_succ → LI, nodup_cons → Le, mem_range → Lc, getElem?_append_right → L4, append_assoc → Ll, length_replicate → LO, mem_append → Li, mem_map_of_mem → LH, mem_append_left → LU, nil_append → Lq, mem_of_getElem? → L0, map_map → Lh, getElem?_range → LZ, mem_filter → LG, getElem?_eq_none → Mv, filterMap_cons → Mk, getElem?_replicate → MI, replicate_succ → Mj, map_congr_left → Mi, getElem?_append_left → M1, not_mem_nil → L5, pairwise_cons → Mt, map_append → LY, length_drop → Mg, length_take → Ms, countP_cons → Mr, pairwise_lt_range → Nm, take_append_of_le_length → Oz, getElem?_cons_zero → NP, count_cons → MF, map_replicate → Nj, drop_eq_getElem_cons → Oy, mem_iff_getElem → NO, reverse_cons → Ny, take_succ_cons → NU, length_eq_zero_iff → OI, drop_zero → M0, count_nil → MZ, take_of_length_le → OH, of_mem_zip → Nx, foldl_cons → Nw, find?_cons → Nv, take_append_drop → OG, any_cons → MY, flatten_cons → NS, count_append → NR, length_eraseIdx_of_lt → Pz, getElem?_set_ne → OF, mem_of_mem_drop → OE, pairwise_append → OD, take_zero → Nz, pairwise_iff_getElem → PF, getElem_mem → NX, take_length → NW, drop_length → NV, length → MH, getElem_of_mem → OJ, length_reverse → Ot, drop_succ_cons → Oq, length_nil → NL, getElem?_set_self → Pc, eraseIdxIfInBounds_toArray → Rf, pairwise_map → Ol, idxOf_append → Oj, map_nil → Nh, getLast?_eq_some_getLast → Ra, mem_reverse → Oi, eq_nil_of_length_eq_zero → Q9, mem_of_mem_take → O8, length_pos_iff → O7, idxOf_lt_length_of_mem → Rq, map_const' → Ow, set_cons_zero → Po, set_cons_succ → Pn, getElem?_take_of_lt → Rl, take_sublist → Pj, take_add_one → Pg, ext_getElem? → Pe, nodup_append → Py, getLast?_map → Px, all_cons → Ox, lookup_cons → Pr, any_eq_true → OW, nodup_range → OV, ext_getElem → OU, range_zero → OQ, getLast?_reverse → Qx, nodup_nil → O1, foldl_nil → OY, countP_eq_zero → Q0, mem_filterMap → QZ, getElem?_drop → QY, count_eq_zero → QT, getElem_range → QS, any_eq_false → QR, getElem_take → Q6, getElem?_set → Q5, zipIdx_cons → Qb, cons_append → P8, filter_cons → P7, getElem_map → P6, forIn_cons → P4, zipIdx_nil → P1, forIn_nil → PV, foldl → OP, take_nil → PJ, drop_nil → PH, map_take → Qr, map_drop → Qq, map → Oc, sum_cons → Qm, map_set → Qg
open PySem.W renaming Frag → Kk, kia_one → LP, kitOne → Mq, fnOf → Mu, kia_tup → Nu, findIn → Nr, keepIn → NA, kitx_list → Om, kitx_tuple → Pq, codeIn → Ov, methodObj → Pm, hasDictIn → Pl, specialIn → Pk, cellsFrom_some → QL, instObj → OT, OpenLaw → OS, lookIn → O3, kitAny → O2, kitx_none → QP, kitx_bool → QO, kitx_dict → QN, nsIn → O5, plainGet → Q4, kitx_int → Q3, kitx_str → Q2, takesIn → P5, mroIn → PQ, WalkO → PN, subIn → PK, mg_of → Qo
open Bool renaming false_ne_true → KH, and_eq_true → KS, true_and → MX, false_and → Nt, and_eq_true_iff → O9, eq_iff_iff → OR, false_eq_true → QV, and_true → OX, true_or → O6, or_true → O4, or_eq_true → P0, false_or → PM, not_true → Qn
open Nat renaming le_refl → Kt, ne_of_lt → KR, lt_of_lt_of_le → Ld, le_trans → K0, zero_le → K4, not_lt_zero → Ly, lt_irrefl → LB, ne_of_gt → LS, lt_succ_self → MG, lt_or_ge → LW, lt_succ_of_lt → MW, min_le_right → NY, add_comm → MV, zero_add → MU, lt_of_le_of_lt → Oo, lt_trans → Ng, le_succ → Nf, le_of_lt → NN, sub_self → NM, succ_le_succ → Pt, lt_of_succ_lt_succ → QI, mul_comm → Of, le_of_ble_eq_true → Qz, eq_zero_or_pos → QW, le_of_not_lt → Qc, le_add_right → Qa, min_le_left → PY, zero_lt_one → PX, max_zero → Qh, mul_succ → Qf
open Array renaming length_toList → K6, getElem?_eq_getElem → NQ, getElem?_toList → Nl, getElem?_eq_none → Pb, toArray_toList → Pa, all_eq_true' → Pp, toList_push → Pf, toList_extract → Qu, getD → Oh, mk → Od, toList → Qk
open Option.some renaming inj → K8, injEq → Ph
open Int renaming toNat_natCast → Lz, toNat_of_nonneg → NT, fmod_eq_emod_of_nonneg → PD, eq_ofNat_of_zero_le → Pd, ediv_lt_of_lt_mul → Qy, le_refl → Og, emod_lt_of_pos → QU, emod_nonneg → PZ, zero_add → Qi
open Or renaming inr → Kx, inl → KL
open PyProof.Rows renaming boot_list → Mw, slot_tuple_getitem → NB, callWith_type1 → NC, boot_tuple → Np, callWith_builtin1 → Rb, boot_isinstance → Q8, boot_bool → QH, boot_int → Qv, boot_range → RF, eq_dataH → RD, ne_dataH → RC, kmk_tree → RB, boot_set → Rz, boot_str → Ry
open PySem.F renaming plainAttrs_list → Nq, slot_list_reverse → Rp, plain_extend_loop → Ro, args_tuple_add_2 → Rj, slot_list_append → Ri, type_list_append → Rh, slot_list_insert → Rg, entry_tuple_add → Ru, plain_list_iadd → Rr, slot_tuple_add → QK, slot_list_pop → QG, type_list_pop → QF
open PySem renaming intKind → Mf, mem_of_lookup → Nk, layNew → Oe, entryFor_alias → Qt, relayAll → O0, NameKind → OZ, reprText → PU, boot_len → PR, call → ON, Within → Ql
open Nat.succ renaming inj → LX
open True renaming intro → LN
open Option renaming toList_none → Ni, isSome_iff_exists → Rn, bind_eq_some_iff → Rt, getD_none → Pu, map_eq_some_iff → QJ, toList_some → QX, bind_some → P9
open Ne renaming symm → Lg
open False renaming elim → Mh
open PyProof.Rows.F renaming entry_set_update_loop → Rv
open Prod renaming snd → Me, fst → Oa
open List.Perm renaming refl → Ou, nodup_iff → Q1
open List.Sublist renaming refl → Pw, map → Rw
open PyProof renaming noPylong_small → QM
open PySem.AutoSeq1 renaming list_insert_list_int_val_1 → RG
open List.Pairwise renaming sublist → Qw, filter → Qs, nil → Q7, imp → Rx
open PySem.AutoListH renaming list_reverse_list_0 → RH
open And renaming left → Nd
open Sum renaming inl → MT, inr → MS
open Classical renaming em → Qj
open Sum.inl renaming inj → Qe
open Prod.mk renaming inj → Qd
set_option compiler.extract_closed false
set_option bootstrap.genMatcherCode false
set_option genSizeOf false
set_option genInjectivity false
set_option Elab.async false
set_option linter.all false
set_option maxRecDepth 100000
namespace L2
open PySem PySem.Spec PyProof.Rows
abbrev Key:=Sum Int Str
def jD:Key->B->RN
|.inl k,v=>Value.isInt k v
|.inr x,v=>Value.isStrOf x v
def JQ (w:Ks):Key->Int
|.inl k=>MK k
|.inr x=>hashStr w x
theorem aR:∀{k:Key} {v:B},jD k v=Kh->(∃i t,k=MT i/\v=Value.int i t)\/(∃x t,k=MS x/\v=Value.str x t)
|.inl i,v,h=>by obtain⟨t,e⟩:=Value.isInt_shape (k:=i) (v:=v) h;exact .inl ⟨i,t,rfl,e⟩
|.inr x,v,h=>by obtain⟨t,e⟩:=Value.isStrOf_shape (x:=x) (v:=v) h;exact .inr ⟨x,t,rfl,e⟩
theorem qK (i:Int)(t:Tok):jD (.inl i) (.int i t)=true:=by simp[jD,Value.isInt]
theorem rF (x:Str)(t:Tok):jD (.inr x) (.str x t)=true:=by simp[jD,Value.isStrOf]
theorem De (a b:Int):decide ((MT a:Key)=MT b)=(a==b):=by
 by_cases e:a=b
 .subst e;simp
 .have h:¬ (MT a:Key)=MT b:=fun q=>e<|Qe q;rw[RR h];exact(beq_eq_false_iff_ne.mpr e).symm
theorem Cp (a b:Str):decide ((MS a:Key)=MS b)=decide (a=b):=by
 by_cases e:a=b
 .subst e;simp
 .have h:¬ (MS a:Key)=MS b:=fun q=>e<|Sum.inr.inj q;rw[RR h,RR e]
theorem DL (a:Int)(b:Str):decide ((MT a:Key)=MS b)=false:=RR λq=>nomatch q
theorem Cr (a:Str)(b:Int):decide ((MS a:Key)=MT b)=false:=RR λq=>nomatch q
def bg (prog:RS)(w:Ks):PySem.KeyKind prog w Key where
 is:=jD
 hash:=JQ w
 inj:=λv a b g f=>by
  rcases aR g with⟨i,t,rfl,rfl⟩|⟨x,t,rfl,rfl⟩
  .rcases aR f with ⟨c,u,rfl,e⟩ | ⟨y,u,rfl,e⟩
   .injection e with e1 _;rw[e1]
   .exact nomatch e
  .rcases aR f with ⟨c,u,rfl,e⟩ | ⟨y,u,rfl,e⟩
   .exact nomatch e
   .injection e with e1 _;rw[e1]
 byValue:=λk v h=>by rcases aR h with⟨i,t,rfl,rfl⟩|⟨x,t,rfl,rfl⟩<;>rfl
 pyHash:=λd h=>by
  rcases aR d with⟨i,t,rfl,rfl⟩|⟨x,t,rfl,rfl⟩
  .exact wpAny_pyHash_int h
  .exact wpAny_pyHash_str h
 eqBool:=λl d h=>by
  rcases aR l with⟨i,t,rfl,rfl⟩|⟨x,t,rfl,rfl⟩
  .rcases aR d with ⟨c,u,rfl,rfl⟩ | ⟨y,u,rfl,rfl⟩
   .rw[De] at h;exact wpAny_eqBool_int h
   .rw[DL] at h;exact SeqAt.EqAt.int_str i t y u _ _ _ _ h
  .rcases aR d with ⟨c,u,rfl,rfl⟩ | ⟨y,u,rfl,rfl⟩
   .rw[Cr] at h;exact SeqAt.EqAt.str_int x t c u _ _ _ _ h
   .rw[Cp] at h;exact wpAny_eqBool_str h
 «strs»:=λk x t v h=>by
  rcases aR h with⟨i,u,rfl,e⟩|⟨y,u,rfl,e⟩
  .exact nomatch e
  .injection e with e1 _
   subst e1;cases v<;>rfl
theorem lG (prog:RS)(w:Ks)(i:Int)(t:Tok):(bg prog w).is (.inl i) (.int i t)=true:=qK i t
theorem nA (prog:RS)(w:Ks)(x:Str)(t:Tok):(bg prog w).is (.inr x) (.str x t)=true:=rF x t
set_option genInjectivity true
inductive V where
 |non|bl (b:RN)|int (i:Int)|str (x:Str)|byt (b:RW UInt8)|flt (b:UInt64)|ref (a:RL)|ty (n:R1)
 deriving Sd
set_option genInjectivity false
def RelV:V->B->Prop
|.non,u=>u=Value.none
|.bl b,u=>u=Value.bool b
|.int i,u=>∃t,u=Value.int i t
|.str x,u=>∃t,u=Value.str x t
|.byt b,u=>∃t,u=Value.bytes b t
|.flt b,u=>∃t,u=Value.float b t
|.ref a,u=>u=Value.ref a
|.ty n,u=>u=Value.type n
abbrev Vals:U V->U B->Prop:=Paired RelV
theorem Vals.length {b:U V}{a:U B}(r:Vals b a):b.length=a.length:=Paired.length r
theorem Vals.get:∀{b:U V} {a:U B} {i:Y} {x:V},Vals b a->b[i]?=O x->∃u,a[i]?=O u/\RelV x u
|_,_,_,_,.nil,e=>by simp at e
|_,_,0,_,.cons r _,e=>by simp at e;subst e;exact⟨_,rfl,r⟩
|_,_,i+1,x,.cons _ t,e=>by obtain⟨u,c,d⟩:=Vals.get (i:=i) (x:=x) t (by simpa using e);exact⟨u,by simpa using c,d⟩
theorem Vals.set {x:V}{u:B}(r:RelV x u):∀{b:U V} {a:U B} (i:Y),Vals b a->Vals (b.set i x) (a.set i u)
|_,_,_,.nil=>.nil
|_,_,0,.cons _ t=>.cons r t
|_,_,i+1,.cons q t=>.cons q<|Vals.set r i t
theorem Vals.append:∀{c d:U V} {a b:U B},Vals c a->Vals d b->Vals (c++d) (a++b)
|_,_,_,_,.nil,s=>s
|_,_,_,_,.cons r t,s=>.cons r<|Vals.append t s
theorem Vals.take:∀{b:U V} {a:U B} (n:Y),Vals b a->Vals (b.take n) (a.take n)
|_,_,0,_=>.nil
|_,_,_+1,.nil=>.nil
|_,_,n+1,.cons r t=>.cons r<|Vals.take n t
theorem Vals.drop:∀{b:U V} {a:U B} (n:Y),Vals b a->Vals (b.drop n) (a.drop n)
|_,_,0,r=>r
|_,_,_+1,.nil=>.nil
|_,_,n+1,.cons _ t=>Vals.drop n t
def RelO:j V->j B->Prop
|some v,O u=>RelV v u
|none,J=>Sv
|_,_=>RX
def KV {a:Type}:U (a×V)->U (a×B)->Prop:=Paired λ(p:a×V) (q:a×B)=>p.1=q.1/\RelV p.2 q.2
def kV:Key->V
|.inl i=>.int i
|.inr x=>.str x
inductive HO where
 |lst (xs:U V)
 |tup (xs:U V)
 |dK (kvs:U (Key×V))|dT (kvs:U (U Key×V))
 |set (S:Int->RN) (n:Y)
 |ins (C dx:RL) (fs:U (Str×V))
 |own (x:RL)
 |xd (fs:U (Str×V))
 |met (f x:RL)
 |rng (lo hi:Int)
 |frz (o:Obj) (u:HO)
 |tbl (ps:RW B)
 |ext (φ:RU->Prop)
abbrev Hp:=RL->j HO
noncomputable def upd (H:Hp)(a:RL)(o:HO):Hp:=λb=>if b=a then O o else H b
theorem av {H:Hp}{a:RL}{o:HO}:upd H a o a=O o:=by unfold upd;rw[RJ rfl]
theorem af {H:Hp}{a b:RL}{o:HO}(h:b≠a):upd H a o b=H b:=by unfold upd;rw[RK h]
theorem FJ {H:Hp}{a b:RL}{o u:HO}(h:H a=O o)(c:H b=O u)(d:o≠u):a≠b:=by intro e;subst e;rw[h] at c;exact d<|K8 c
theorem aP {H:Hp}{a b:RL}{o:HO}(h:H a=O o)(c:H b=J):a≠b:=by intro e;subst e;rw[h] at c;cases c
section
variable (P:RS)(w:Ks)
def ObjOk (H:Hp)(h:RU)(a:RL):HO->Prop
|.lst d=>d.length<=sizeLine/\∃(b:U B) (n:Y),Vals d b/\h.get? a=O {cls:=.type "list",data:=.seq b.toArray n}
|.tup d=>d.length<=sizeLine/\∃b:U B,Vals d b/\SI h a b.toArray
|.dK c=>c.length<=sizeLine/\(a==Mb)=Kg/\∃r,KV c r/\h.DictOf (bg P w) a r
| .dT c=>c.length<=sizeLine/\(a==Mb)=Kg/\∃ d:U (U Key×RL×B),
  Paired (λ(p:U Key×V) (q:U Key×RL×B)=>p.1=q.1/\H q.2.1=O (.tup<|p.1.map kV)/\RelV p.2 q.2.2) c d /\
  ∃o k ep,h.get? a=O o/\o.ExactDict/\o.data=.dict k ep/\k.toList=d.map (entryOfKey<|NH<|bg P w)/\(d.map (·.1)).Nodup
|.set S n=>h.SetOf (intKind P w) a S n
| .ins C g fs=>H g=O (.own a)/\fs.length<=1000/\g≠a/\h.get? a=O (OT C g) /\
  ∃e,h.Ns1 g e/\(∀f,RelO (fs.lookup f)<|e f)/\Ql e (fs.map (·.1))
|.own _=>∃o,h.get? a=O o
|.xd fs=>∃e,h.Ns1 a e/\∀f,RelO (fs.lookup f)<|e f
|.rng lo s=>∃t u v,h.get? a=O {cls:=.type "range",data:=.fields #[.int lo t,.int s u,.int 1 v]}
|.frz o u=>h.get? a=O o/\ObjOk H h a u
|.tbl y=>h.get? a=O {cls:=.none,data:=.fields y}
|.met f x=>h.get? a=O (Pm (.ref f)<|.ref x)
|.ext i=>i h/\(∃o,h.get? a=O o)/\∀l m:RU,i l->(∀o,l.get? a=O o->m.get? a=O o)->i m
def HOk (H:Hp)(h:RU):Prop:=∀a o,H a=O o->ObjOk P w H h a o
end
section
variable {P:RS}{w:Ks}{H H':Hp}{h h':RU}{a:RL}{o:HO}
theorem ObjOk.lt (x:ObjOk P w H h a o):a<h.objs.size:=by
 cases o with
 |lst c=>obtain⟨_,_,_,_,e⟩:=x;exact Heap.lt_size e
 |tup c=>obtain⟨_,_,_,p⟩:=x;exact p.lt
 |dK b=>obtain⟨_,_,_,_,o,_,_,e,_⟩:=x;exact Heap.lt_size e
 |dT b=>obtain⟨_,_,_,_,o,_,_,e,_⟩:=x;exact Heap.lt_size e
 |set S n=>obtain⟨o,_,_,_,e,_⟩:=x;exact Heap.lt_size e
 |ins C d fs=>obtain⟨_,_,_,e,_⟩:=x;exact Heap.lt_size e
 |own y=>obtain⟨_,e⟩:=x;exact Heap.lt_size e
 |xd fs=>obtain⟨_,⟨_,_,_,e,_⟩,_⟩:=x;exact Heap.lt_size e
 |rng lo g=>obtain⟨_,_,_,e⟩:=x;exact Heap.lt_size e
 |frz i u=>obtain⟨e,_⟩:=x;exact Heap.lt_size e
 |tbl k=>exact Heap.lt_size<|show h.get? a=O _ from x
 |met f y=>exact Heap.lt_size<|show h.get? a=O _ from x
 |ext l=>obtain⟨_,⟨_,e⟩,_⟩:=x;exact Heap.lt_size e
theorem Paired.mapP {e g:Type}{F G:e->g->Prop}:∀{c:U e} {d:U g},Paired F c d->(∀a b,F a b->G a b)->Paired G c d
|_,_,.nil,_=>.nil
|_,_,.cons r t,f=>.cons (f _ _ r)<|Paired.mapP t f
theorem ObjOk.stay (x:ObjOk P w H h a o)(k:∀b u,(b=a\/H b=O (.own a))->h.get? b=O u->h'.get? b=O u)
  (ho:∀b,H b=O (.own a)->H' b=O (.own a)) (I:∀b m,H b=O (.tup m)->H' b=O (.tup m)):ObjOk P w H' h' a o:=by
 induction o with
 |lst m=>obtain⟨z,l,n,r,e⟩:=x;exact⟨z,l,n,r,k _ _ (.inl rfl) e⟩
 |tup m=>obtain⟨z,l,r,g,e,c⟩:=x;exact⟨z,l,r,g,k _ _ (.inl rfl) e,c⟩
 |dK s=>obtain⟨z,y,N,r,g,i,ep,e,c⟩:=x;exact⟨z,y,N,r,g,i,ep,k _ _ (.inl rfl) e,c⟩
 |dT s=>obtain⟨z,y,m,r,g,i,ep,e,c⟩:=x;exact⟨z,y,m,Paired.mapP r λp q z=>⟨z.1,I _ _ z.2.1,z.2.2⟩,g,i,ep,k _ _ (.inl rfl) e,c⟩
 |set S n=>obtain⟨g,i,ep,t,e,c⟩:=x;exact⟨g,i,ep,t,k _ _ (.inl rfl) e,c⟩
 |ins C Q fs=>obtain⟨d,z,M,e,A,⟨D,i,ep,e2,c⟩,r⟩:=x;exact⟨ho _ d,z,M,k _ _ (.inl rfl) e,A,⟨D,i,ep,k _ _ (.inr d) e2,c⟩,r⟩
 |own y=>obtain⟨g,e⟩:=x;exact⟨g,k _ _ (.inl rfl) e⟩
 |xd fs=>obtain⟨A,⟨D,i,ep,e,c⟩,r⟩:=x;exact⟨A,⟨D,i,ep,k _ _ (.inl rfl) e,c⟩,r⟩
 |rng lo Z=>obtain⟨t,u,v,e⟩:=x;exact⟨t,u,v,k _ _ (.inl rfl) e⟩
 |frz g u L=>obtain⟨e,q⟩:=x;exact⟨k _ _ (.inl rfl) e,L q⟩
 |tbl F=>have e:h.get? a=O {cls:=.none,data:=.fields F}:=x;show h'.get? a=O {cls:=.none,data:=.fields F};exact k a _ (.inl rfl) e
 |met f y=>have e:h.get? a=O (Pm (.ref f) (.ref y)):=x;show h'.get? a=O (Pm (.ref f)<|.ref y);exact k a _ (.inl rfl) e
 |ext φ=>obtain⟨p,⟨o,e⟩,G⟩:=x;exact⟨G _ _ p λo q=>k _ _ (.inl rfl) q,⟨o,k _ _ (.inl rfl) e⟩,G⟩
theorem HOk.lt (x:HOk P w H h)(e:H a=O o):a<h.objs.size:=(x a o e).lt
theorem HOk.fresh (x:HOk P w H h)(e:h.objs.size<=a):H a=none:=by
 cases q:H a with
 |none=>rfl
 |some u=>exact RM (Ld (x.lt q) e)<|LB _
theorem HOk.kept (x:HOk P w H h)(k:∀b u,h.get? b=O u->h'.get? b=O u):HOk P w H h':=λa o e=>
 (x a o e).stay (λb u _ q=>k b u q) (λ_ q=>q) λ_ _ q=>q
theorem HOk.laid (x:HOk P w H h)(k:∀b u,h.get? b=O u->h'.get? b=O u)(hp:h.objs.size<=a)(d:ObjOk P w (upd H a o) h' a o):HOk P w (upd H a o) h':=λb u e=>by
 have g:=x.fresh hp;by_cases f:b=a
 .subst f;rw[av] at e;cases e;exact d
 .rw [af f] at e;exact(x b u e).stay (λc v _ q=>k c v q) (λc q=>by rw[af<|aP q g];exact q) λc i q=>by rw[af<|aP q g];exact q
end
def Rd (H:Hp)(a:RL)(u:HO):Prop:=H a=O u\/∃o,H a=O (.frz o u)
theorem Rd.ok {P:RS}{w:Ks}{H:Hp}{h:RU}{a:RL}{u:HO}(r:Rd H a u)(x:HOk P w H h):ObjOk P w H h a u:=by
 rcases r with r|⟨o,r⟩
 .exact x a u r
 .obtain ⟨_,q⟩:=x a _ r;exact q
def Mut:j HO->Prop
|some (.lst _)=>Sv
|some (.dK _)=>Sv
|some (.dT _)=>Sv
|some (.set _ _)=>Sv
|some (.ins _ _ _)=>Sv
|some (.ext _)=>Sv
|_=>RX
section
variable {P:RS}{w:Ks}{H:Hp}{h h':RU}{x e:RL}{o':HO}
theorem HOk.write (ok:HOk P w H h)(l:Mut<|H x)(p:e=x\/H e=O (.own x))(k:∀b u,b≠e->h.get? b=O u->h'.get? b=O u)(n:∃u,h'.get? e=O u)
  (o:ObjOk P w (upd H x o') h' x o'):HOk P w (upd H x o') h':=λb u q=>by
 have d:∀c y,H c=O (.own y)->c≠x:=λc y r z=>by subst z;rw[r] at l;exact l
 have f:∀c m,H c=O (.tup m)->c≠x:=λc m r z=>by subst z;rw[r] at l;exact l
 by_cases g:b=x
 .subst g;rw[av] at q;cases q;exact o
 .rw [af g] at q;by_cases a:b=e
  .have s:H b=O (.own x):=by
    rcases p with z|z
    .exact RM (a.trans z) g
    .rw[a];exact z
   rw[q] at s;cases s;obtain⟨v,t⟩:=n;exact⟨v,by rw[a];exact t⟩
  .refine (ok b u q).stay (fun c v i r=>k c v ?_ r) (fun c r=>by rw [af (d c b r)]; exact r) fun c m r=>by rw [af (f c m r)]; exact r
   rcases i with rfl|i
   .exact a
   .rintro rfl;rcases p with z|z
    .exact d c b i z
    .rw[i] at z;cases z;exact g rfl
end
structure Un (fs ex:U RL)(H H':Hp)(h h':RU):Prop where
 keep:∀b o,h.get? b=O o->H b=J->b ∉ fs->b ∉ ex->h'.get? b=O o
 slot:∀b o,h.get? b=O o->H b=J->b∈fs->b ∉ ex->∃sl,h'.get? b=O {o with slots:=sl}
 free:∀b o,h.get? b=O o->H b=J->b ∉ ex->H' b=J
 there:∀b o,h.get? b=O o->b ∉ ex->∃o',h'.get? b=O o'
 tups:∀b xs,H b=O (.tup xs)->H' b=O (.tup xs)
 frzs:∀b o u,H b=O (.frz o u)->H' b=O (.frz o u)
 tbls:∀b ps,H b=O (.tbl ps)->∃more,H' b=O (.tbl (ps++more))
section
variable {fs fs' ex ex':U RL}{H H1 H2:Hp}{h h1 h2 h':RU}{a x e:RL}{o:HO}
theorem Un.any (u:Un fs ex H H1 h h1){b:RL}{c:Obj}(q:h.get? b=O c)(n:H b=J)(hx:b ∉ ex):∃f,h1.get? b=O {c with slots:=f}:=by
 by_cases d:b∈fs
 .exact u.slot b c q n d hx
 .exact⟨c.slots,u.keep b c q n d hx⟩
theorem Un.kept (k:∀b u,h.get? b=O u->h'.get? b=O u):Un fs ex H H h h':=
 ⟨λb c q _ _ _=>k b c q,λb c q _ _ _=>⟨c.slots,k b c q⟩,λ_ _ _ n _=>n,λb c q _=>⟨c,k b c q⟩,λ_ _ q=>q,λ_ _ _ q=>q,λ_ d q=>⟨#[],by rw[q];simp⟩⟩
theorem Un.refl:Un fs ex H H h h:=Un.kept λ_ _ q=>q
theorem Un.laid (k:∀b u,h.get? b=O u->h'.get? b=O u)(hp:h.objs.size<=a)(c:H a=J):Un fs ex H (upd H a o) h h' where
 keep:=λb u q _ _ _=>k b u q
 slot:=λb u q _ _ _=>⟨u.slots,k b u q⟩
 free:=λb u q n _=>by rw[af<|KR<|Ld (Heap.lt_size q) hp];exact n
 there:=λb u q _=>⟨u,k b u q⟩
 tups:=λb d q=>by rw[af<|aP q c];exact q
 frzs:=λb u d q=>by rw[af<|aP q c];exact q
 tbls:=λb f q=>⟨#[],by rw[af<|aP q c,q];simp⟩
theorem Un.write (d:Mut<|H x)(l:e=x\/H e=O (.own x))(k:∀b u,b≠e->h.get? b=O u->h'.get? b=O u)(f:∃u,h'.get? e=O u):Un fs ex H (upd H x o) h h':=by
 have hx:∀b,H b=J->b≠x:=λb n z=>by subst z;rw[n] at d;exact d
 have i:∀b,H b=J->b≠e:=λb n z=>by
  subst z;rcases l with r|r
  .exact hx b n r
  .rw[n] at r;cases r
 have g:∀b u,H b=O u->¬Mut (O u)->b≠x:=λb u q m z=>by subst z;rw[q] at d;exact m d
 refine⟨λb u q n _ _=>k b u (i b n) q,λb u q n _ _=>⟨u.slots,k b u (i b n) q⟩,λb u q n _=>by rw[af<|hx b n];exact n,λb u q _=>?_,
  λb p q=>by rw[af<|g b _ q λz=>z];exact q,λb u p q=>by rw[af<|g b _ q λz=>z];exact q,λb s q=>⟨#[],by rw[af<|g b _ q λz=>z,q];simp⟩⟩
 by_cases c:b=e
 .subst c;exact f
 .exact⟨u,k b u c q⟩
end
noncomputable def trk (h:RU)(H:Hp):U RL:=(Kq h.objs.size).filter λa=>(H a).isSome
def k8 (h:RU)(H:Hp):RU:=PySem.W.hideAll h<|trk h H
theorem qV (h:RU)(H:Hp):(k8 h H).objs.size=h.objs.size:=PySem.W.hideAll_size _ _
theorem xn {h:RU}{H:Hp}{b:RL}{o:Obj}(e:h.get? b=O o)(n:H b=J):(k8 h H).get? b=O o:=
 PySem.W.hideAll_get _ e λa=>by have q:(H b).isSome=true:=(LG.mp a).2;rw[n] at q;simp at q
theorem zK {h:RU}{H:Hp}{b:RL}{o:Obj}(e:(k8 h H).get? b=O o):h.get? b=O o/\H b=none:=by
 have a:h.get? b=O o:=PySem.W.of_hideAll (trk h H) e;refine⟨a,?_⟩;cases q:H b with
 |none=>rfl
 |some x=>have c:b∈trk h H:=LG.mpr ⟨Lc.mpr<|Heap.lt_size a,by simp[q]⟩;have z:(k8 h H).get? b=none:=PySem.W.hideAll_none (trk h H) c;rw[z] at e;cases e
noncomputable def zM (g h:RU)(L:RL):U (RL×Obj):=(Kq h.objs.size).filterMap λa=>if a=L\/(g.get? a).isSome=Kh then J else(h.get? a).map λo=>(a,o)
def rest (g h:RU)(L d:RL):U (RL×Obj):=(zM g h L).filter λp=>decide (p.1≠d)
structure Mod (K:Kk)(mg:Str->j B)(base:RU):Prop where
 kin:K.In base
 glob:base.Ns K3 mg
 blt:∃mb,base.Ns builtinsNs mb/\∀x:Str,x≠"__name__"->mb x=L8 x
 nolimit:base.NoLimit
structure Cx where
 prog:RS
 w:Ks
 K:Kk
 mg:Str->j B
 base:RU
 A:KO
 N:U Str
 s₀:Ki
 H₀:Hp
 env:Env
 outer:U Env
 stack:U Env
 ex:U RL
 fn:Str->RN
 calm:RN
 pn:U (RL×Obj)
 xe:B->Ki->Prop
def frs (l:U Env):U RL:=l.filterMap (·.frame)
abbrev Cx.fs (X:Cx):U RL:=frs X.outer
def Vis (a:R6)(x:Str):Prop:=a.names.lookup x=O .local\/a.names.lookup x=O .cell\/a.names.lookup x=O .free
def Loc (a:R6)(x:Str):Prop:=a.names.lookup x=O .local\/a.names.lookup x=O .cell
def Jo (a:Env)(h:RU)(m:Str->j B)(x:Str)(u:B):Prop:=
 (a.kindOf x=O .local/\m x=O u)\/((a.kindOf x=O .cell\/a.kindOf x=O .free)/\∃c,a.cells.lookup x=O c/\h.IsCell c (O u))
structure Cx.Ok (X:Cx):Prop where
 mod:Mod X.K X.mg X.base
 kind:X.env.scope.kind=.function
 glob:X.env.globals=K3
 blt:X.env.builtins=builtinsNs
 above:X.s₀.heap.objs.size<=X.env.locals
 inj:∀x y c,X.env.cells.lookup x=O c->X.env.cells.lookup y=O c->x=y
 has:∀x,(X.env.kindOf x=O .cell\/X.env.kindOf x=O .free)->∃c,X.env.cells.lookup x=O c
 cab:∀x c,X.fn x=Kh->X.env.cells.lookup x=O c->X.s₀.heap.objs.size<=c
 hd:X.calm=Kh->X.A.handled=J
 frames:X.A.frames=O X.stack
 stk:X.stack=X.outer\/(X.stack=X.env::X.outer/\X.env.frame=O X.env.locals)
 exf:∀b∈X.ex,b≠X.env.locals/\∀x c,X.env.cells.lookup x=O c->c≠b
 bs:∀b o,X.base.get? b=O o->X.s₀.heap.get? b=O o/\X.H₀ b=J
 bsz:X.base.objs.size<=X.s₀.heap.objs.size
 noex:∀b o,X.base.get? b=O o->b ∉ X.ex
 exfs:∀b∈X.ex,b ∉ X.fs
 funs:X.s₀.heap.FunFrames X.base X.outer
 frf:∀b∈X.fs,X.H₀ b=J
structure Inv (X:Cx)(pins:U (RL×Obj))(σ:U (j V))(H:Hp)(s:Ki):Prop where
 ok:X.Ok
 os:s.os=X.s₀.os
 bare:Mm s.gens
 base:Un X.fs X.ex X.H₀ H X.s₀.heap s.heap
 loc:∃m,s.heap.Ns X.env.locals m/\∀(i:Y) (x:Str) (v:V),X.N[i]?=O x->σ[i]?=O (O v)->Vis X.env.scope x->∃u,RelV v u/\Jo X.env s.heap m x u
 cell:∀x c,X.env.cells.lookup x=O c->∃v,s.heap.IsCell c v
 free:H X.env.locals=J
 freeC:∀x c,X.env.cells.lookup x=O c->H c=J
 pin:∀p∈X.pn++pins,s.heap.get? p.1=O p.2/\H p.1=J/\p.1≠X.env.locals/\p.1 ∉ X.fs/\∀v,p.2.data≠.cell v
 hok:HOk X.prog X.w H s.heap
 len:σ.length=X.N.length
section
variable {X:Cx}{pins:U (RL×Obj)}{σ:U (j V)}{H H':Hp}{s:Ki}{h':RU}
theorem Cx.Ok.nofr (ok:X.Ok){b:RL}{o:Obj}(e:X.base.get? b=O o):b ∉ X.fs:=λa=>by have:=(ok.funs.mem a).1;rw[e] at this;cases this
theorem Inv.bs (I:Inv X pins σ H s):∀b o,X.base.get? b=O o->s.heap.get? b=O o/\H b=none:=λb o e=>
 ⟨I.base.keep b o (I.ok.bs b o e).1 (I.ok.bs b o e).2 (I.ok.nofr e)<|I.ok.noex b o e,I.base.free b o (I.ok.bs b o e).1 (I.ok.bs b o e).2<|I.ok.noex b o e⟩
theorem Inv.bk (I:Inv X pins σ H s):∀b o,X.base.get? b=O o->s.heap.get? b=O o:=λb o e=>(I.bs b o e).1
theorem Inv.mod (I:Inv X pins σ H s):Mod X.K X.mg X.base:=I.ok.mod
theorem Inv.kIn (I:Inv X pins σ H s):X.K.In s.heap:=I.ok.mod.kin.keeps I.bk
theorem Inv.fr (I:Inv X pins σ H s):∃m,Fr X.base X.env.locals s.heap m:=
 let ⟨m,a,_⟩:=I.loc
 ⟨m,a,I.bk,K0 I.ok.bsz I.ok.above⟩
theorem Inv.lt (I:Inv X pins σ H s):X.env.locals<s.heap.objs.size:=let ⟨_,a,_⟩:=I.loc;a.lt
theorem Inv.sz (I:Inv X pins σ H s):X.s₀.heap.objs.size<=s.heap.objs.size:=K0 I.ok.above<|NN I.lt
theorem Inv.nofs (I:Inv X pins σ H s){a:RL}(h:s.heap.objs.size<=a):a ∉ X.fs:=λb=>by obtain⟨_,o,ho,_⟩:=I.ok.funs.mem b;exact RM (Ld (Heap.lt_size ho)<|K0 I.sz h)<|LB _
theorem Inv.cne (I:Inv X pins σ H s):∀x c,X.env.cells.lookup x=O c->c≠X.env.locals:=λx c e z=>by obtain⟨v,o,ho,d⟩:=I.cell x c e;obtain⟨m,⟨g,f,ep,b,a,_⟩,_⟩:=I.loc;rw[z,b] at ho;cases ho;rw[a] at d;cases d
theorem Inv.funs (I:Inv X pins σ H s):s.heap.FunFrames X.base X.outer:=by
 have all:∀(l:U Env),(∀b∈frs l,b∈X.fs)->X.s₀.heap.FunFrames X.base l->s.heap.FunFrames X.base l:=by
  intro l;induction l with
  |nil=>intro _ _;trivial
  |cons g r n=>intro f i;obtain⟨hk,⟨L,o,d,k,ho,h⟩,m⟩:=i;have a:L∈X.fs:=f L (by unfold frs;rw[Mk,d];exact Ku);obtain⟨p,e⟩:=I.base.slot L o ho (I.ok.frf L a) a λz=>I.ok.exfs L z a;exact⟨hk,⟨L,_,d,k,e,h⟩,n (λb c=>f b<|by unfold frs;rw[Mk,d];exact Kw _ c) m⟩
 exact all X.outer (λ_ c=>c) I.ok.funs
theorem Inv.stack (I:Inv X pins σ H s):s.heap.FunFrames X.base X.stack:=by
 rcases I.ok.stk with e|⟨e,hf⟩
 .rw[e];exact I.funs
 .rw [e];obtain⟨m,a,_⟩:=I.loc;refine .cons (by rw[I.ok.kind];decide) hf a ?_ I.funs;exact Heap.get?_none_of_le<|K0 I.ok.bsz I.ok.above
theorem Inv.stkSub (I:Inv X pins σ H s):∀b∈frs X.stack,b∈X.env.locals::X.fs:=λb a=>by
 rcases I.ok.stk with e|⟨e,hf⟩
 .rw[e] at a;exact Kw _ a
 .rw [e] at a;unfold frs at a;rw[Mk,hf] at a;exact a
theorem Inv.stkFree (I:Inv X pins σ H s):∀b∈frs X.stack,H b=none:=λb a=>by
 rcases KD.mp (I.stkSub b a) with e|a
 .rw[e];exact I.free
 .obtain ⟨_,o,ho,_⟩:=I.ok.funs.mem a;exact I.base.free b o ho (I.ok.frf b a) λz=>I.ok.exfs b z a
theorem Inv.step {g':RW Sy}{t':Y}{d':Drawn}{ch:U RL}(I:Inv X pins σ H s)
  (g:∀b∈ch,(b∈X.ex\/X.s₀.heap.objs.size<=b)/\b≠X.env.locals/\(∀x c,X.env.cells.lookup x=O c->c≠b)/\∀p∈X.pn++pins,p.1≠b)
  (keep:∀b o,b≠X.env.locals->b ∉ X.fs->b ∉ ch->s.heap.get? b=O o->H b=J->h'.get? b=O o)
  (y:∀b o,b≠X.env.locals->b∈X.fs->b ∉ ch->s.heap.get? b=O o->H b=J->∃sl,h'.get? b=O {o with slots:=sl}) (a:∀b o,b ∉ ch->s.heap.get? b=O o->H b=J->H' b=J)
  (F:∀b o,b ∉ ch->s.heap.get? b=O o->∃M,h'.get? b=O M)
  (P:∀b A,H b=O (.tup A)->H' b=O (.tup A)) (G:∀b o u,H b=O (.frz o u)->H' b=O (.frz o u)) (N:∀b Q,H b=O (.tbl Q)->∃more,H' b=O (.tbl<|Q++more))
  (ns:∀m,s.heap.Ns X.env.locals m->h'.Ns X.env.locals m) (hok:HOk X.prog X.w H' h') (hg:Mm g'):
  Inv X pins σ H' {s with heap:=h',gens:=g',drawn:=d',toks:=t'}:=by
 have L:∀b o,X.s₀.heap.get? b=O o->b≠X.env.locals:=λb o e=>KR<|Ld (Heap.lt_size e) I.ok.above
 have t:∀b o,X.s₀.heap.get? b=O o->b ∉ X.ex->b ∉ ch:=λb o e hx D=>by
  rcases(g b D).1 with z|z
  .exact hx z
  .exact RM (Ld (Heap.lt_size e) z) (LB _)
 have f:∀x c,X.env.cells.lookup x=O c->∀v,s.heap.IsCell c v->h'.IsCell c v:=λx c e v ⟨o,ho,Z⟩=>by
  have h:c ∉ ch:=λz=>(g c z).2.2.1 x c e rfl;by_cases hc:c∈X.fs
  .obtain ⟨sl,q⟩:=y c o (I.cne x c e) hc h ho<|I.freeC x c e;exact⟨_,q,Z⟩
  .exact⟨o,keep c o (I.cne x c e) hc h ho<|I.freeC x c e,Z⟩
 refine⟨I.ok,I.os,hg,⟨λb o e n D hx=>?_,λb o e n D hx=>?_,λb o e n hx=>?_,λb o e hx=>?_,λb A e=>P b A<|I.base.tups b A e,λb o A e=>G b o A<|I.base.frzs b o A e,λb Q e=>?_⟩,?_,λx c e=>?_,?_,λx c e=>?_,λp hp=>?_,hok,I.len⟩
 .exact keep b o (L b o e) D (t b o e hx) (I.base.keep b o e n D hx) (I.base.free b o e n hx)
 .obtain ⟨sl,e1⟩:=I.base.slot b o e n D hx;obtain⟨sl',e2⟩:=y b _ (L b o e) D (t b o e hx) e1<|I.base.free b o e n hx;exact⟨sl',e2⟩
 .obtain ⟨M,e1⟩:=I.base.there b o e hx;exact a b M (t b o e hx) e1<|I.base.free b o e n hx
 .obtain ⟨M,e1⟩:=I.base.there b o e hx;exact F b M (t b o e hx) e1
 .obtain ⟨m1,e1⟩:=I.base.tbls b Q e;obtain⟨m2,e2⟩:=N b _ e1;exact⟨m1++m2,by rw[e2,Array.append_assoc]⟩
 .obtain ⟨m,hn,hl⟩:=I.loc;refine⟨m,ns m hn,λi x v e1 e2 e3=>?_⟩;obtain⟨u,r,l⟩:=hl i x v e1 e2 e3;refine⟨u,r,?_⟩;rcases l with l|⟨k,c,e,z⟩
  .exact .inl l
  .exact .inr ⟨k,c,e,f x c e _ z⟩
 .obtain ⟨v,z⟩:=I.cell x c e;exact⟨v,f x c e v z⟩
 .obtain ⟨m,⟨o,_,_,ho,_⟩,_⟩:=I.loc;exact a _ o (λz=>(g _ z).2.1 rfl) ho I.free
 .obtain ⟨v,o,ho,Z⟩:=I.cell x c e;exact a c o (λz=>(g c z).2.2.1 x c e rfl) ho<|I.freeC x c e
 .obtain ⟨e,n,ne,nf,d⟩:=I.pin p hp;have h:p.1 ∉ ch:=λz=>(g p.1 z).2.2.2 p hp rfl;exact⟨keep p.1 p.2 ne nf h e n,a p.1 p.2 h e n,ne,nf,d⟩
theorem Inv.un {t':Y}(I:Inv X pins σ H s)(u:Un X.fs [] H H' s.heap h')(g:HOk X.prog X.w H' h'):Inv X pins σ H' {s with heap:=h',toks:=t'}:=by
 obtain⟨m,⟨o,l,ep,ho,r⟩,_⟩:=id I.loc;obtain⟨v,h⟩:=u.any ho I.free<|by simp
 exact I.step (g':=s.gens) (d':=s.drawn) (ch:=[]) (λ_ z=>nomatch z) (λb o _ f _ e n=>u.keep b o e n f<|by simp) (λb o _ f _ e n=>u.slot b o e n f<|by simp) (λb o _ e n=>u.free b o e n<|by simp) (λb o _ e=>u.there b o e<|by simp) u.tups u.frzs u.tbls (λp i=>by
  obtain⟨t,d,c,a,k⟩:=i;rw[ho] at a;cases a;exact⟨_,d,c,h,k⟩) g I.bare
theorem Inv.call {g':RW Sy}{t':Y}{d':Drawn}{ch:U RL}(I:Inv X pins σ H s)(u:Un (frs X.stack) ch H H' s.heap h')(k:HOk X.prog X.w H' h')(t:Mm g')
  (d:∀b∈ch,(b∈X.ex\/X.s₀.heap.objs.size<=b)/\b≠X.env.locals/\(∀x c,X.env.cells.lookup x=O c->c≠b)/\∀p∈X.pn++pins,p.1≠b):
  Inv X pins σ H' {s with heap:=h',gens:=g',drawn:=d',toks:=t'}:=by
 obtain⟨m,⟨o,A,ep,ho,r⟩,_⟩:=id I.loc;obtain⟨G,i⟩:=u.any ho I.free λz=>(d _ z).2.1 rfl
 exact I.step (ch:=ch) d (λb o i l a e n=>u.keep b o e n (λz=>(KD.mp<|I.stkSub b z).elim i l) a) (λb o _ _ a e n=>u.any e n a) (λb o a e n=>u.free b o e n a) (λb o a e=>u.there b o e a) u.tups u.frzs u.tbls (λD v=>by
  obtain⟨F,h,g,f,y⟩:=v;rw[ho] at f;cases f;exact⟨_,h,g,i,y⟩) k t
theorem Inv.turned {t':Y}{it:RL}(I:Inv X pins σ H s)(k:∀b o,b≠it->s.heap.get? b=O o->h'.get? b=O o)(y:H it=J)(f:it≠X.env.locals)
  (h:it∈X.ex\/X.s₀.heap.objs.size<=it) (i:∀x c,X.env.cells.lookup x=O c->c≠it) (l:∀p∈X.pn++pins,p.1≠it):Inv X pins σ H {s with heap:=h',toks:=t'}:=by
 have d:∀b u,H b=O u->b≠it:=λb u e z=>by rw[z,y] at e;cases e
 refine I.step (g':=s.gens) (d':=s.drawn) (ch:=[it]) (λb t=>?_) (λb o _ _ a e _=>k b o (λz=>a<|by simp[z]) e) (λb o _ _ a e _=>⟨o.slots,k b o (λz=>a<|by simp[z]) e⟩) (λ_ _ _ _ n=>n)
  (λb o a e=>⟨o,k b o (λz=>a<|by simp[z]) e⟩) (λ_ _ e=>e) (λ_ _ _ e=>e) (λb A e=>⟨#[],by rw[e];simp⟩) (λm w=>?_) (λb u e=>?_) I.bare
 .have e:b=it:=by simpa using t
  subst e;exact⟨h,f,i,l⟩
 .obtain ⟨o,g,ep,ho,r⟩:=w;exact⟨o,g,ep,k _ o (Lg f) ho,r⟩
 .refine (I.hok b u e).stay (fun c v a q=>k c v ?_ q) (fun _ q=>q) fun _ _ q=>q;rcases a with z|z
  .rw[z];exact d b u e
  .exact d c _ z
theorem Inv.tok (I:Inv X pins σ H s)(t:Y):Inv X pins σ H {s with toks:=t}:=I.un (h':=s.heap) (t':=t) Un.refl I.hok
theorem Inv.kept {t':Y}(I:Inv X pins σ H s)(k:∀b u,s.heap.get? b=O u->h'.get? b=O u):Inv X pins σ H {s with heap:=h',toks:=t'}:=I.un (Un.kept k)<|I.hok.kept k
theorem Inv.laid {a:RL}{o:HO}{t':Y}(I:Inv X pins σ H s)(k:∀b u,s.heap.get? b=O u->h'.get? b=O u)(hp:s.heap.objs.size<=a)(c:ObjOk X.prog X.w (upd H a o) h' a o):
  Inv X pins σ (upd H a o) {s with heap:=h',toks:=t'}:=I.un (Un.laid k hp<|I.hok.fresh hp)<|I.hok.laid k hp c
theorem Inv.write {x e:RL}{o:HO}{g:Y}(I:Inv X pins σ H s)(f:Mut<|H x)(d:e=x\/H e=O (.own x))(k:∀b u,b≠e->s.heap.get? b=O u->h'.get? b=O u)(a:∃u,h'.get? e=O u)
  (c:ObjOk X.prog X.w (upd H x o) h' x o):Inv X pins σ (upd H x o) {s with heap:=h',toks:=g}:=I.un (Un.write f d k a)<|I.hok.write f d k a c
theorem Inv.weak {a:U<|j V}(I:Inv X pins σ H s)(c:a.length=σ.length)(w:∀(i:Y) v,a[i]?=O (O v)->σ[i]?=O (O v)):Inv X pins a H s:=
 ⟨I.ok,I.os,I.bare,I.base,let ⟨m,d,b⟩:=I.loc;⟨m,d,λi x v e1 e2 e3=>b i x v e1 (w i v e2) e3⟩,I.cell,I.free,I.freeC,I.pin,I.hok,c.trans I.len⟩
theorem Inv.pins_of {a:U<|RL×Obj}(I:Inv X pins σ H s)(h:∀p∈a,s.heap.get? p.1=O p.2/\H p.1=J/\p.1≠X.env.locals/\p.1 ∉ X.fs/\∀v,p.2.data≠.cell v):Inv X a σ H s:=
 ⟨I.ok,I.os,I.bare,I.base,I.loc,I.cell,I.free,I.freeC,λp hp=>(Li.mp hp).elim (λz=>I.pin p<|LU _ z)<|h p,I.hok,I.len⟩
theorem mR {N:U Str}(d:N.Nodup){i c:Y}{x:Str}(a:N[i]?=O x)(b:N[c]?=O x):i=c:=by obtain⟨e,e1⟩:=LJ.mp a;obtain⟨f,e2⟩:=LJ.mp b;exact(List.getElem_inj d).mp<|e1.trans e2.symm
theorem jA {M:Model}{A:KO}{E:B->Ki->Prop}{i:Y}{x:Str}{v:V}{u:B}{Q:Unit->Ki->Prop}(I:Inv X pins σ H s)(hN:X.N.Nodup)(hi:X.N[i]?=O x)(hx:Loc X.env.scope x)(r:RelV v u)
  (h:∀s',Inv X pins (σ.set i<|O v) H s'->(∃a,Heap.SameBut a s.heap s'.heap/\(a=X.env.locals\/X.env.cells.lookup x=O a))->Q () s') (hf:X.fn x=Kh\/X.env.scope.names.lookup x=O .local:=by first|exact .inl rfl|exact .inr rfl|assumption):RO M A (storeName X.env x u) Q E s:=by
 obtain⟨m,hn,hl⟩:=id I.loc;have hcls:(X.env.scope.kind==.class || (X.env.scope.kind==.module&&X.env.locals != X.env.globals))=false:=by rw[I.ok.kind];rfl
 have F:i < σ.length:=by rw[I.len];exact(LJ.mp hi).1
 have cne:=I.cne
 have l:∀{a:RL} {h':RU},(∃o,s.heap.get? a=O o/\H a=J)->Heap.SameBut a s.heap h'->HOk X.prog X.w H h':=λ{a h'} ha g b ob e=>by
  obtain⟨_,_,D⟩:=ha;refine(I.hok b ob e).stay (λc w' t q=>(g.2 c ?_).trans q) (λ_ q=>q) λ_ _ q=>q;rintro rfl;rcases t with rfl|t
  .rw[D] at e;cases e
  .rw[D] at t;cases t
 rcases hx with hk|hk
 .refine wpAny_storeName_local hk hn (fun h' hn' g=>?_) hcls;obtain⟨oL,_,_,hoL,_⟩:=id hn;refine h _ ⟨I.ok,I.os,I.bare,⟨λb o e n G hx=>?_,λb o e n G hx=>?_,I.base.free,λb o e hx=>?_,I.base.tups,I.base.frzs,I.base.tbls⟩,⟨_,hn',λf y v' e1 e2 e3=>?_⟩,λy c e=>?_,I.free,I.freeC,λp hp=>?_,l ⟨oL,hoL,I.free⟩ g,by simpa using I.len⟩ ⟨_,g,.inl rfl⟩
  .exact(g.2 b<|KR<|Ld (Heap.lt_size e) I.ok.above).trans<|I.base.keep b o e n G hx
  .obtain ⟨sl,e1⟩:=I.base.slot b o e n G hx;exact⟨sl,(g.2 b<|KR<|Ld (Heap.lt_size e) I.ok.above).trans e1⟩
  .obtain ⟨o',e1⟩:=I.base.there b o e hx;exact⟨o',(g.2 b<|KR<|Ld (Heap.lt_size e) I.ok.above).trans e1⟩
  .by_cases P:f=i
   .subst P;rw[hi] at e1;cases e1;rw[Pc F] at e2;cases e2;exact⟨u,r,.inl ⟨hk,by simp⟩⟩
   .rw [OF (Lg P)] at e2;obtain⟨u',r',q⟩:=hl f y v' e1 e2 e3;refine⟨u',r',?_⟩;rcases q with⟨k,e⟩|⟨k,c,e,z⟩
    .refine .inl ⟨k,?_⟩;have:y≠x:=λe=>P<|mR hN e1<|e ▸ hi;simp[this,e]
    .exact .inr ⟨k,c,e,z.sameBut g<|cne y c e⟩
  .obtain ⟨w',z⟩:=I.cell y c e;exact⟨w',z.sameBut g<|cne y c e⟩
  .obtain ⟨e,n,ne,nf,d⟩:=I.pin p hp;exact⟨(g.2 p.1 ne).trans e,n,ne,nf,d⟩
 .have L:X.fn x=true:=by
   rcases hf with z|z
   .exact z
   .rw[z] at hk;cases hk
  obtain⟨c,t⟩:=I.ok.has x<|.inl hk;obtain⟨w',z⟩:=I.cell x c t;refine wpAny_storeName_cell I.ok.kind hk t z λh' Z g=>?_;obtain⟨oc,hoc,hocd⟩:=id z;refine h {s with heap:=h'} ⟨I.ok,I.os,I.bare,⟨λb o e n G hx=>?_,λb o e n G hx=>?_,I.base.free,λb o e hx=>?_,I.base.tups,I.base.frzs,I.base.tbls⟩,⟨m,hn.sameBut g<|Lg<|cne x c t,λf y v' e1 e2 e3=>?_⟩,λy c' e=>?_,I.free,I.freeC,λp hp=>?_,l ⟨oc,hoc,I.freeC x c t⟩ g,by simpa using I.len⟩ ⟨c,g,.inr t⟩
  .exact(g.2 b<|KR<|Ld (Heap.lt_size e)<|I.ok.cab x c L t).trans<|I.base.keep b o e n G hx
  .obtain ⟨sl,e1⟩:=I.base.slot b o e n G hx;exact⟨sl,(g.2 b<|KR<|Ld (Heap.lt_size e)<|I.ok.cab x c L t).trans e1⟩
  .obtain ⟨o',e1⟩:=I.base.there b o e hx;exact⟨o',(g.2 b<|KR<|Ld (Heap.lt_size e)<|I.ok.cab x c L t).trans e1⟩
  .by_cases P:f=i
   .subst P;rw[hi] at e1;cases e1;rw[Pc F] at e2;cases e2;exact⟨u,r,.inr ⟨.inl hk,c,t,Z⟩⟩
   .rw [OF (Lg P)] at e2;obtain⟨u',r',q⟩:=hl f y v' e1 e2 e3;refine⟨u',r',?_⟩;rcases q with q|⟨k,c',e,z'⟩
    .exact .inl q
    .refine .inr ⟨k,c',e,z'.sameBut g ?_⟩;rintro rfl;exact P<|mR hN e1<|I.ok.inj _ _ _ e t ▸ hi
  .by_cases hcc:c'=c
   .subst hcc;exact⟨_,Z⟩
   .obtain ⟨w2,z2⟩:=I.cell y c' e;exact⟨w2,z2.sameBut g hcc⟩
  .obtain ⟨e,n,ne,nf,d⟩:=I.pin p hp;refine⟨(g.2 p.1 ?_).trans e,n,ne,nf,d⟩;intro q;rw[q,hoc] at e;have q':oc=p.2:=K8 e;exact d w'<|by rw[<- q'];exact hocd
theorem mN {M:Model}{A:KO}{E:B->Ki->Prop}{i:Y}{x:Str}{v:V}{u:B}{Q:Unit->Ki->Prop}(I:Inv X pins σ H s)(c:X.N.Nodup)(e:X.N[i]?=O x)(hx:Loc X.env.scope x)(r:RelV v u)
  (h:∀a,Inv X pins (σ.set i<|O v) H a->Q () a) (d:X.fn x=Kh\/X.env.scope.names.lookup x=O .local:=by first|exact .inl rfl|exact .inr rfl|assumption):RO M A (storeName X.env x u) Q E s:=
 jA I c e hx r (λa b _=>h a b) d
theorem Inv.call' {s':Ki}{ch:U RL}(I:Inv X pins σ H s)(ho:s'.os=s.os)(u:Un (frs X.stack) ch H H' s.heap s'.heap)(d:HOk X.prog X.w H' s'.heap)(f:Mm s'.gens)
  (a:∀b∈ch,(b∈X.ex\/X.s₀.heap.objs.size<=b)/\b≠X.env.locals/\(∀x c,X.env.cells.lookup x=O c->c≠b)/\∀p∈X.pn++pins,p.1≠b):Inv X pins σ H' s':=by
 obtain⟨h',g',d',t',g⟩:=s';have e:g=s.os:=ho;subst e;exact I.call (g':=g') (t':=t') (d':=d') u d f a
end
abbrev XK:=B->j RL->Hp->Prop
abbrev St:=U<|j V
abbrev VK:=V->Hp->Prop
abbrev TE:=St->Hp->VK->Prop
abbrev TT:=St->Hp->(RN->Hp->Prop)->Prop
abbrev TA:=St->Hp->(U V->Hp->Prop)->Prop
structure bH where
 nx:St->Hp->Prop
 rt:VK
 bk:St->Hp->Prop:=λ_ _=>RX
 ct:St->Hp->Prop:=λ_ _=>RX
abbrev TS:=bH->St->Hp->Prop
def EP (X:Cx)(a:U<|RL×Obj)(d:St)(Q:VK)(u:B)(c:Ki):Prop:=∃v b,Inv X a d b c/\RelV v u/\Q v b
def TP (X:Cx)(a:U<|RL×Obj)(e:St)(Q:RN->Hp->Prop)(b:RN)(d:Ki):Prop:=∃c,Inv X a e c d/\Q b c
def AP (X:Cx)(a:U<|RL×Obj)(f:St)(Q:U V->Hp->Prop)(e:U B)(d:Ki):Prop:=∃c b,Inv X a f b d/\Vals c e/\Q c b
def SP (X:Cx)(b:U<|RL×Obj)(D:bH)(f:Flow)(d:Ki):Prop:=
 match f with
 |.next=>∃a c,Inv X b a c d/\D.nx a c
 |.brk=>∃a c,Inv X b a c d/\D.bk a c
 |.cont=>∃a c,Inv X b a c d/\D.ct a c
 |.ret u=>∃v a c,Inv X b a c d/\RelV v u/\D.rt v c
def PE (X:Cx)(e:RT)(t:TE):Prop:=
 ∀(a:U<|RL×Obj) (s:Ki) (b:St) (H:Hp) (Q:VK),Inv X a b H s->t b H Q->RO (Km X.prog X.w) X.A (RV e X.env) (EP X a b Q) X.xe s
def PT (X:Cx)(e:RT)(t:TT):Prop:=
 ∀(a:U<|RL×Obj) (s:Ki) (b:St) (H:Hp) (Q:RN->Hp->Prop),Inv X a b H s->t b H Q->RO (Km X.prog X.w) X.A (SN e X.env<|RV e X.env) (TP X a b Q) X.xe s
def PW (X:Cx)(e:RT)(t:TT):Prop:=
 ∀(b:Sem B) (a:U<|RL×Obj) (s:Ki) (c:St) (H:Hp) (Q:RN->Hp->Prop),Inv X a c H s->t c H Q->RO (Km X.prog X.w) X.A (SN e X.env b) (TP X a c Q) X.xe s
theorem PW.pt {X:Cx}{e:RT}{t:TT}(h:PW X e t):PT X e t:=h _
def PA (X:Cx)(c:U RT)(t:TA):Prop:=
 ∀(pos:Pos) (a:U<|RL×Obj) (s:Ki) (b:St) (H:Hp) (Q:U V->Hp->Prop),Inv X a b H s->t b H Q->RO (Km X.prog X.w) X.A (spliced<|KQ pos<|Kl c X.env) (AP X a b Q) X.xe s
def PS (X:Cx)(c:R0)(t:TS):Prop:=
 ∀(a:U<|RL×Obj) (s:Ki) (b:St) (H:Hp) (D:bH),Inv X a b H s->t D b H->RO (Km X.prog X.w) X.A (exec c X.env) (SP X a D) X.xe s
def PSs (X:Cx)(c:U R0)(t:TS):Prop:=
 ∀(a:U<|RL×Obj) (s:Ki) (b:St) (H:Hp) (D:bH),Inv X a b H s->t D b H->RO (Km X.prog X.w) X.A (execs c X.env) (SP X a D) X.xe s
theorem thn {c:Type}{t:Sem c}{Q b:c->Ki->Prop}{M:Model}{A:KO}{E:B->Ki->Prop}{s:Ki}(h:RO M A t Q E s)(d:∀a s,Q a s->b a s):RO M A t b E s:=Lb h d λ_ _ x=>x
section
variable {X:Cx}
def lQ (i:Y):TE:=λa H Q=>∃v,a[i]?=O (O v)/\Q v H
def tC (v:V):TE:=λ_ H Q=>Q v H
theorem br {i:Y}{x:Str}{pos:Pos}(n:X.N[i]?=O x)(w:Vis X.env.scope x)(g:(x==("__debug__":Str))=false:=by decide)(f:(x==("__classdict__":Str))=false:=by decide):PE X (.Name x pos) (lQ i):=by
 intro d s y H Q I h;obtain⟨v,e,h⟩:=h;obtain⟨m,t,o⟩:=I.loc;obtain⟨u,r,l⟩:=o i x v n e w;have b:EP X d y Q u s:=⟨v,H,I,r,h⟩;rcases l with⟨hk,p⟩|⟨hk,c,k,a⟩
 .exact wpAny_Name (wpAny_loadName_local I.ok.kind hk t p b) g
 .rcases hk with hk | hk
  .exact wpAny_Name (wpAny_loadName_cell I.ok.kind hk k a b) g
  .exact wpAny_Name (wpAny_loadName_free I.ok.kind hk k a b f) g
theorem tX {i j pos}:PE X (.Constant (.int i) j pos) (tC<|.int i):=λ_ _ _ H _ I h=>wpAny_Constant_int ⟨.int i,H,I.tok _,⟨_,rfl⟩,h⟩
theorem HL {b j pos}:PE X (.Constant (.bool b) j pos) (tC<|.bl b):=λ_ _ _ H _ I h=>Constant_bool ⟨.bl b,H,I,rfl,h⟩
theorem El {j pos}:PE X (.Constant .none j pos) (tC .non):=λ_ _ _ H _ I h=>Constant_none ⟨.non,H,I,rfl,h⟩
theorem DX {x j pos}:PE X (.Constant (.str x) j pos) (tC<|.str x):=λ_ _ _ H _ I h=>Calls.Constant_str ⟨.str x,H,I.tok _,⟨_,rfl⟩,h⟩
def Gl (X:Cx)(x:Str):Prop:=X.env.kindOf x=O .globalImplicit
theorem zl {E:B->Ki->Prop}{a:U<|RL×Obj}{s:Ki}{e:St}{H:Hp}{x:Str}{u:B}{pos:Pos}{Q:B->Ki->Prop}(I:Inv X a e H s)(c:Gl X x)(d:X.mg x=O u)(h:Q u s)
  (b:(x==("__debug__":Str))=false:=by decide):RO (Km X.prog X.w) X.A (RV (.Name x pos) X.env) Q E s:=
 Calls.Name_function_global I.ok.kind c (Calls.loadGlobal_global (by rw[I.ok.glob];exact I.mod.glob.keeps I.bk) d h) b
theorem cX {E:B->Ki->Prop}{a:U<|RL×Obj}{s:Ki}{k:St}{H:Hp}{x:Str}{u:B}{pos:Pos}{Q:B->Ki->Prop}(I:Inv X a k H s)(e:Gl X x)(f:X.mg x=J)(i:L8 x=O u)(h:Q u s)
  (g:x≠"__name__":=by decide) (d:(x==("__debug__":Str))=false:=by decide):RO (Km X.prog X.w) X.A (RV (.Name x pos) X.env) Q E s:=by
 obtain⟨l,b,c⟩:=I.mod.blt;exact Calls.Name_function_global I.ok.kind e (Calls.loadGlobal_builtin (by rw[I.ok.glob];exact I.mod.glob.keeps I.bk) f (by rw[I.ok.blt];exact b.keeps I.bk) ((c x g).trans i) h) d
theorem zk {x:Str}{v:V}{u:B}{pos:Pos}(b:Gl X x)(c:X.mg x=J)(e:L8 x=O u)(r:RelV v u)(d:x≠"__name__":=by decide)(a:(x==("__debug__":Str))=false:=by decide):PE X (.Name x pos) (tC v):=
 λ_ _ _ H _ I h=>cX I b c e ⟨v,H,I,r,h⟩ d a
variable {a b:RT}{ta tb:TE}{pos:Pos}
def PC (X:Cx)(op:CmpOp)(a b:RT)(t:TE):Prop:=
 ∀(c:U<|RL×Obj) (s:Ki) (f:St) (H:Hp) (Q:VK),Inv X c f H s->t f H Q ->
  RO (Km X.prog X.w) X.A (RV a X.env) (λv d=>RO (Km X.prog X.w) X.A (RV b X.env) (λu e=>RO (Km X.prog X.w) X.A (LC op v u) (EP X c f Q) X.xe e) X.xe d) X.xe s
def tB (t:TE):TT:=λe H Q=>t e H λx d=>∃c,x=.bl c/\Q c d
variable {tA tB':TT}{rest:U RT}
def GK (t u:TT):TT:=λe H Q=>t e H λc d=>if c=Kh then u e d Q else Q Kg d
def tOr (t u:TT):TT:=λe H Q=>t e H λc d=>if c=Kh then Q Kh d else u e d Q
def HK (t:TT):TT:=λe H Q=>t e H λc d=>Q (!c) d
theorem zj (f:PT X a tA):PW X (.BoolOp .And [a] pos) tA:=by
 intro k d s g H Q I h;refine isTrue_and<|thn (f d s g H Q I h) λc i e=>?_;cases c with
 |true=>exact isTrue_and_nil e
 |false=>exact e
theorem Dq (f:PT X a tA):PW X (.BoolOp .Or [a] pos) tA:=by
 intro k d s g H Q I h;refine isTrue_or<|thn (f d s g H Q I h) λc i e=>?_;cases c with
 |false=>exact isTrue_or_nil e
 |true=>exact e
theorem Ce (i:PT X a tA)(k:PW X (.BoolOp .And (b::rest) pos) tB'):PW X (.BoolOp .And (a::b::rest) pos) (GK tA tB'):=by
 intro m d s g H Q I h;refine isTrue_and<|thn (i d s g H _ I h) λc l ⟨e,I1,f⟩=>?_;cases c with
 |true=>exact k m d l g e Q I1 f
 |false=>exact⟨e,I1,f⟩
theorem FL (i:PT X a tA)(k:PW X (.BoolOp .Or (b::rest) pos) tB'):PW X (.BoolOp .Or (a::b::rest) pos) (tOr tA tB'):=by
 intro m d s g H Q I h;refine isTrue_or<|thn (i d s g H _ I h) λc l ⟨e,I1,f⟩=>?_;cases c with
 |true=>exact⟨e,I1,f⟩
 |false=>exact k m d l g e Q I1 f
theorem Es (f:PT X a tA):PT X (.UnaryOp .Not a pos) (HK tA):=by intro d s g H Q I h;exact isTrue_not<|f d s g H (λc e=>Q (!c) e) I h
theorem BL {op}{t:TE}(h:PE X a t):PE X (.BoolOp op [a] pos) t:=λc s e H Q I d=>BoolOp_one<|h c s e H Q I d
def tIf (t:TT)(ta tb:TE):TE:=λd H Q=>t d H λc e=>if c=Kh then ta d e Q else tb d e Q
theorem sY {c:RT}(n:PT X c tA)(l:PE X a ta)(m:PE X b tb):PE X (.IfExp c a b pos) (tIf tA ta tb):=by
 intro e s f H Q I h;refine wpAny_IfExp<|thn (n e s f H _ I h) λd k ⟨g,I1,i⟩=>?_;cases d with
 |true=>exact l e k f g Q I1 i
 |false=>exact m e k f g Q I1 i
end
def SqL (K:Kk)(H:Hp)(a:RL)(c:U V):Prop:=
 Rd H a (.lst c) \/
  ∃(o:Obj) (b:RW B) (n:Y),K.lookup a=O o/\o.cls=.type "list"/\o.dict=J/\o.data=.seq b n/\b.size<=sizeLine/\Vals c b.toList
def SqT (K:Kk)(H:Hp)(a:RL)(c:U V):Prop:=
 Rd H a (.tup c) \/
  ∃(o:Obj) (b:RW B) (n:Y),K.lookup a=O o/\o.cls=.type "tuple"/\o.data=.seq b n/\b.size<=sizeLine/\Vals c b.toList
def Iz:B->j V
|.none=>O .non
|.bool b=>O<|.bl b
|.int i _=>O<|.int i
|.str x _=>O<|.str x
|.bytes b _=>O<|.byt b
|.float b _=>O<|.flt b
|.ref a=>O<|.ref a
|.type n=>O<|.ty n
|_=>J
theorem RelV.abs {x:V}{u:B}(r:RelV x u):Iz u=O x:=by
 cases x with
 |non=>cases r;rfl
 |bl _=>cases r;rfl
 |int _=>obtain⟨t,rfl⟩:=r;rfl
 |str _=>obtain⟨t,rfl⟩:=r;rfl
 |byt _=>obtain⟨t,rfl⟩:=r;rfl
 |flt _=>obtain⟨t,rfl⟩:=r;rfl
 |ref _=>cases r;rfl
 |ty _=>cases r;rfl
theorem RelV.inj {x y:V}{u:B}(r:RelV x u)(q:RelV y u):x=y:=K8<|r.abs.symm.trans q.abs
theorem Vals.inj:∀{b c:U V} {a:U B},Vals b a->Vals c a->b=c
|_,_,_,.nil,.nil=>rfl
|_,_,_,.cons r t,.cons d e=>by rw[r.inj d,Vals.inj t e]
section
variable {X:Cx}{pins:U (RL×Obj)}{σ:St}{H:Hp}{s:Ki}{a:RL}{xs ys:U V}
theorem SqL.of {K:Kk}(h:H a=O (.lst xs)):SqL K H a xs:=.inl<|.inl h
theorem SqT.of {K:Kk}(h:H a=O (.tup xs)):SqT K H a xs:=.inl<|.inl h
theorem Inv.list (I:Inv X pins σ H s)(h:SqL X.K H a xs):∃b:U B,Vals xs b/\PlainL s.heap a b.toArray/\xs.length<=sizeLine:=by
 rcases h with h|⟨o,b,n,hk,hc,hd,hs,hz,r⟩
 .obtain ⟨z,b,n,r,e⟩:=h.ok I.hok;exact⟨b,r,⟨_,n,e,rfl,rfl,rfl⟩,z⟩
 .refine ⟨b.toList,r,⟨o,n,I.kIn a o hk,hc,hd,by simpa using hs⟩,?_⟩;have e:=r.length;simp only[K6] at e;lia
theorem Inv.tuple (I:Inv X pins σ H s)(h:SqT X.K H a xs):∃b:U B,Vals xs b/\SI s.heap a b.toArray/\xs.length<=sizeLine:=by
 rcases h with h|⟨o,b,n,hk,hc,hs,hz,r⟩
 .obtain ⟨z,b,r,p⟩:=h.ok I.hok;exact⟨b,r,p,z⟩
 .refine ⟨b.toList,r,⟨o,I.kIn a o hk,hc,n,by simpa using hs⟩,?_⟩;have e:=r.length;simp only[K6] at e;lia
theorem Inv.list_inj (I:Inv X pins σ H s)(h:SqL X.K H a xs)(k:SqL X.K H a ys):xs=ys:=by
 obtain⟨c,r,⟨o,n,e,_,_,d⟩,_⟩:=I.list h;obtain⟨b,l,⟨p,m,g,_,_,f⟩,_⟩:=I.list k;rw[e] at g;cases g;rw[d] at f;injection f with i _
 have:c=b:=by simpa using RY Qk i
 subst this;exact r.inj l
theorem Inv.tuple_inj (I:Inv X pins σ H s)(h:SqT X.K H a xs)(k:SqT X.K H a ys):xs=ys:=by
 obtain⟨c,r,⟨o,e,_,n,d⟩,_⟩:=I.tuple h;obtain⟨b,l,⟨p,g,_,m,f⟩,_⟩:=I.tuple k;rw[e] at g;cases g;rw[d] at f;injection f with i _
 have:c=b:=by simpa using RY Qk i
 subst this;exact r.inj l
end
abbrev Cx.wish (X:Cx)(E:B->Ki->Prop):Cx:={X with xe:=E}
abbrev Cx.nox (X:Cx):Cx:=X.wish λ_ _=>RX
theorem Cx.Ok.wish {X:Cx}(ok:X.Ok)(E:B->Ki->Prop):(X.wish E).Ok:=
 ⟨ok.mod,ok.kind,ok.glob,ok.blt,ok.above,ok.inj,ok.has,ok.cab,ok.hd,ok.frames,ok.stk,ok.exf,ok.bs,ok.bsz,ok.noex,ok.exfs,ok.funs,ok.frf⟩
theorem Cx.Ok.unwish {X:Cx}{E:B->Ki->Prop}(ok:(X.wish E).Ok):X.Ok:=
 ⟨ok.mod,ok.kind,ok.glob,ok.blt,ok.above,ok.inj,ok.has,ok.cab,ok.hd,ok.frames,ok.stk,ok.exf,ok.bs,ok.bsz,ok.noex,ok.exfs,ok.funs,ok.frf⟩
section
variable {X:Cx}{pins:U (RL×Obj)}{σ:St}{H:Hp}{s:Ki}{E:B->Ki->Prop}
theorem Inv.wish (I:Inv X pins σ H s)(E:B->Ki->Prop):Inv (X.wish E) pins σ H s:=⟨I.ok.wish E,I.os,I.bare,I.base,I.loc,I.cell,I.free,I.freeC,I.pin,I.hok,I.len⟩
theorem Inv.unwish (I:Inv (X.wish E) pins σ H s):Inv X pins σ H s:=⟨I.ok.unwish,I.os,I.bare,I.base,I.loc,I.cell,I.free,I.freeC,I.pin,I.hok,I.len⟩
theorem SP.unwish {D:bH}{f:Flow}{c:Ki}(h:SP (X.wish E) pins D f c):SP X pins D f c:=by
 cases f with
 |next=>obtain⟨a,b,I,q⟩:=h;exact⟨a,b,I.unwish,q⟩
 |brk=>obtain⟨a,b,I,q⟩:=h;exact⟨a,b,I.unwish,q⟩
 |cont=>obtain⟨a,b,I,q⟩:=h;exact⟨a,b,I.unwish,q⟩
 |ret u=>obtain⟨v,a,b,I,r,q⟩:=h;exact⟨v,a,b,I.unwish,r,q⟩
theorem PSs.nox {a:U R0}{t:TS}(h:PSs X.nox a t):PSs X a t:=λpins s σ H D I b=>
 Lb (h pins s σ H D (I.wish _) b) (λ_ _ q=>q.unwish) λ_ _ z=>Mh z
end
section
variable {X:Cx}{st:R0}{rest:U R0}{t u:TS}{e:RT}{te:TE}{pos:Pos}
def A8:TS:=λD a H=>D.nx a H
def HY (t u:TS):TS:=λD a H=>t {D with nx:=u D} a H
theorem yf:PSs X [] A8:=λ_ _ a H _ I h=>N5 ⟨a,H,I,h⟩
theorem vO (g:PS X st t)(i:PSs X rest u):PSs X (st::rest) (HY t u):=by
 intro a s l H D I h;refine wpAny_execs_cons<|thn (g a s l H {D with nx:=u D} I h) λf k q=>?_;cases f with
 |next=>obtain⟨b,c,d,q⟩:=q;exact i a k b c D d q
 |ret v=>exact q
 |brk=>exact q
 |cont=>exact q
theorem AU (b:PS X st t):PSs X [st] t:=by
 intro a s c H D I h;refine wpAny_execs_cons<|thn (b a s c H D I h) λf d q=>?_;cases f with
 |next=>exact N5 q
 |ret v=>exact q
 |brk=>exact q
 |cont=>exact q
theorem Inv.quiet {a:U<|RL×Obj}{b:St}{H:Hp}{s:Ki}(I:Inv X a b H s):interactive X.env=false:=by simp[interactive,I.ok.kind]
def Bm (te:TE):TS:=λD a H=>te a H λ_ b=>D.nx a b
theorem fu (d:PE X e te)(f:Ln e J pos.line X.env=pure false:=by rfl):PS X (.Expr e pos) (Bm te):=by intro a s b H D I h;exact wpAny_Expr_any (thn (d a s b H _ I h) λv k ⟨x,c,I1,i,g⟩=>⟨b,c,I1,g⟩) I.quiet f
def Gw (te:TE):TS:=λD a H=>te a H D.rt
theorem Dx (d:PE X e te):PS X (.Return (O e) pos) (Gw te):=by intro a s b H D I h;exact wpAny_Return_some<|thn (d a s b H _ I h) λv i ⟨x,c,I1,g,f⟩=>⟨x,b,c,I1,g,f⟩
def E6 (c:TT)(t u:TS):TS:=λD a H=>c a H λb d=>if b=Kh then t D a d else u D a d
theorem FN {c:RT}{a b:U R0}{m:TT}(p:PT X c m)(n:PSs X a t)(o:PSs X b u):PS X (.If c a b pos) (E6 m t u):=by
 intro f s g H D I h;refine wpAny_If<|thn (p f s g H _ I h) λd l ⟨i,I1,k⟩=>?_;cases d with
 |true=>exact n f l g i D I1 k
 |false=>exact o f l g i D I1 k
end
abbrev TG:=V->St->Hp->(St->Hp->Prop)->Prop
abbrev TGs:=U V->St->Hp->(St->Hp->Prop)->Prop
def PG (X:Cx)(a:RT)(t:TG):Prop:=
 ∀(b:U<|RL×Obj) (s:Ki) (e:St) (H:Hp) (v:V) (u:B) (Q:St->Hp->Prop),Inv X b e H s->RelV v u->t v e H Q ->
  RO (Km X.prog X.w) X.A (LR a X.env u) (λ_ f=>∃c d,Inv X b c d f/\Q c d) X.xe s
def PGs (X:Cx)(h:U RT)(t:TGs):Prop:=
 ∀(a:U<|RL×Obj) (s:Ki) (f:St) (H:Hp) (e:U V) (d:U B) (Q:St->Hp->Prop),Inv X a f H s->Vals e d->t e f H Q ->
  RO (Km X.prog X.w) X.A (assignInOrder ((MO h X.env).map (·.2)) d) (λ_ g=>∃b c,Inv X a b c g/\Q b c) X.xe s
abbrev Ea:=V->V->V->Hp->(Hp->Prop)->Prop
def EL (X:Cx)(t:Ea):Prop:=
 ∀(a:U<|RL×Obj) (s:Ki) (d:St) (H:Hp) (o i v:V) (c iv u:B) (Q:Hp->Prop),Inv X a d H s->RelV o c->RelV i iv->RelV v u->t o i v H Q ->
  RO (Km X.prog X.w) X.A (setItem c iv u) (λ_ e=>∃b,Inv X a d b e/\Q b) X.xe s
section
variable {X:Cx}{pos:Pos}
def dG (i:Y):TG:=λv a H Q=>Q (a.set i<|O v) H
theorem dj {i:Y}{x:Str}(c:X.N.Nodup)(e:X.N[i]?=O x)(hx:Loc X.env.scope x)(d:X.fn x=Kh\/X.env.scope.names.lookup x=O .local:=by first|exact .inl rfl|exact .inr rfl|assumption):PG X (.Name x pos) (dG i):=by intro a s g H v u Q I r h;exact wpAny_assign_Name<|mN I c e hx r (λf b=>⟨_,H,b,h⟩) d
def EA:TGs:=λa b H Q=>a=[]/\Q b H
def nF (t:TG)(u:TGs):TGs:=λc d H Q=>∃v r,c=v::r/\t v d H λa b=>u r a b Q
theorem qE:PGs X [] EA:=by intro a s b H d c Q I r h;obtain⟨e,h⟩:=h;subst e;cases r;exact assignInOrder_nil ⟨b,H,I,h⟩
theorem fK {e:RT}{b:U RT}{t:TG}{u:TGs}(f:PG X e t)(g:PGs X b u)
  (i:(MO (e::b) X.env).map (·.2)=LR e X.env::(MO b X.env).map (·.2):=by rfl):PGs X (e::b) (nF t u):=by
 intro a s n H w o Q I r h;obtain⟨v,p,e1,h⟩:=h;subst e1;cases r with
 |cons r l=>rw[i];refine assignInOrder_cons<|thn (f a s n H _ _ _ I r h) λ_ m ⟨c,d,I1,k⟩=>?_;exact g a m c d _ _ Q I1 l k
def Dn (K:Kk)(n:Y)(t:TGs):TG:=λv c H Q=>∃a b,v=.ref a/\SqT K H a b/\b.length=n/\t b c H Q
theorem uG {d:U RT}{k:Y}{t:TGs}{n:Y}(p:X.calm=Kh)(h:PGs X d t)
  (x:(MO d X.env).length=n:=by rfl) (f:(MO d X.env).findIdx? (·.1)=none:=by rfl):PG X (.Tuple d k pos) (Dn X.K n t):=by
 intro c s l H v u Q I r g;obtain⟨a,D,e1,y,w,g⟩:=g;subst e1;cases r;obtain⟨A,i,z,F⟩:=I.tuple y;refine assign_Tuple_tuple (I.ok.hd p) z (by simp[x,<- w,i.length]) f λm hx=>?_;have I1:Inv X c l H {s with heap:=m}:=I.kept (t':=s.toks) λb o e=>hx b o (KR<|Heap.lt_size e) e;exact h c _ l H D _ Q I1 (by simpa using i) g
def Js (to e:TE)(t:Ea):TG:=λv a H Q=>to a H λo b=>e a b λi c=>t o i v c λd=>Q a d
theorem D1 {o i:RT}{to d:TE}{t:Ea}(ho:PE X o to)(m:PE X i d)(n:EL X t)
  (l:∀ v,LR (.Subscript o i pos) X.env v=(do
   let b <- Mz [v] (RV o X.env);let iv <- Mz [v,b] (RV i X.env)
   standAt pos
   Mz [v,b,iv] (setItem b iv v)
   release [v,b,iv] []):=by intro _;rfl):PG X (.Subscript o i pos) (Js to d t):=by
 intro a s c H v u Q I r h;rw[l];refine Kj<|Ls<|thn (ho a s c H _ I h) λb F ⟨x,e,I1,A,p⟩=>?_;refine Kj<|Ls<|thn (m a F c e _ I1 p) λiv G ⟨y,f,I2,D,w⟩=>?_;refine Kj<|N2<|Kj<|Ls<|thn (n a G c f x y v b iv u _ I2 A D r w) λ_ L ⟨g,k,z⟩=>?_;exact wpAny_release ⟨c,g,k,z⟩
def qZ (c:TE)(g:TG):TS:=λD a H=>c a H λx b=>g x a b D.nx
theorem Ep {b e:RT}{c:TE}{g:TG}(k:PE X e c)(l:PG X b g)(m:swapsWithSole [b] e pos.line X.env=pure false:=by rfl)(n:swappedStores [b] e X.env=pure none:=by rfl)
  (i:(MO [b] X.env).map (·.2)=[LR b X.env]:=by rfl):PS X (.Assign [b] e pos) (qZ c g):=by
 intro a s d H D I h;refine wpAny_Assign_stores (thn (k a s d H _ I h) λv r ⟨x,f,I1,p,o⟩=>?_) m n;rw[i];exact thn (l a r d f x v _ I1 p o) λ_ t q=>q
theorem DU {i:Y}{x:Str}{e:RT}{c:TE}{a:Pos}(f:X.N.Nodup)(l:X.N[i]?=O x)(hx:Loc X.env.scope x)(g:PE X e c)(m:Ln e (O<|.Name x a) pos.line X.env=pure false:=by rfl)(k:X.fn x=Kh\/X.env.scope.names.lookup x=O .local:=by first|exact .inl rfl|exact .inr rfl|assumption):
  PS X (.Assign [.Name x a] e pos) (qZ c<|dG i):=by
 intro b s p H D I h;refine wpAny_Assign_Name (thn (g b s p H _ I h) λv r ⟨y,d,I1,o,n⟩=>?_) m;exact mN I1 f l hx o (λt I2=>⟨_,d,I2,n⟩) k
end
section
variable {X:Cx}{pos:Pos}
noncomputable def u6 (c:TT)(h:TS):TS:=λD a H=>∃W:Y->St->Hp->Prop,(∃m,W m a H)/\∀m a H,W m a H ->
 c a H λb f=>if b=Kh then∃N:St->Hp->Prop,(∀d e,N d e->∃g,g<m/\W g d e)/\h {D with nx:=N,ct:=N,bk:=D.nx} a f else D.nx a f
theorem tE {c:RT}{g:U R0}{L:TT}{G:TS}(hp:M3 (Km X.prog X.w) X.A X.env X.xe)(P:PT X c L)(M:PSs X g G):PS X (.While c g [] pos) (u6 L G):=by
 intro a s σ H D I h;obtain⟨W,⟨Q,w0⟩,turn⟩:=h;refine wpAny_While<|codeAny_whileLoop (λn Z=>∃k x,Inv X a k x Z/\W n k x) ?_ Q ⟨σ,H,I,w0⟩;rintro n s1 ⟨e,y,I1,w1⟩;refine MN hp<|thn (P a s1 e y _ I1<|turn n e y w1) λb s2 ⟨z,I2,l⟩=>?_;cases b with
 | true =>
  obtain⟨N,F,l⟩:=l;rw[RJ rfl];refine MN hp<|thn (M a s2 e z _ I2 l) λf s3 m=>?_;cases f with
  |next=>obtain⟨d,i,o,t⟩:=m;obtain⟨r,p,u⟩:=F d i t;exact⟨r,p,d,i,o,u⟩
  |cont=>obtain⟨d,i,o,t⟩:=m;obtain⟨r,p,u⟩:=F d i t;exact⟨r,p,d,i,o,u⟩
  |brk=>exact m
  |ret v=>exact m
 |false=>rw[RK KH];exact N5 ⟨e,z,I2,l⟩
end
structure It where
 go:Y->Hp->Prop
 yld:Y->Hp->V->Hp->Prop
 stop:Y->Hp->Prop
def jg (X:Cx)(a:U<|RL×Obj)(H:Hp)(b:RL):Prop:=
 H b=J/\b≠X.env.locals/\b ∉ X.fs/\(b∈X.ex\/X.s₀.heap.objs.size<=b)/\(∀x c,X.env.cells.lookup x=O c->c≠b)/\∀p∈X.pn++a,p.1≠b
theorem Inv.fpOk {X:Cx}{a:U<|RL×Obj}{h:St}{H f:Hp}{s:Ki}{b:RL}(I:Inv X a h H s)(d:s.heap.objs.size<=b)(g:f b=J):jg X a f b:=by
 refine⟨g,LS<|Ld I.lt d,I.nofs d,.inr<|K0 I.sz d,λx c e z=>?_,λp hp z=>?_⟩
 .obtain ⟨v,q⟩:=I.cell x c e;exact RM (Ld q.lt<|by rw[z];exact d)<|LB _
 .exact RM (Ld (Heap.lt_size (I.pin p hp).1)<|by rw[z];exact d) (LB _)
structure nU (P:RS)(w:Ks)(K:Kk)(tg:RT)(J:It)(fp:U RL)(it:RL)(tn:Y->RU->Prop):Prop where
 mem:it∈fp
 obj:∀i h,tn i h->∀b∈fp,∃o,h.get? b=O o/\∀v,o.data≠.cell v
 keep:∀i h h',tn i h->(∀b∈fp,∀o,h.get? b=O o->h'.get? b=O o)->tn i h'
 item:∀(X:Cx),X.prog=P->X.w=w->X.K=K->X.calm=Kh->∀(i:Y) (pins:U (RL×Obj)) (s:Ki) (σ:St) (H:Hp) (E:B->Ki->Prop),Inv X pins σ H s->(∀b∈fp,jg X pins H b)->tn i s.heap->J.go i H ->
  RO (Km P w) X.A (LM (.ref it)) (λr s1=>∃u,r=O u /\
   RO (Km P w) X.A (M5 tg (.ref it) u) (λ_ s2=>∃x H',Inv X pins σ H' s2/\RelV x u/\J.yld i H x H'/\tn (i+1) s2.heap/\∀b∈fp,H' b=Kf) E s1) E s
 done:∀(X:Cx),X.prog=P->X.w=w->X.K=K->X.calm=Kh->∀(i:Y) (pins:U (RL×Obj)) (s:Ki) (σ:St) (H:Hp) (E:B->Ki->Prop),Inv X pins σ H s->(∀b∈fp,jg X pins H b)->tn i s.heap->J.stop i H ->
  RO (Km P w) X.A (LM (.ref it)) (λr s1=>r=Kf/\Inv X pins σ H s1) E s
 self:∀(A:KO) (i:Y) (s:Ki) (Q:B->Ki->Prop) (E:B->Ki->Prop),tn i s.heap->Q (.ref it) s->RO (Km P w) A (SO (.ref it)) Q E s
abbrev TI:=St->Hp->(It->Hp->Prop)->Prop
def PIE (X:Cx)(c:U<|RL×Obj)(k:St)(i:RT)(R:It->Hp->Prop)(e:B)(h:Ki):Prop:=
 ∃(g:RL) (f:U RL) (tn:Y->RU->Prop) (a:It) (d:Hp),e=.ref g/\Inv X c k d h/\nU X.prog X.w X.K i a f g tn/\tn 0 h.heap/\(∀b∈f,jg X c d b)/\R a d
def PI (X:Cx)(e b:RT)(f:TI):Prop:=
 ∀(a:U<|RL×Obj) (s:Ki) (c:St) (H:Hp) (R:It->Hp->Prop),Inv X a c H s->f c H R ->
  RO (Km X.prog X.w) X.A (RV b X.env) (λv d=>RO (Km X.prog X.w) X.A (SO v) (PIE X a c e R) X.xe d) X.xe s
theorem pD {M:Model}{A:KO}{E:B->Ki->Prop}{s:Ki}{c:RT}{b:RL}{u:B}{o:Obj}{n:R1}{d:RW B}{Q:Unit->Ki->Prop}(ho:s.heap.get? b=O o)(e:o.cls=.type n)(f:o.data=.fields d)
  (g:["enumerate","zip","dict_itemiterator","dict_reverseitemiterator","odict_iterator","itertools.zip_longest","itertools.pairwise"].contains n=Kg) (a:Q () s):RO M A (M5 c (.ref b) u) Q E s:=by
 unfold M5
 cases c<;>first
  |exact Ko a
  | (cases u<;>first
    |exact Ko a
    | (refine Kj (wpAny_load ho ?_)
       rw[e,f];show RO M A (if(["enumerate","zip","dict_itemiterator","dict_reverseitemiterator","odict_iterator","itertools.zip_longest","itertools.pairwise"].contains n&&d[0]?==O (KP _))=Kh then _ else _) Q E s;rw[RK<|by intro h;rw[g,Nt] at h;cases h];exact Ko a))
def Itl (K:Kk)(a:RL):It:=
 ⟨λi H=>∃b x,SqL K H a b/\b[i]?=O x,λi H x c=>c=H/\∀b,SqL K H a b->b[i]?=O x,λi H=>∃b,SqL K H a b/\b.length<=i⟩
def Itt (K:Kk)(a:RL):It:=
 ⟨λi H=>∃b x,SqT K H a b/\b[i]?=O x,λi H x c=>c=H/\∀b,SqT K H a b->b[i]?=O x,λi H=>∃b,SqT K H a b/\b.length<=i⟩
def Itr (lo:Int)(n:Y):It:=⟨λi _=>i<n,λi H x a=>a=H/\x=.int (lo+i),λi _=>n<=i⟩
theorem rW {P:RS}{w:Ks}{K:Kk}{tg:RT}(a m:RL):nU P w K tg (Itl K a) [m] m (λi h=>h.IsListIter m a i) where
 mem:=by simp
 obj:=λi h f b l=>by
  have e:b=m:=by simpa using l
  subst e;obtain⟨o,e,c,d⟩:=f;exact⟨o,e,λv z=>by rw[d] at z;cases z⟩
 keep:=λi h r f k=>f.at λo e=>k m (by simp) o e
 item:=by intro X N Z M hc i g s σ H E I t f Q;subst N Z M;obtain⟨xs,x,y,hx⟩:=Q;obtain⟨its,rv,p,hz⟩:=I.list y;obtain⟨u,hu,ru⟩:=rv.get hx;obtain⟨A,D,f2,F,G,L⟩:=t m (by simp);refine Sf f p.isList (x:=u) (by simpa using hu) λr n sb=>?_;have I1:Inv X g σ H {s with heap:=r}:=I.turned (t':=s.toks) (λb o l e=>(sb.2 b l).trans e) A D F G L;obtain⟨o,e,c,d⟩:=id n;exact⟨u,rfl,pD (s:={s with heap:=r}) e c d (by decide) ⟨x,H,I1,ru,⟨rfl,λys hy=>by rw[I.list_inj hy y];exact hx⟩,n,λb l=>(t b l).1⟩⟩
 done:=by intro X N Z M hc i g s σ H E I t f Q;subst N Z M;obtain⟨xs,y,hx⟩:=Q;obtain⟨its,rv,p,hz⟩:=I.list y;obtain⟨A,D,f2,F,G,L⟩:=t m (by simp);have hl:=rv.length;exact Sj (I.ok.hd hc) f p.isList (by simp;lia) λr eb=>⟨rfl,I.turned (t':=s.toks) (λb o l e=>eb b o l e) A D F G L⟩
 self:=λ_ _ _ _ _ f h=>wpAny_pyIter_listiter f h
theorem nQ {P:RS}{w:Ks}{K:Kk}{tg:RT}(a m:RL):nU P w K tg (Itt K a) [m] m (λi h=>h.IsTupleIter m a i) where
 mem:=by simp
 obj:=λi h f b l=>by
  have e:b=m:=by simpa using l
  subst e;obtain⟨o,e,c,d⟩:=f;exact⟨o,e,λv z=>by rw[d] at z;cases z⟩
 keep:=λi h t f k=>f.at λo e=>k m (by simp) o e
 item:=by intro X Q hw N hc i g s σ H E I y f Z;subst Q hw N;obtain⟨xs,x,A,hx⟩:=Z;obtain⟨n,rv,p,hz⟩:=I.tuple A;obtain⟨u,hu,ru⟩:=rv.get hx;obtain⟨D,F,f2,G,L,M⟩:=y m (by simp);refine wpAny_pyNext_tuple_item f (show s.heap.IsTuple a n.toArray from p) (x:=u) (by simpa using hu) λt r sb=>?_;have I1:Inv X g σ H {s with heap:=t}:=I.turned (t':=s.toks) (λb o l e=>(sb.2 b l).trans e) D F G L M;obtain⟨o,e,c,d⟩:=id r;exact⟨u,rfl,pD (s:={s with heap:=t}) e c d (by decide) ⟨x,H,I1,ru,⟨rfl,λys hy=>by rw[I.tuple_inj hy A];exact hx⟩,r,λb l=>(y b l).1⟩⟩
 done:=by intro X Q hw N hc i g s σ H E I y f Z;subst Q hw N;obtain⟨xs,A,hx⟩:=Z;obtain⟨n,rv,p,hz⟩:=I.tuple A;obtain⟨D,F,f2,G,L,M⟩:=y m (by simp);have hl:=rv.length;exact wpAny_pyNext_tuple_end (I.ok.hd hc) f (show s.heap.IsTuple a n.toArray from p) (by simp;lia) λt eb=>⟨rfl,I.turned (t':=s.toks) (λb o l e=>eb b o l e) D F G L M⟩
 self:=λ_ _ _ _ _ f h=>wpAny_pyIter_tupleiter f h
theorem nV {P:RS}{w:Ks}{K:Kk}{tg:RT}(c:RL)(lo:Int)(n:Y):nU P w K tg (Itr lo n) [c] c (λi h=>N9 h c (lo+(i:Y) * 1) ((n:Int)-(i:Y)) 1) where
 mem:=by simp
 obj:=λi h a b f=>by
  have e:b=c:=by simpa using f
  subst e
  exact⟨_,a,λv z=>by
   have z':Data.fields _=Data.cell v:=z;cases z'⟩
 keep:=λi h l a k=>k c (by simp) _ a
 item:=by intro X D L A F i d s N H E I m a G;subst D L A;obtain⟨p,r,Z,u,x,y⟩:=m c (by simp);have W:=Walks.range (prog:=X.prog) (w:=X.w) (I.ok.hd F) c lo 1 n;refine W.item i s _ _ G a λv l M hv g kk=>?_;obtain⟨t,rfl⟩:=hv;have I1:Inv X d N H {s with heap:=l,toks:=M}:=I.turned (λb o f e=>kk b o (by simpa using f) e) p r u x y;refine⟨_,rfl,pD (s:={s with heap:=l,toks:=M}) (n:="range_iterator") g rfl rfl (by decide) ⟨.int<|lo+i,H,I1,⟨t,?_⟩,⟨rfl,rfl⟩,g,λb f=>(m b f).1⟩⟩;rw[Int.mul_one]
 done:=by intro X D L A F i d s N H E I m a G;subst D L A;obtain⟨p,r,Z,u,x,y⟩:=m c (by simp);exact Sg (I.ok.hd F) a (by have:n<=i:=G;lia) λl Q=>⟨rfl,I.turned (t':=s.toks) (λb o f e=>Q b o f e) p r u x y⟩
 self:=λ_ _ _ _ _ a h=>Sh a h
section
variable {X:Cx}{tg:RT}
def l6 (K:Kk)(c:TE):TI:=λe H R=>c e H λx b=>∃a,x=.ref a/\(∃d,SqL K b a d)/\R (Itl K a) b
def Fc (K:Kk)(c:TE):TI:=λe H R=>c e H λx b=>∃a,x=.ref a/\(∃d,SqT K b a d)/\R (Itt K a) b
theorem ky {l:RT}{f:TE}(k:PE X l f):PI X tg l (l6 X.K f):=by
 intro c s u H R I h;refine thn (k c s u H _ I h) λv d ⟨x,g,I1,t,r⟩=>?_;obtain⟨a,e,⟨z,m⟩,q⟩:=r;subst e;cases t;obtain⟨n,y,p,w⟩:=I1.list m;refine Ma p.isList ?_;refine⟨d.heap.objs.size,[d.heap.objs.size],_,_,g,rfl,I1.kept (t':=d.toks) λb o e=>Heap.get?_push_of_some _ e,rW a _,⟨_,Heap.get?_push_size _ rfl,rfl,rfl⟩,λb i=>?_,q⟩;have e:b=d.heap.objs.size:=by simpa using i
 subst e;exact I1.fpOk (Kt _)<|I1.hok.fresh<|Kt _
theorem Cq {l:RT}{g:TE}(m:PE X l g):PI X tg l (Fc X.K g):=by
 intro c s u H R I h;refine thn (m c s u H _ I h) λv d ⟨x,i,I1,t,r⟩=>?_;obtain⟨a,e,⟨z,n⟩,q⟩:=r;subst e;cases t;obtain⟨f,y,p,w⟩:=I1.tuple n;refine NJ (show d.heap.IsTuple a f.toArray from p) ?_;refine⟨d.heap.objs.size,[d.heap.objs.size],_,_,i,rfl,I1.kept (t':=d.toks) λb o e=>Heap.get?_push_of_some _ e,nQ a _,⟨_,Heap.get?_push_size _ rfl,rfl,rfl⟩,λb k=>?_,q⟩;have e:b=d.heap.objs.size:=by simpa using k
 subst e;exact I1.fpOk (Kt _)<|I1.hok.fresh<|Kt _
theorem sD {c:U<|RL×Obj}{f:St}{H:Hp}{s:Ki}{R:It->Hp->Prop}{E:B->Ki->Prop}{lo a:Int}{t u v:Tok}{d:Y}(I:Inv X c f H s)(g:-(2 ^ 62)<=lo)(h:lo<2 ^ 62)(i:-(2 ^ 62)<=a)(k:a<2 ^ 62)
  (q:R (Itr lo (a-lo).toNat) H):RO (Km X.prog X.w) X.A (SO<|.ref s.heap.objs.size) (PIE X c f tg R) E {s with heap:=s.heap.push {cls:=.type "range",data:=.fields #[.int lo t,.int a u,.int 1 v]},toks:=d}:=by
 refine wpAny_pyIter_range (IsRange.new ..) (small_one g h i k) ?_;have I1:Inv X c f H {s with heap:=s.heap.push {cls:=.type "range",data:=.fields #[.int lo t,.int a u,.int 1 v]},toks:=d}:=I.kept λb o e=>Heap.get?_push_of_some _ e
 refine⟨(s.heap.push {cls:=.type "range",data:=.fields #[.int lo t,.int a u,.int 1 v]}).objs.size,[(s.heap.push {cls:=.type "range",data:=.fields #[.int lo t,.int a u,.int 1 v]}).objs.size],_,_,H,rfl,
  I1.kept (t':=d) λb o e=>Heap.get?_push_of_some _ e,nV _ lo (a-lo).toNat,?_,λb l=>?_,q⟩
 .have e1:lo+((0:Y):Int) * 1=lo:=by simp
  have e2:(((a-lo).toNat:Y):Int)-((0:Y):Int)=Builtin.Range.rangeSize lo a 1:=by rw[rangeSize_one];split<;>lia
  show N9 _ _ (lo+((0:Y):Int) * 1) ((((a-lo).toNat:Y):Int)-((0:Y):Int)) 1;rw[e1,e2];exact Heap.get?_push_size _ rfl
 .have e:b=(s.heap.push { cls:=.type "range",data:=.fields #[.int lo t,.int a u,.int 1 v] }).objs.size:=by simpa using l
  subst e;exact I1.fpOk (Kt _)<|I1.hok.fresh<|Kt _
def AZ (c:TA):TI:=λe H R=>c e H λd b=>∃a:Int,d=[.int a]/\-(2 ^ 62)<=a/\a<2 ^ 62/\R (Itr 0 a.toNat) b
theorem qP {a:RT}{f:TA}{p pos:Pos}(i:Gl X "range")(k:X.mg "range"=J)(g:PA X [a] f)(l:Kl [a] X.env=[(Kg,RV a X.env)]:=by rfl):PI X tg (.Call (.Name "range" p) [a] [] pos) (AZ f):=by
 intro c s u H R I h;refine Call_<|cX I i k boot_range<|NC (thn (g pos c s u H _ I h) λx w ⟨y,v,I1,n,d⟩=>?_) l rfl;obtain⟨b,e,d,m,q⟩:=d;subst e;cases n with
 |cons r o=>cases o;obtain⟨t,rfl⟩:=r;exact call_range_1<|sD I1 (by lia) (by lia) d m<|by simpa using q
def Eb (n:TI)(g:TG)(l:TS):TS:=λD b H=>n b H λa h=>∃W:Y->Y->St->Hp->Prop,(∃m,W 0 m b h)/\∀i m b H,W i m b H ->
 (a.stop i H/\D.nx b H)\/(a.go i H/\∃N:St->Hp->Prop,(∀d c,N d c->∃f,f<m/\W (i+1) f d c)/\∀x c,a.yld i H x c->g x b c λe k=>l {D with nx:=N,ct:=N,bk:=D.nx} e k)
def gR (a:U RL)(h:RU):U (RL×Obj):=a.filterMap λb=>(h.get? b).map λo=>(b,o)
theorem bP {a:U RL}{h:RU}{b:RL}{o:Obj}(c:b∈a)(e:h.get? b=O o):(b,o)∈gR a h:=QZ.mpr ⟨b,c,by rw[e];rfl⟩
theorem rV {a:U RL}{h:RU}{p:RL×Obj}(hp:p∈gR a h):p.1∈a/\h.get? p.1=O p.2:=by
 obtain⟨b,d,e⟩:=QZ.mp hp;cases q:h.get? b with
 |none=>rw[q] at e;cases e
 |some o=>rw[q] at e;have c:(b,o)=p:=K8 e;subst c;exact⟨d,q⟩
theorem Inv.pinned {a:U<|RL×Obj}{h:St}{H:Hp}{s:Ki}{c:U RL}(I:Inv X a h H s)(m:∀b∈c,jg X a H b)(ho:∀b∈c,∃o,s.heap.get? b=O o/\∀v,o.data≠.cell v):Inv X (a++gR c s.heap) h H s:=
 I.pins_of λp hp=>(Li.mp hp).elim (λz=>I.pin p<|K7 _ z) λz=>by obtain⟨g,e⟩:=rV z;obtain⟨i,k,l,_⟩:=m p.1 g;obtain⟨o,f,d⟩:=ho p.1 g;rw[e] at f;cases f;exact⟨e,i,k,l,d⟩
theorem Inv.unpinned {a c:U<|RL×Obj}{b:St}{H:Hp}{s:Ki}(I:Inv X (a++c) b H s):Inv X a b H s:=I.pins_of λp hp=>I.pin p<|K7 _<|LU _ hp
theorem nH {y:RT}{M:U R0}{wi:TI}{g:TG}{tb:TS}{pos:Pos}(hp:M3 (Km X.prog X.w) X.A X.env X.xe)(hc:X.calm=Kh)(hi:PI X tg y wi)(hg:PG X tg g)(t:PSs X M tb)
  (hs:∀x,Lj y X.env x=pure x:=by intro _;rfl):PS X (.For tg y M [] pos) (Eb wi g tb):=by
 intro c s σ H D I h;refine wpAny_For (thn (hi c s σ H _ I h) λv s1 h1=>thn h1 λitv s2 h2=>?_) hs;obtain⟨it,Z,tn,a,H2,e,I2,T,st2,f2,W,⟨m0,w0⟩,turn⟩:=h2;subst e
 -- what stays Kh of the iterator's objects through the loop
 have z:∀{L:Hp},(∀b∈Z,L b=J)->∀b∈Z,jg X c L b:=λhn b t=>⟨hn b t,(f2 b t).2⟩;refine codeAny_forLoop_any (λn s'=>∃i F L,Inv X c F L s'/\tn i s'.heap/\(∀b∈Z,L b=J)/\W i n F L) ?_ m0 ⟨0,σ,H2,I2,st2,λb t=>(f2 b t).1,w0⟩;rintro n s3 ⟨i,G,H3,I3,st3,fr3,w3⟩;rcases turn i n G H3 w3 with⟨stop,qn⟩|⟨go,N,hN,step⟩
 .refine MN hp (thn (T.done X rfl rfl rfl hc i c s3 G H3 X.xe I3 (z fr3) st3 stop) fun r s4 ⟨hr,I4⟩=>?_);subst hr;exact N5 ⟨G,H3,I4,qn⟩
 .refine MN hp (thn (T.item X rfl rfl rfl hc i c s3 G H3 X.xe I3 (z fr3) st3 go) fun r s4 ⟨u,hr,h4⟩=>?_);subst hr;refine MN hp (thn h4 λ_ s5 ⟨x,H5,I5,r5,y5,Q,fr5⟩=>?_);have I5':=I5.pinned (z fr5) (T.obj _ _ Q);refine MN hp (thn (hg _ s5 G H5 x u _ I5' r5 (step x H5 y5)) λ_ s6 ⟨σ6,H6,I6,q6⟩=>?_);refine MN hp (thn (t _ s6 σ6 H6 _ I6 q6) λf s7 P=>?_);have again:∀{k:St} {l:Hp},Inv X (c++gR Z s5.heap) k l s7->N k l->∃m,m<n/\∃i F L,Inv X c F L s7/\tn i s7.heap/\(∀b∈Z,L b=J)/\W i m F L:=λ{k l} p n7=>by obtain⟨m',hm,w7⟩:=hN k l n7;refine⟨m',hm,i+1,k,l,p.unpinned,T.keep _ _ _ Q λb t o e=>(p.pin (b,o) (K7 _ (K7 _ (bP t e)))).1,λb t=>?_,w7⟩;obtain⟨o,e,d⟩:=T.obj _ _ Q b t;exact(p.pin (b,o) (K7 _ (K7 _ (bP t e)))).2.1
  cases f with
  |next=>obtain⟨k,l,p,n7⟩:=P;exact again p n7
  |cont=>obtain⟨k,l,p,n7⟩:=P;exact again p n7
  |brk=>obtain⟨k,l,p,P⟩:=P;exact⟨k,l,p.unpinned,P⟩
  |ret v=>obtain⟨x7,k,l,p,r7,P⟩:=P;exact⟨x7,k,l,p.unpinned,r7,P⟩
end
abbrev R2:=V->V->Hp->VK->Prop
def OpR (X:Cx)(f:B->B->Sem B)(r:R2):Prop:=
 ∀(a:U<|RL×Obj) (s:Ki) (b:St) (H:Hp) (x y:V) (v u:B) (Q:VK),Inv X a b H s->RelV x v->RelV y u->r x y H Q ->
  RO (Km X.prog X.w) X.A (f v u) (EP X a b Q) X.xe s
def UnR (X:Cx)(f:B->Sem B)(r:V->Hp->VK->Prop):Prop:=
 ∀(a:U<|RL×Obj) (s:Ki) (b:St) (H:Hp) (x:V) (v:B) (Q:VK),Inv X a b H s->RelV x v->r x H Q ->
  RO (Km X.prog X.w) X.A (f v) (EP X a b Q) X.xe s
def cy (X:Cx)(f:B)(r:U V->Hp->VK->Prop):Prop:=
 ∀(a:U<|RL×Obj) (s:Ki) (d:St) (H:Hp) (c:U V) (b:U B) (Q:VK),Inv X a d H s->Vals c b->r c H Q ->
  RO (Km X.prog X.w) X.A (call f b) (EP X a d Q) X.xe s
def Jm (X:Cx)(r:V->Hp->(RN->Hp->Prop)->Prop):Prop:=
 ∀(a:U<|RL×Obj) (s:Ki) (b:St) (H:Hp) (x:V) (v:B) (Q:RN->Hp->Prop),Inv X a b H s->RelV x v->r x H Q ->
  RO (Km X.prog X.w) X.A (truthy v) (TP X a b Q) X.xe s
def tOp (r:R2)(d e:TE):TE:=λa H Q=>d a H λx b=>e a b λy c=>r x y c Q
def tUn (r:V->Hp->VK->Prop)(b:TE):TE:=λc H Q=>b c H λx a=>r x a Q
def rI (C:Int->Int->Prop)(g:Int->Int->V):R2:=λx y H Q=>∃i a,x=.int i/\y=.int a/\C i a/\Q (g i a) H
def rI0 (g:Int->Int->V):R2:=λx y H Q=>∃i a,x=.int i/\y=.int a/\Q (g i a) H
def rU (g:Int->V):V->Hp->VK->Prop:=λx H Q=>∃i,x=.int i/\Q (g i) H
section
variable {X:Cx}{a b c:RT}{ta tb tc:TE}{pos:Pos}
theorem EH (n:PE X a ta)(o:PE X b tb){d:U<|RL×Obj}{s:Ki}{g:St}{H:Hp}{R:V->V->Hp->Prop}(I:Inv X d g H s)
  (h:ta g H λx m=>tb g m λy e=>R x y e) {Q:B->Ki->Prop} {f:B->B->Sem B}
  (p:∀v u l x y e,Inv X d g e l->RelV x v->RelV y u->R x y e->RO (Km X.prog X.w) X.A (f v u) Q X.xe l):
  RO (Km X.prog X.w) X.A (RV a X.env) (λv i=>RO (Km X.prog X.w) X.A (RV b X.env) (λu k=>RO (Km X.prog X.w) X.A (f v u) Q X.xe k) X.xe i) X.xe s:=by
 refine thn (n d s g H _ I h) λv F ⟨x,m,I1,z,r⟩=>?_;refine thn (o d F g m _ I1 r) λu l ⟨y,e,I2,D,t⟩=>?_;exact p v u l x y e I2 z D t
theorem gj {op:Operator}{r:R2}(ho:OpR X (Lw op) r)(f:PE X a ta)(g:PE X b tb):PE X (.BinOp a op b pos) (tOp r ta tb):=by intro d s l H Q I h;exact wpAny_BinOp<|EH f g I h λv u k x y e I2 rx i q=>ho d k l e x y v u Q I2 rx i q
theorem FA {op:UnaryOp}{r:V->Hp->VK->Prop}(ho:UnR X (unaryOp op) r)(g:PE X a ta):PE X (.UnaryOp op a pos) (tUn r ta):=by intro d s e H Q I h;exact UnaryOp_<|thn (g d s e H _ I h) λv l ⟨x,f,I1,k,i⟩=>ho d l e f x v Q I1 k i
theorem opI {f:B->B->Sem B}{C:Int->Int->Prop}{g:Int->Int->Int}
  (rule:∀(i d:Int) (t u:Tok) (s:Ki) (Q:B->Ki->Prop) (E:B->Ki->Prop),C i d->Q (.int (g i d) s.toks) {s with toks:=s.toks+1}->RO (Km X.prog X.w) X.A (f (.int i t)<|.int d u) Q E s):
  OpR X f (rI C λi d=>.int<|g i d):=by
 intro e s n H x y v u Q I rx l h;obtain⟨i,d,rfl,rfl,k,q⟩:=h;obtain⟨t,rfl⟩:=rx;obtain⟨m,rfl⟩:=l;exact rule i d t m s _ _ k ⟨.int<|g i d,H,I.tok _,⟨_,rfl⟩,q⟩
theorem Ge {f:B->B->Sem B}{g:Int->Int->Int}
  (rule:∀(i d:Int) (t u:Tok) (s:Ki) (Q:B->Ki->Prop) (E:B->Ki->Prop),Q (.int (g i d) s.toks) {s with toks:=s.toks+1}->RO (Km X.prog X.w) X.A (f (.int i t)<|.int d u) Q E s):
  OpR X f (rI0 λi d=>.int<|g i d):=by
 intro e s m H x y v u Q I rx k h;obtain⟨i,d,rfl,rfl,q⟩:=h;obtain⟨t,rfl⟩:=rx;obtain⟨l,rfl⟩:=k;exact rule i d t l s _ _ ⟨.int<|g i d,H,I.tok _,⟨_,rfl⟩,q⟩
theorem AJ {f:B->B->Sem B}{g:Int->Int->RN}
  (rule:∀(i d:Int) (t u:Tok) (s:Ki) (Q:B->Ki->Prop) (E:B->Ki->Prop),Q (.bool<|g i d) s->RO (Km X.prog X.w) X.A (f (.int i t)<|.int d u) Q E s):
  OpR X f (rI0 λi d=>.bl<|g i d):=by
 intro e s m H x y v u Q I rx k h;obtain⟨i,d,rfl,rfl,q⟩:=h;obtain⟨t,rfl⟩:=rx;obtain⟨l,rfl⟩:=k;exact rule i d t l s _ _ ⟨.bl<|g i d,H,I,rfl,q⟩
def Dd (i d:Int):Prop:=0<d/\d<1073741824
def C3 (i d:Int):Prop:=0<=d/\d<=1000000/\i.natAbs<2 ^ 64
def CMul (i d:Int):Prop:=(-(2 ^ 64)<i/\i<2 ^ 64)\/(-(2 ^ 64)<d/\d<2 ^ 64)
theorem CMul.ok {i d:Int}(h:CMul i d):IntMulOk i d:=by
 rcases h with⟨e,f⟩|⟨e,f⟩
 .exact .of_left (intBits_le_64 e f)
 .exact .of_right (intBits_le_64 e f)
theorem op_add:OpR X (Lw .Add) (rI0 λi d=>.int<|i+d):=Ge λ_ _ _ _ _ _ _ q=>add_int q
theorem D2:OpR X (Lw .Sub) (rI0 λi d=>.int<|i-d):=Ge λ_ _ _ _ _ _ _ q=>sub_int q
theorem op_mul:OpR X (Lw .Mult) (rI CMul λi d=>.int<|i * d):=opI λ_ _ _ _ _ _ _ e q=>mul_int q e.ok
theorem xW:OpR X (Lw .FloorDiv) (rI Dd λi d=>.int<|i / d):=opI λi d _ _ _ _ _ e q=>by have f:(0:Int)<d:=e.1;have g:d<1073741824:=e.2;exact floordiv_int (by lia) (by rw[Int.fdiv_eq_ediv_of_nonneg i<|by lia];exact q)<|.inl<|QM<|by lia
theorem Dt:OpR X (Lw .Mod) (rI (λ_ d=>0<d) λi d=>.int<|i % d):=opI λi d _ _ _ _ _ e q=>by have f:(0:Int)<d:=e;exact mod_int' (by lia)<|by rw[PD i<|by lia];exact q
theorem xV:OpR X (Lw .Mod) (rI (λ_ d=>d≠0) λi d=>.int<|i.fmod d):=opI λ_ _ _ _ _ _ _ e q=>mod_int' e q
theorem C5:OpR X (Lw .Pow) (rI C3 λi d=>.int<|i ^ d.toNat):=opI λ_ _ _ _ _ _ _ e q=>pow_int_small e.1 e.2.1 e.2.2 q
theorem unI {f:B->Sem B}{g:Int->Int}
  (rule:∀(i:Int) (t:Tok) (s:Ki) (Q:B->Ki->Prop) (E:B->Ki->Prop),Q (.int (g i) s.toks) {s with toks:=s.toks+1}->RO (Km X.prog X.w) X.A (f<|.int i t) Q E s):
  UnR X f (rU λi=>.int<|g i):=by
 intro d s e H x v Q I rx h;obtain⟨i,rfl,q⟩:=h;obtain⟨t,rfl⟩:=rx;exact rule i t s _ _ ⟨.int<|g i,H,I.tok _,⟨_,rfl⟩,q⟩
theorem C7:UnR X (unaryOp .USub) (rU λi=>.int (-i)):=unI λ_ _ _ _ _ q=>neg_int q
end
section
variable {X:Cx}{a b c:RT}{ta tb tc:TE}{pos:Pos}
theorem Cg {d:U<|RL×Obj}{g:St}{H:Hp}{s:Ki}{Q:VK}{k f:RN}(I:Inv X d g H s)(q:Q (.bl k) H)(e:k=f):EP X d g Q (.bool f) s:=by subst e;exact⟨.bl k,H,I,rfl,q⟩
theorem xp:OpR X (LC .Lt) (rI0 λi d=>.bl<|decide (i<d)):=AJ λ_ _ _ _ _ _ _ q=>lt_int q
theorem sW:OpR X (LC .LtE) (rI0 λi d=>.bl<|decide (i<=d)):=AJ λ_ _ _ _ _ _ _ q=>le_int q
theorem Bd:OpR X (LC .Gt) (rI0 λi d=>.bl<|decide (d<i)):=AJ λ_ _ _ _ _ _ _ q=>gt_int q
theorem Bf:OpR X (LC .GtE) (rI0 λi d=>.bl<|decide (d<=i)):=AJ λ_ _ _ _ _ _ _ q=>ge_int q
theorem OpR.or {f:B->B->Sem B}{r e:R2}(h:OpR X f r)(k:OpR X f e):OpR X f (λx y H Q=>r x y H Q\/e x y H Q):=by
 intro d s i H x y v u Q I rx g q;rcases q with q|q
 .exact h d s i H x y v u Q I rx g q
 .exact k d s i H x y v u Q I rx g q
theorem bV (b:RT){op:CmpOp}(h:op≠.In:=by decide)(d:op≠.NotIn:=by decide):Nc op b=false:=by
 have e1:(op==CmpOp.In)=false:=by cases op<;>first|rfl|exact RM rfl h
 have e2:(op==CmpOp.NotIn)=false:=by cases op<;>first|rfl|exact RM rfl d
 cases b<;>simp[Nc,e1,e2]
theorem dD {op:CmpOp}{r:R2}(ho:OpR X (LC op) r)(f:PE X a ta)(g:PE X b tb)(i:Nc op b=Kg):PE X (.Compare a [op] [b] pos) (tOp r ta tb):=by intro d s m H Q I h;exact wpAny_Compare1 (EH f g I h λv u l x y e I2 rx k q=>ho d l m e x y v u Q I2 rx k q) i
def A9 (t:TE):TT:=λe H Q=>t e H λx d=>∃k,x=.bl k/\Q k d
theorem zZ {op:CmpOp}{r:R2}(ho:OpR X (LC op) r)(n:PE X a ta)(o:PE X b tb)(p:Nc op b=Kg):PT X (.Compare a [op] [b] pos) (A9<|tOp r ta tb):=by
 intro d s f H Q I h
 refine wpAny_isTrue_Compare1 (thn (n d s f H _ I h) λv L ⟨x,g,I1,D,t⟩=>thn (o d L f g _ I1 t) λu M ⟨y,i,I2,F,w⟩=>
  thn (ho d M f i x y v u _ I2 D F w) λc N ⟨z,l,m,G,k,e,A⟩=>?_) p
 subst e;cases G;exact M8 ⟨l,m,A⟩
noncomputable def tN (r i:R2)(ta tb tc:TE):TE:=λd H Q=>ta d H λx f=>tb d f λy g=>r x y g λz e=>∃k,z=.bl k /\
 (if k=Kh then tc d e λl h=>i y l h Q else Q (.bl Kg) e)
theorem ub {op g:CmpOp}{r p:R2}(ho:OpR X (LC op) r)(l:OpR X (LC g) p)(G:PE X a ta)(L:PE X b tb)(M:PE X c tc)
  (N:lastMarks [op,g] [b,c]=false:=by with_unfolding_all rfl):PE X (.Compare a [op,g] [b,c] pos) (tN r p ta tb tc):=by
 intro f s i H Q I h
 refine Compare_chain (thn (G f s i H _ I h) λv s1 ⟨x,w,I1,r1,P⟩=>chain_link (thn (L f s1 i w _ I1 P) λu s2 ⟨y,A,I2,t,Z⟩=>
  thn (ho f s2 i A x y v u _ I2 r1 t Z) λd s3 ⟨z,m,n,r3,k,e,o⟩=>?_)) N
 subst e;cases r3;refine M8 ?_;cases k with
 |false=>exact ite_ff ⟨.bl Kg,m,n,rfl,o⟩
 |true=>exact ite_tt<|chain_last<|thn (M f s3 i m _ n o) λw' s4 ⟨z',D,F,r4,q4⟩=>l f s4 i D y z' u w' Q F t r4 q4
def vf (K:Kk)(x:V)(H:Hp)(k:RN):Prop:=
 match x with
 |.non=>k=Kg
 |.bl b=>k=b
 |.int i=>k=(i != 0)
 |.str y=>y.length<=sizeLine/\k=((y.length:Int) != 0)
 |.byt y=>y.size<=sizeLine/\k=((y.size:Int) != 0)
 |.ref p=>(∃e,SqL K H p e/\k=!e.isEmpty)\/(∃e,SqT K H p e/\k=!e.isEmpty)\/∃d,H p=O (.dK d)/\k=!d.isEmpty
 |_=>RX
theorem oD {f:Type}{d:U<|f×V}{e:U<|f×B}(r:KV d e):(!e.isEmpty)=!d.isEmpty:=by cases r<;>rfl
theorem iU {e:U V}{d:U B}(r:Vals e d):(!d.toArray.isEmpty)=!e.isEmpty:=by cases r<;>simp
theorem fO:(sizeLine:Y)<2 ^ 63:=by rw[M4];decide
theorem oG:Jm X (λx H Q=>∃k,vf X.K x H k/\Q k H):=by
 intro A s M H x v Q I rx h;obtain⟨k,e,q⟩:=h;have G:=fO;have L:sizeLine=16777216:=M4;cases x with
 |non=>cases rx;have d:k=false:=e;subst d;exact truthy_none ⟨H,I,q⟩
 |bl b=>cases rx;have d:k=b:=e;subst d;exact M8 ⟨H,I,q⟩
 |int i=>obtain⟨t,rfl⟩:=rx;have d:k=(i != 0):=e;subst d;exact PySem.P.truthy_int ⟨H,I,q⟩
 |str y=>obtain⟨t,rfl⟩:=rx;obtain⟨F,d⟩:y.length<=sizeLine/\k=((y.length:Int) != 0):=e;subst d;exact PySem.P.truthy_str (by lia) ⟨H,I.tok _,q⟩
 |byt y=>obtain⟨t,rfl⟩:=rx;obtain⟨F,d⟩:y.size<=sizeLine/\k=((y.size:Int) != 0):=e;subst d;exact PySem.W.truthy_bytes (by lia) ⟨H,I.tok _,q⟩
 | ref p =>
  cases rx;have d:(∃l,SqL X.K H p l/\k=!l.isEmpty)\/(∃l,SqT X.K H p l/\k=!l.isEmpty)\/∃f,H p=O (.dK f)/\k=!f.isEmpty:=e;rcases d with⟨l,hx,d⟩|⟨l,hx,d⟩|⟨f,hx,d⟩
  .subst d;obtain⟨o,r,u,z⟩:=I.list hx;have g:=r.length;exact wpAny_truthy_list u.isList (by simp only[KU];lia) ⟨H,I.tok _,by rw[iU r];exact q⟩
  .subst d;obtain⟨o,r,u,z⟩:=I.tuple hx;have g:=r.length;exact truthy_tuple u (by simp only[KU];lia) ⟨H,I.tok _,by rw[iU r];exact q⟩
  .subst d;obtain⟨z,D,n,r,m⟩:f.length<=sizeLine/\(p==Mb)=Kg/\∃n,KV f n/\s.heap.DictOf (bg X.prog X.w) p n:=I.hok p _ hx;have g:f.length=n.length:=Paired.length r;exact wpAny_truthy_dict D m (by lia) ⟨H,I.tok _,by rw[oD r];exact q⟩
 |_=>exact(show RX from e).elim
theorem ve (l:PE X a ta)(m:∀d,SN a X.env d=(do let v <- d;standAt a.pos;Mz [v] (truthy v))):
  PT X a (λf H Q=>ta f H λx g=>∃k,vf X.K x g k/\Q k g):=by
 intro e s f H Q I h;exact isTrue_plain (thn (l e s f H _ I h) λv p ⟨x,i,I1,o,n⟩=>oG e p f i x v Q I1 o n)<|m _
theorem op_add_str:OpR X (Lw .Add) (λx y H Q=>∃i d,x=.str i/\y=.str d/\i.length+d.length<=sizeLine/\Q (.str<|i++d) H):=by intro e s m H x y v u Q I rx g h;obtain⟨i,d,rfl,rfl,f,q⟩:=h;obtain⟨t,rfl⟩:=rx;obtain⟨k,rfl⟩:=g;exact add_str (λk l=>⟨.str<|i++d,H,I.tok _,⟨_,rfl⟩,q⟩) f
theorem c5 {x:V}{d:U B}(r:Vals [x] d):∃u,d=[u]/\RelV x u:=by
 cases r with
 |cons e f=>cases f;exact⟨_,rfl,e⟩
theorem mV {x y:V}{d:U B}(r:Vals [x,y] d):∃u e,d=[u,e]/\RelV x u/\RelV y e:=by
 cases r with
 |cons f g=>
  cases g with
  |cons h i=>cases i;exact⟨_,_,rfl,f,h⟩
theorem sk (l:X.calm=Kh):cy X (.builtin "max") (λg H Q=>∃i d,g=[.int i,.int d]/\Q (.int<|if d>i then d else i) H):=by
 intro f s w H g p Q I r h;obtain⟨i,d,rfl,q⟩:=h;obtain⟨u,v,rfl,⟨t,rfl⟩,⟨n,rfl⟩⟩:=mV r;refine max_two_ints (I.ok.hd l) λm o k=>⟨_,H,I.kept k,?_,q⟩;by_cases e:d>i
 .rw[RJ e,RJ e];exact⟨_,rfl⟩
 .rw[RK e,RK e];exact⟨_,rfl⟩
theorem qQ (l:X.calm=Kh):cy X (.builtin "min") (λg H Q=>∃i d,g=[.int i,.int d]/\Q (.int<|if d<i then d else i) H):=by
 intro f s w H g p Q I r h;obtain⟨i,d,rfl,q⟩:=h;obtain⟨u,v,rfl,⟨t,rfl⟩,⟨n,rfl⟩⟩:=mV r;refine min_two_ints (I.ok.hd l) λm o k=>⟨_,H,I.kept k,?_,q⟩;by_cases e:d<i
 .rw[RJ e,RJ e];exact⟨_,rfl⟩
 .rw[RK e,RK e];exact⟨_,rfl⟩
def FD (K:Kk)(x:V)(H:Hp)(n:Y):Prop:=
 match x with
 |.str y=>y.length<=sizeLine/\n=y.length
 |.byt y=>y.size<=sizeLine/\n=y.size
 |.ref p=>(∃d,SqL K H p d/\n=d.length)\/∃d,SqT K H p d/\n=d.length
 |_=>RX
theorem lK:cy X (.builtin "len") (λd H Q=>∃x n,d=[x]/\FD X.K x H n/\Q (.int n) H):=by
 intro m s D H d A Q I r h;obtain⟨x,n,rfl,e,q⟩:=h;obtain⟨u,rfl,rx⟩:=c5 r;have w:=fO;have z:sizeLine=16777216:=M4;cases x with
 |str y=>obtain⟨t,rfl⟩:=rx;obtain⟨o,g⟩:y.length<=sizeLine/\n=y.length:=e;subst g;exact len_str (by lia) ⟨.int _,H,I.tok _,⟨_,rfl⟩,q⟩
 |byt y=>obtain⟨t,rfl⟩:=rx;obtain⟨o,g⟩:y.size<=sizeLine/\n=y.size:=e;subst g;exact PySem.W.len_bytes (by lia) ⟨.int _,H,I.tok _,⟨_,rfl⟩,q⟩
 | ref p =>
  cases rx;have g:(∃d,SqL X.K H p d/\n=d.length)\/∃d,SqT X.K H p d/\n=d.length:=e;rcases g with⟨d,hx,g⟩|⟨d,hx,g⟩
  .subst g;obtain⟨i,l,k,v⟩:=I.list hx;have f:=l.length;exact Calls.call_len_list k.isList (by simp only[KU];lia) ⟨.int d.length,H,I.tok _,⟨_,by simp only[KU];rw[f]⟩,q⟩
  .subst g;obtain⟨i,l,k,v⟩:=I.tuple hx;have f:=l.length;exact len_tuple k (by simp only[KU];lia) ⟨.int d.length,H,I.tok _,⟨_,by simp only[KU];rw[f]⟩,q⟩
 |_=>exact(show RX from e).elim
end
structure ObjM (h:RU)(x dx C:RL)(mA:Str->j B):Prop where
 obj:h.get? x=O (OT C dx)
 ns:h.Ns1 dx mA
 ne:dx≠x
theorem rE {h:RU}{d:RL}{g:Str->j B}(n:h.Ns1 d g):∃i,h.get? d=O i/\∀b,O3 b i=O (g b):=by
 obtain⟨o,f,ep,ho,l,hk,_,m⟩:=n;refine⟨o,ho,λb=>?_⟩;have e:=m b;unfold nsFind findBy at e;rw[<- Array.find?_toList] at e;unfold O3;rw[l];dsimp only;split
 .rename_i y q;rw[q] at e;exact RY O e
 .rename_i q;rw[q] at e;have a:f.toList.any (·.refKey)=false:=by rw[QR];intro y p;obtain⟨z,t,c⟩:=hk y (Array.mem_toList_iff.mp p);simp[DictEntry.refKey,c]
  have k:¬f.toList.any (·.refKey)=true:=by rw[a];exact KH
  rw[RK k];exact RY O e
theorem ObjM.look {h:RU}{x c C:RL}{d:Str->j B}(I:ObjM h x c C d):∃b,PySem.W.InstAt h x (OT C c) C (O b)/\∀a,O3 a b=O (d a):=
 let ⟨b,ho,e⟩:=rE I.ns
 ⟨b,⟨I.obj,rfl,rfl,ho⟩,e⟩
def Fq (f:Str)(v:V):U (Str×V)->U (Str×V)
|[]=>[(f,v)]
|(g,x)::r=>if g=f then(g,v)::r else(g,x)::Fq f v r
theorem RelO.some_of {v:V}{o:j B}(r:RelO (O v) o):∃u,o=O u/\RelV v u:=by
 cases o with
 |none=>exact(show RX from r).elim
 |some u=>exact⟨u,rfl,r⟩
section
variable {P:RS}{w:Ks}{H H':Hp}{h h':RU}{a C dx:RL}{fs fs':U (Str×V)}
theorem AO (c:HOk P w H h)(e:H a=O (.ins C dx fs)):∃b,ObjM h a dx C b/\(∀f,RelO (fs.lookup f)<|b f)/\Ql b (fs.map (·.1))/\fs.length<=1000/\H dx=O (.own a):=by obtain⟨d,z,g,i,b,n,r,q⟩:=(show ObjOk P w H h a (.ins C dx fs) from c a _ e);exact⟨b,⟨i,n,g⟩,r,q,z,d⟩
end
structure Cls (K:Kk)(C:RL):Prop where
 pg:Q4 K C Str.empty=Kh
 hd:Pl K C=Kh
 po:PySem.W.plainOver K C=Kh
 sa:Nr K (.ref C) "__setattr__"=O (O (.builtin "object.__setattr__"))
theorem Cls.get {K:Kk}{C:RL}(c:Cls K C)(f:Str):Q4 K C f=true:=c.pg
section
variable {X:Cx}{pins:U (RL×Obj)}{σ:St}{H:Hp}{s:Ki}{A:KO}{E:B->Ki->Prop}{Q:B->Ki->Prop}{c:B}{b:RN}
inductive gC (K:Kk)(H:Hp):V->B->Prop where
 |non:gC K H .non (.type "NoneType")
 |bl (x:RN):gC K H (.bl x) (.type "bool")
 |int (i:Int):gC K H (.int i) (.type "int")
 |str (x:Str):gC K H (.str x) (.type "str")
 |flt (x:UInt64):gC K H (.flt x) (.type "float")
 |lst {a:RL} {xs:U V} (e:H a=O (.lst xs)):gC K H (.ref a) (.type "list")
 |frz {a:RL} {o:Obj} {xs:U V} (e:H a=O (.frz o (.lst xs))):gC K H (.ref a) (.type "list")
 |tup {a:RL} {xs:U V} (e:H a=O (.tup xs)):gC K H (.ref a) (.type "tuple")
 |dK {a:RL} {kvs:U (Key×V)} (e:H a=O (.dK kvs)):gC K H (.ref a) (.type "dict")
 |dT {a:RL} {kvs:U (U Key×V)} (e:H a=O (.dT kvs)):gC K H (.ref a) (.type "dict")
 | ins {a C dx:RL} {fs:U (Str×V)} (e:H a=O (.ins C dx fs)) (cl:Cls K C) (ha:Nr K (.ref C) "__class__"=O (O (.builtin "object.__class__")))
   (hn:Pk K (.builtin "object.__class__") "__get__"=O (O (.builtin "getset_descriptor.__get__"))) (htk:P5 K (.builtin "object.__class__")=O Kh)
   (hm:PQ K C (.type "object")=O Kh):gC K H (.ref a) (.ref C)
theorem eA {x:V}{u t:B}(I:Inv X pins σ H s)(rx:RelV x u)(ty:gC X.K H x t)(e:Mq X.K t c=O b)(h:∀P,Q (.bool b) {s with toks:=P}):
  RO (Km X.prog X.w) A (call (.builtin "isinstance") [u,c]) Q E s:=by
 cases ty with
 |non=>cases(show u=Value.none from rx);exact LP QP I.kIn LN e (λz=>nomatch z) h
 |bl y=>cases(show u=Value.bool y from rx);exact LP QO I.kIn LN e (λz=>nomatch z) h
 |int i=>obtain⟨t,q⟩:=(show∃t,u=Value.int i t from rx);cases q;exact LP Q3 I.kIn LN e (λz=>nomatch z) h
 |str y=>obtain⟨t,q⟩:=(show∃t,u=Value.str y t from rx);cases q;exact LP Q2 I.kIn LN e (λz=>nomatch z) h
 |flt y=>obtain⟨t,q⟩:=(show∃t,u=Value.float y t from rx);cases q;exact LP PySem.W.kitx_float I.kIn LN e (λz=>nomatch z) h
 | @lst a m g=>cases(show u=Value.ref a from rx);obtain⟨_,_,n,_,k⟩:=(show ObjOk X.prog X.w H s.heap a (.lst m) from I.hok a _ g);exact LP Om I.kIn ⟨_,k,rfl⟩ e (λz=>nomatch z) h
 | @frz a N m g=>cases(show u=Value.ref a from rx);obtain⟨_,_,_,n,_,k⟩:=(show ObjOk X.prog X.w H s.heap a (.frz N<|.lst m) from I.hok a _ g);exact LP Om I.kIn ⟨_,k,rfl⟩ e (λz=>nomatch z) h
 | @tup a m g=>cases(show u=Value.ref a from rx);obtain⟨_,_,_,p⟩:=(show ObjOk X.prog X.w H s.heap a (.tup m) from I.hok a _ g);obtain⟨o,k,r,_⟩:=p;exact LP Pq I.kIn ⟨o,k,r⟩ e (λz=>nomatch z) h
 | @dK a l g=>cases(show u=Value.ref a from rx);obtain⟨_,_,vs,_,p⟩:=(show ObjOk X.prog X.w H s.heap a (.dK l) from I.hok a _ g);obtain⟨o,F,ep,k,r,_⟩:=p;exact LP QN I.kIn ⟨o,k,r.1⟩ e (λz=>nomatch z) h
 | @dT a l g=>cases(show u=Value.ref a from rx);obtain⟨_,_,m,_,o,F,ep,k,r,_⟩:=(show ObjOk X.prog X.w H s.heap a (.dT l) from I.hok a _ g);exact LP QN I.kIn ⟨o,k,r.1⟩ e (λz=>nomatch z) h
 | @ins a C Z fs g D G M v L=>cases(show u=Value.ref a from rx);obtain⟨mA,f,_⟩:=AO I.hok g;obtain⟨od,d,_⟩:=f.look;exact LP (PySem.W.kitx_own (D.get _) D.hd G M v L) I.kIn d e (λz=>nomatch z) h
end
structure Room (k:Y)(A:KO):Prop where
 hd:A.handled=J
 dp:A.depth+3 * k+5<recursionLimit
 un:A.units+16 * k+200<SJ
 gu:A.guards=O []
theorem Room.deeper {k:Y}{A:KO}(r:Room (k+1) A)(a:Env):Room k (A.deeper a):=
 ⟨r.hd,by have:=r.dp;show A.depth+1+3 * k+5<_;lia,by have:=r.un;show A.units+3+16 * k+200<_;lia,r.gu⟩
theorem Room.depth {k:Y}{A:KO}(r:Room k A):A.depth<recursionLimit:=by have:=r.dp;lia
theorem Room.units {k:Y}{A:KO}(r:Room k A):A.units+64<SJ:=by have:=r.un;lia
def EB:TA:=λ_ H Q=>Q [] H
def pI (d:TE)(e:TA):TA:=λa H Q=>d a H λx b=>e a b λf c=>Q (x::f) c
section
variable {X:Cx}{e:RT}{es:U RT}{te:TE}{t:TA}{pos:Pos}
theorem cp:PA X [] EB:=λ_ _ _ _ H Q I h=>Calls.spliced_nil ⟨[],H,I,.nil,h⟩
theorem aT (f:PE X e te)(g:PA X es t)(i:Kl (e::es) X.env=(Kg,RV e X.env)::Kl es X.env:=by rfl):PA X (e::es) (pI te t):=by intro pos a s b H Q I h;rw[i];show RO _ _ (spliced ((Kg,RV e X.env)::KQ pos (Kl es X.env))) _ _ s;refine Calls.spliced_cons<|thn (f a s b H _ I h) λu o ⟨x,c,I1,m,k⟩=>?_;exact thn (g pos a o b c _ I1 k) λv r ⟨p,d,I2,n,l⟩=>⟨x::p,d,I2,.cons m n,l⟩
def Ht (t:TA):TE:=λc H Q=>t c H λb a=>b.length<=sizeLine/\∀p,a p=J->Q (.ref p) (upd a p<|.tup b)
def FY (t:TA):TE:=λc H Q=>t c H λb a=>b.length<=sizeLine/\∀p,a p=J->Q (.ref p) (upd a p<|.lst b)
theorem uI {x1}(h:PA X es t):PE X (.Tuple es x1 pos) (Ht t):=by intro a s l H Q I g;refine wpAny_Tuple_spliced<|thn (h pos a s l H _ I g) λi c ⟨k,d,I1,r,z,q⟩=>⟨by rw[<- r.length];exact z,?_⟩;have f:d c.heap.objs.size=none:=I1.hok.fresh<|Kt _;refine⟨.ref c.heap.objs.size,upd d c.heap.objs.size<|.tup k,I1.laid (t':=c.toks) (λb u e=>Heap.get?_push_of_some _ e) (Kt _) ?_,rfl,q _ f⟩;exact⟨z,i,r,⟨_,Heap.get?_push_size _ rfl,rfl,_,rfl⟩⟩
theorem Cm (h:PA X es t):PE X (.List es pos) (FY t):=by intro a s l H Q I g;refine wpAny_List_spliced<|thn (h pos a s l H _ I g) λi c ⟨k,d,I1,r,z,q⟩=>⟨by rw[<- r.length];exact z,?_⟩;have f:d c.heap.objs.size=none:=I1.hok.fresh<|Kt _;refine⟨.ref c.heap.objs.size,upd d c.heap.objs.size<|.lst k,I1.laid (t':=c.toks) (λb u e=>Heap.get?_push_of_some _ e) (Kt _) ?_,rfl,q _ f⟩;exact⟨z,i,0,r,Heap.get?_push_size _ rfl⟩
end
abbrev Sp:=U V->Hp->VK->XK->Prop
abbrev CXT:=U Env->Hp->Ki->XK->B->Ki->Prop
structure Aj (P:RS)(w:Ks)(K:Kk)(mg:Str->j B)(base:RU)(A:KO)(outer:U Env)(s:Ki)(H:Hp):Prop where
 frames:A.frames=O outer
 mod:Mod K mg base
 bs:∀b o,base.get? b=O o->s.heap.get? b=O o/\H b=J
 bsz:base.objs.size<=s.heap.objs.size
 funs:s.heap.FunFrames base outer
 frf:∀b∈frs outer,H b=J
 hok:HOk P w H s.heap
 bare:Mm s.gens
def CE (a:U Env)(P:RS)(w:Ks)(H:Hp)(s:Ki)(Q:VK)(u:B)(b:Ki):Prop:=
 ∃v c,b.os=s.os/\Mm b.gens/\Un (frs a) [] H c s.heap b.heap/\HOk P w c b.heap/\RelV v u/\Q v c
def CR (c:CXT)(a:U Env)(P:RS)(w:Ks)(H:Hp)(s:Ki)(Q:VK)(E:XK)(r:Ml)(b:Ki):Prop:=
 match r with
 |.ok (.ret u)=>CE a P w H s Q u b
 |.ok _=>RX
 |.error e=>c a H s E e b
structure fI (P:RS)(w:Ks)(K:Kk)(mg:Str->j B)(base:RU)(CX:CXT)(k:Y)(f:RL)(fd:LF)(ps:U Str)(sp:Sp):Prop where
 len:∀vs H Q E,sp vs H Q E->vs.length=ps.length
 run:∀(A:KO) (outer:U Env) (s:Ki) (H:Hp) (args:Args) (us:U B) (vs:U V) (Q:VK) (E:XK),Room k A->Aj P w K mg base A outer s H->My s fd args (ps.zip us)->Vals vs us->sp vs H Q E ->
  Lp (Km P w) A (.call (.ref f) args) (CR CX outer P w H s Q E) s
section
variable {X:Cx}{pins:U (RL×Obj)}{σ:St}{H:Hp}{s s':Ki}
theorem Inv.env0 (I:Inv X pins σ H s):Aj X.prog X.w X.K X.mg X.base X.A X.stack s H:=
 ⟨I.ok.frames,I.ok.mod,I.bs,K0 I.ok.bsz I.sz,I.stack,I.stkFree,I.hok,I.bare⟩
theorem Inv.after {Q:VK}{u:B}(I:Inv X pins σ H s)(h:CE X.stack X.prog X.w H s Q u s'):EP X pins σ Q u s':=by obtain⟨v,e,os,bare,un,a,r,q⟩:=h;obtain⟨f,g,d,t,c⟩:=s';obtain rfl:c=s.os:=os;exact⟨v,e,I.call (h':=f) (g':=g) (d':=d) (t':=t) (ch:=[]) un a bare λb z=>RM z<|by simp,r,q⟩
end
def Gg (c:Sp)(a:U V)(E:XK)(t:TA):TE:=λe H Q=>t e H λd b=>c (d++a) b Q E
def Binds (K:Kk)(c:LF)(b:U Str)(ds:U B):Prop:=
 ∀(s:Ki) (a:U B),K.In s.heap->(a++ds).length=b.length->My s c ⟨a,[]⟩ (b.zip<|a++ds)
theorem Binds.all {K:Kk}{c:LF}{b:U Str}(h:∀a:U B,a.length=b.length->bindArgs c ⟨a,[]⟩=pure (b.zip a)):Binds K c b []:=λs a _ d=>by rw[La] at d ⊢;exact .of_eq<|h a d
def og (c:CXT)(X:Cx)(E:XK):Prop:=∀(a:U<|RL×Obj) (d:St) (H:Hp) (s:Ki) (e:B) (b:Ki),Inv X a d H s->c X.stack H s E e b->X.xe e b
section
variable {X:Cx}{CX:CXT}{k:Y}{f C:RL}{fd:LF}{ps:U Str}{sp:Sp}{dvs:U V}{ds:U B}{E:XK}{x m:Str}{p pos apos:Pos}{e o:RT}{es:U RT}{ta:TE}{t:TA}
theorem CK {a:U<|RL×Obj}{g:St}{H:Hp}{s:Ki}{Q:VK}{b:U B}{d:U V}(F:fI X.prog X.w X.K X.mg X.base CX k f fd ps sp)(y:Room k X.A)(l:Binds X.K fd ps ds)(n:Vals dvs ds)(hx:og CX X E)
  (I:Inv X a g H s) (r:Vals d b) (h:sp (d++dvs) H Q E):RO (Km X.prog X.w) X.A (call (.ref f) b) (EP X a g Q) X.xe s:=by
 have i:Vals (d++dvs) (b++ds):=r.append n;have v:(b++ds).length=ps.length:=by rw[<- i.length];exact F.len _ _ _ _ h
 refine Sw<|NZ (F.run X.A X.stack s H ⟨b,[]⟩ (b++ds) (d++dvs) Q E y I.env0 (l s b I.kIn v) i h) λr z c=>?_;cases r with
 |error e=>exact hx a g H s e z I c
 |ok fl=>
  cases fl with
  |ret u=>exact I.after c
  |next=>exact Mh c
  |brk=>exact Mh c
  |cont=>exact Mh c
theorem xC (F:fI X.prog X.w X.K X.mg X.base CX k f fd ps sp)(v:Room k X.A)(n:Gl X x)(u:X.mg x=O (.ref f))(hk:NA X.K (.ref f)=Kh)(g:Binds X.K fd ps ds)(i:Vals dvs ds)(hx:og CX X E)
  (d:PA X (e::es) t) (b:(x==("__debug__":Str))=false:=by decide) (l:Kl (e::es) X.env=(Kg,RV e X.env)::Kl es X.env:=by rfl) (c:(KQ pos<|Kl es X.env).any (·.1)=false:=by rfl):
  PE X (.Call (.Name x p) (e::es) [] pos) (Gg sp dvs E t):=by
 intro a s y H Q I h;refine Na<|zl I n u ?_ b;refine PySem.W.callWith_K (h₀:=X.base) I.ok.mod.kin hk (thn (d pos a s y H _ I h) λG D ⟨L,z,I1,r,q⟩=>⟨I1.kIn,?_⟩) l c;exact CK F v g i hx I1 r q
end
structure au (N P:U Str)(sc:R6):Prop where
 kind:sc.kind=.function
 co:sc.isCoroutine=Kg
 gen:sc.isGenerator=Kg
 nd:N.Nodup
 pre:N.take P.length=P
 par:∀x∈P,sc.names.lookup x=O .local\/sc.names.lookup x=O .cell
 nofree:∀y∈sc.names,y.2≠.free
theorem jR {kindOf:Str->j NameKind}{x:Str}:∀{binds:U<|Str×B} {m:Str->j B},(∀v,(x,v) ∉ binds)->SQ kindOf binds m x=m x
|[],_,_=>rfl
| (n,v)::r,m,h=>by
 unfold SQ;rw[jR λw a=>h w<|Kw _ a];split
 .have:x≠n:=by rintro rfl; exact h v Ku
  simp[this]
 .rfl
theorem ju {kindOf:Str->j NameKind}{x:Str}:∀{binds:U<|Str×B} {m:Str->j B},(∀v,(x,v) ∉ binds)->SR kindOf binds m x=m x
|[],_,_=>rfl
| (n,v)::r,m,h=>by
 unfold SR;rw[ju λw a=>h w<|Kw _ a];split
 .rfl
 .have:x≠n:=by rintro rfl; exact h v Ku
  simp[this]
theorem jT {kindOf:Str->j NameKind}{x:Str}{v:B}:∀{P:U Str} {a:U B} {i:Y} {m:Str->j B},P.Nodup->P[i]?=O x->a[i]?=O v->kindOf x=O .local ->
 SQ kindOf (P.zip a) m x=O v
|[],_,_,_,_,h,_,_=>by simp at h
|_::_,[],_,_,_,_,h,_=>by simp at h
|p::P,w::a,0,m,nd,b,c,hk=>by simp at b c;subst b;subst c;show SQ kindOf ((p,w)::P.zip a) m p=_;unfold SQ;rw[jR λv d=>(Le.mp nd).1 (Nx d).1,RJ hk];simp
|p::P,w::a,i+1,m,nd,b,c,hk=>by show SQ kindOf ((p,w)::P.zip a) m x=_;unfold SQ;exact jT (i:=i) (Le.mp nd).2 (by simpa using b) (by simpa using c) hk
theorem j8 {kindOf:Str->j NameKind}{x:Str}{v:B}:∀{P:U Str} {a:U B} {i:Y} {m:Str->j B},P.Nodup->P[i]?=O x->a[i]?=O v->kindOf x≠O .local ->
 SR kindOf (P.zip a) m x=O v
|[],_,_,_,_,h,_,_=>by simp at h
|_::_,[],_,_,_,_,h,_=>by simp at h
|p::P,w::a,0,m,nd,b,c,hk=>by simp at b c;subst b;subst c;show SR kindOf ((p,w)::P.zip a) m p=_;unfold SR;rw[ju λv d=>(Le.mp nd).1 (Nx d).1,RK hk];simp
|p::P,w::a,i+1,m,nd,b,c,hk=>by show SR kindOf ((p,w)::P.zip a) m x=_;unfold SR;exact j8 (i:=i) (Le.mp nd).2 (by simpa using b) (by simpa using c) hk
def start (N:U Str)(a:U V):St:=a.map O++Ky (N.length-a.length) J
def kx (g:CXT)(P:RS)(w:Ks)(K:Kk)(mg:Str->j B)(base:RU)(N:U Str)(b:Str)(a:R6)(f:RL)(d:B)(A:KO)(outer:U Env)(s:Ki)(H:Hp)(E:XK):Cx where
 prog:=P
 w:=w
 K:=K
 mg:=mg
 base:=base
 A:=A.deeper<|LQ b a s.heap.objs.size f d
 N:=N
 s₀:=s
 H₀:=H
 env:=LQ b a s.heap.objs.size f d
 outer:=outer
 stack:=LQ b a s.heap.objs.size f d::outer
 ex:=[]
 calm:=Kh
 fn:=λ_=>Kh
 pn:=[]
 xe:=λe i=>RO (Km P w) (A.deeper<|LQ b a s.heap.objs.size f d) (leaving (LQ b a s.heap.objs.size f d) e) (λ_ c=>g outer H s E e c) (λh c=>g outer H s E h c) i
theorem lE {a:R6}{n:Y}{x:Str}(h:a.names.lookup x=O .cell):∃c,(cellsFrom n a.names []).lookup x=O c:=by have q:=QL a.names n []<|.inl h;exact Rn.mp q
theorem qX {CX:CXT}{P:RS}{w:Ks}{K:Kk}{mg:Str->j B}{o:RU}{N G:U Str}{l:Str}{d:R6}{f:RL}{M:B}{A:KO}{g:U Env}{s s1:Ki}{H:Hp}{E:XK}{us:U B}{I:U V}
  (S:au N G d) (hd:A.handled=J) (t:Aj P w K mg o A g s H) (hl:I.length=G.length) (r:Vals I us)
  (x:InCallC s s.heap.objs.size (SQ (LQ l d s.heap.objs.size f M).kindOf (G.zip us) λ_=>J) (cellsFrom (s.heap.objs.size+1) d.names []) (SR (LQ l d s.heap.objs.size f M).kindOf (G.zip us) λ_=>J) s1):
  Inv (kx CX P w K mg o N l d f M A g s H E) [] (start N I) H s1:=by
 have hpl:G.length<=N.length:=by have:=RY MH S.pre;rw[Ms] at this;lia
 obtain⟨Q,tk,rfl,hk⟩:=x.done;have F:∀b:RL,b ∉ (kx CX P w K mg o N l d f M A g s H E).ex:=λb z=>RM (show b∈([]:U RL) from z)<|by simp
 refine⟨⟨t.mod,S.kind,rfl,rfl,Kt _,λy z c Q m=>?_,λy D=>?_,λy c _ h=>?_,λ_=>hd,Around.frames_deeper t.frames,.inr ⟨rfl,rfl⟩,λb z=>RM z<|F b,t.bs,t.bsz,λb _ _=>F b,λb z=>RM z<|F b,t.funs,t.frf⟩,
  rfl,t.bare,Un.kept hk,⟨_,x.toInCall.ns,λi y v Q m h3=>?_⟩,λy c h=>⟨_,x.cell y c h⟩,t.hok.fresh<|Kt _,λy c h=>?_,λp hp=>RM (show p∈([]:U<|RL×Obj) from hp)<|by simp,t.hok.kept hk,?_⟩
 .exact name_of_addr x.apart (Nk Q) (Nk m)
 .have D:d.names.lookup y=O .cell\/d.names.lookup y=O .free:=D;rcases D with D|D
  .exact lE D
  .exact RM rfl (S.nofree _<|Nk D)
 .exact NN (x.above y c<|Nk h)
 .have Z:i<I.length:=by
   unfold start at m;by_cases Z:i<I.length
   .exact Z
   .rw [L4<|by simpa using Z] at m;rw[MI] at m;split at m<;>cases m
  have ha:I[i]?=O v:=by
   unfold start at m;rw[M1<|by simpa using Z,KY] at m;cases e:I[i]? with
   |none=>rw[e] at m;cases m
   |some a=>rw[e] at m;cases m;rfl
  obtain⟨u,hu,rv⟩:=r.get ha;have hp:G[i]?=O y:=by rw[<- S.pre,Rl<|by lia];exact Q
  have L:G.Nodup:=by rw[<- S.pre];exact S.nd.sublist<|Pj _ _
  refine⟨u,rv,?_⟩;rcases S.par y (L0 hp) with k|k
  .exact .inl ⟨k,jT L hp hu k⟩
  .obtain ⟨c,e⟩:=lE (n:=s.heap.objs.size+1) k;refine .inr ⟨.inl k,c,e,?_⟩;have q:=x.cell y c e;rw[j8 L hp hu<|by show d.names.lookup y≠_;rw[k];decide] at q;exact q
 .exact t.hok.fresh (NN<|x.above y c<|Nk h)
 .unfold start;show _=N.length;rw[KJ,Kr,LO];lia
theorem ES {CX:CXT}{P:RS}{w:Ks}{K:Kk}{mg:Str->j B}{i:RU}{k:Y}{f:RL}{F g:Str}{l:Arguments}{m:U R0}{c:R6}{dV kV Z pm h ct oc:B}{an od:j RL}
  {osl:RW<|j B} {N ps:U Str} {sp:Sp} (lk:K.lookup f=O ⟨oc,od,.func<|Mu F g l m c dV kV Z pm an h ct,osl⟩) (hcd:Ov K h g=Kh) (S:au N ps c)
  (len:∀p H Q E,sp p H Q E->p.length=ps.length)
  (G:∀ (A:KO) (d:U Env) (s:Ki) (H:Hp) (p:U V) (Q:VK) (E:XK),Room k (A.deeper (LQ g c s.heap.objs.size f h))->sp p H Q E ->
   ∃t,PSs (kx CX P w K mg i N g c f h A d s H E) m t/\t {nx:=λ_ D=>Q .non D,rt:=Q} (start N p) H):
  fI P w K mg i CX (k+1) f (Mu F g l m c dV kV Z pm an h ct) ps sp:=by
 refine⟨len,λA d s H args us p Q E hr e0 hb r hsp=>?_⟩;have hl:=len _ _ _ _ hsp;have KX:K.In s.heap:=e0.mod.kin.keeps λb o e=>(e0.bs b o e).1;have lim:s.heap.NoLimit:=e0.mod.nolimit.keeps λb o e=>(e0.bs b o e).1
 have L:∀y∈ps.zip us,c.names.lookup y.1=O .local\/(c.names.lookup y.1=O .cell/\((cellsFrom (s.heap.objs.size+1) c.names []).lookup y.1).isSome=Kh):=λ⟨n,v⟩ hy=>by
  rcases S.par n (Nx hy).1 with q|q
  .exact .inl q
  .exact .inr ⟨q,QL _ _ _<|.inl q⟩
 refine codeAny_call_function hr.depth (KX _ _ lk) rfl S.co S.gen rfl (PySem.W.codeRec_of KX hcd) (hb _ _ _ _ ?_);refine wpAny_newFunctionEnv_cells S.kind L λenv he s1 x=>?_;subst he;refine⟨lim.keeps x.toInCall.keep,codeAny_func ?_⟩;obtain⟨t,ht,hq⟩:=G A d s H p Q E (hr.deeper _) hsp;have I:Inv (kx CX P w K mg i N g c f h A d s H E) [] (start N p) H s1:=qX S hr.hd e0 hl r x;refine Lb (ht [] s1 (start N p) H _ I hq) (λfl s' M=>?_) λe s' M=>M
 have fin:∀{z:St} {D:Hp} {v:V} {u:B},Inv (kx CX P w K mg i N g c f h A d s H E) [] z D s'->RelV v u->Q v D->CE d P w H s Q u s':=
  λ{z D v u} a rv q=>⟨v,D,a.os,a.bare,a.base,a.hok,rv,q⟩
 cases fl with
 |ret u=>obtain⟨v,z,D,a,rv,q⟩:=M;exact fin a rv q
 |next=>obtain⟨z,D,a,q⟩:=M;exact fin (v:=V.non) (u:=Value.none) a rfl q
 |brk=>obtain⟨_,_,_,q⟩:=M;exact Mh q
 |cont=>obtain⟨_,_,_,q⟩:=M;exact Mh q
section
variable {X:Cx}{x:Str}{p pos:Pos}{e:RT}{es:U RT}{t:TA}{id T:R1}{r:U V->Hp->VK->Prop}
def tCB (r:U V->Hp->VK->Prop)(t:TA):TE:=λc H Q=>t c H λb a=>r b a Q
theorem bp (i:cy X (.builtin id) r)(l:Gl X x)(m:X.mg x=J)(o:L8 x=O (.builtin id))(g:PA X (e::es) t)(n:x≠"__name__":=by decide)(b:(x==("__debug__":Str))=false:=by decide)
  (k:Kl (e::es) X.env=(Kg,RV e X.env)::Kl es X.env:=by rfl) (c:(KQ pos<|Kl es X.env).any (·.1)=false:=by rfl):PE X (.Call (.Name x p) (e::es) [] pos) (tCB r t):=by
 intro a s d H Q I h;refine Na<|cX I l m o ?_ n b;exact Rb (thn (g pos a s d H _ I h) λy w ⟨z,f,I1,v,u⟩=>i a w d f z y Q I1 v u) k c
theorem ef (i:cy X (.type T) r)(l:Gl X x)(m:X.mg x=J)(o:L8 x=O (.type T))(g:PA X (e::es) t)(n:x≠"__name__":=by decide)(b:(x==("__debug__":Str))=false:=by decide)
  (k:Kl (e::es) X.env=(Kg,RV e X.env)::Kl es X.env:=by rfl) (c:(KQ pos<|Kl es X.env).any (·.1)=false:=by rfl):PE X (.Call (.Name x p) (e::es) [] pos) (tCB r t):=by
 intro a s d H Q I h;refine Na<|cX I l m o ?_ n b;exact NC (thn (g pos a s d H _ I h) λy w ⟨z,f,I1,v,u⟩=>i a w d f z y Q I1 v u) k c
end
end L2
namespace HT
open PySem PyProof.Rows
section
variable {prog:RS}{w:Ks}{A:KO}{E:B->Ki->Prop}{s:Ki}
theorem cat_tup {t b:RL}{d a:U B}{Q:B->Ki->Prop}(F:SI s.heap t d.toArray)(D:SI s.heap b a.toArray)(u:d≠[])
  (y:a=[]->Q (.ref t) s) (z:a≠[]->Q (.ref s.heap.objs.size) {s with heap:=s.heap.push {cls:=.type "tuple",data:=.seq (d++a).toArray}})
  (l:d.length+a.length<=sizeLine):RO (Km prog w) A (Lw .Add (.ref t)<|.ref b) Q E s:=by
 obtain⟨⟨cls,o,data,x⟩,ho,p,n,r⟩:=id F;obtain⟨⟨m,f,data2,i⟩,c,g,v,h⟩:=id D;simp only at p r g h;subst p r g h;have e:d.toArray++a.toArray=(d++a).toArray:=by simp
 by_cases k:a=[]
 .exact concat_meets ⟨_,ho,rfl⟩ ⟨_,c,rfl⟩ noFill_tuple_add seq_tuple_add QK Ru (Rj _ _)
   (tuple_addW1 t b d.toArray a.toArray n v o f x i (by simpa using u)<|by simp[k]) ⟨ho,c,y k⟩
 .refine concat_meets ⟨_,ho,rfl⟩ ⟨_,c,rfl⟩ noFill_tuple_add seq_tuple_add QK Ru (Rj _ _)
   (tuple_addW2 t b d.toArray a.toArray n v o f x i (by simpa using u) (by simpa using k)<|by rw[KU,KU];exact l) ⟨ho,c,?_⟩
  rw[e];exact z k
def sIx (n d:Y):j Int->Y
|none=>d
|some v=>if v<0 then(v+(n:Int)).toNat else min v.toNat n
theorem C9 (n d:Y)(b:d<=n)(o:j Int):sIx n d o<=n:=by
 cases o with
 |none=>exact b
 |some v=>
  show(if v<0 then(v+(n:Int)).toNat else min v.toNat n)<=n;by_cases a:v<0
  .rw[RJ a];lia
  .rw[RK a];exact NY _ _
theorem pP (v:Int)(n d:Y):(if v<0 then max (v+(n:Int)) 0 else min v (n:Int))=((sIx n d (O v):Y):Int):=by
 show(if v<0 then max (v+(n:Int)) 0 else min v (n:Int))=(((if v<0 then(v+(n:Int)).toNat else min v.toNat n):Y):Int);by_cases a:v<0
 .simp only[RJ a];lia
 .simp only[RK a];lia
theorem oS (lo a:j Int)(n:Y):Builtin.Slice.sliceAdjust lo a 1 (n:Int)=(((sIx n 0 lo:Y):Int),((sIx n n a:Y):Int)):=by
 have b:¬((1:Int)<0):=by lia
 unfold Builtin.Slice.sliceAdjust;simp only[b,if_false];refine Prod.ext ?_ ?_
 .cases lo with
  |none=>rfl
  |some v=>exact pP v n 0
 .cases a with
  |none=>rfl
  |some v=>exact pP v n n
theorem oV (i a:Y):Builtin.Slice.slicePlaces (i:Int) (a:Int) 1=a-i:=by
 unfold Builtin.Slice.slicePlaces;have b:(1:Int)>0:=by lia
 simp only[b,Sn,Int.ediv_one];split<;>lia
theorem i9 {v:B}{o:j Int}{Q:j Int->Ki->Prop}(p:L6 v o)(h:Q o s):RO (Km prog w) A (Builtin.Slice.slicePartIndex v) Q E s:=by
 cases p with
 |none=>exact slicePart_none h
 |int i t=>exact slicePart_int h
theorem sliceApplied_gen {f:RL}{d e:B}{lo b:j Int}{n:Y}{Q:Int×Int×Y->Ki->Prop}(i:s.heap.IsSliceOf f d e .none)(k:L6 d lo)(l:L6 e b)
  (h:Q (((sIx n 0 lo:Y):Int),1,sIx n n b-sIx n 0 lo) s):RO (Km prog w) A (Builtin.Slice.sliceApplied (.ref f)<|pure (n:Int)) Q E s:=by
 obtain⟨os,c,g,a⟩:=id i;unfold Builtin.Slice.sliceApplied Builtin.Slice.sliceFields;refine Kj<|Kj<|Lr c a (x:=d) rfl (Kj<|Lr c a (x:=e) rfl (Kj<|Lr c a (x:=.none) rfl (Ko ?_)));refine Kj<|slicePart_none ?_;show RO _ _ (if((1:Int)==0)=Kh then _ else _) _ _ s;rw[RK<|by decide];refine Kj<|i9 k<|Kj<|i9 l<|Kj<|Ko ?_;show RO _ _ (match Builtin.Slice.sliceAdjust lo b 1 (n:Int) with|(lo,b)=>pure (lo,(1:Int),Builtin.Slice.slicePlaces lo b 1)) _ _ s;rw[oS lo b n];show RO _ _ (pure (((sIx n 0 lo:Y):Int),(1:Int),Builtin.Slice.slicePlaces ((sIx n 0 lo:Y):Int) ((sIx n n b:Y):Int) 1)) _ _ s;rw[oV];exact Ko h
theorem tj (a:RW B)(i k:Y):((Kq k).filterMap λ(m:Y)=>a[((i:Int)+(m:Int) * 1).toNat]?).toArray=((a.toList.drop i).take k).toArray:=by
 have e:(λ(m:Y)=>a[((i:Int)+(m:Int) * 1).toNat]?)=λm=>a[i+m]?:=by
  funext m;have:((i:Int)+(m:Int) * 1).toNat=i+m:=by lia
  rw[this]
 rw[e];have:=pick_run a i k;rw[List.filterMap_map] at this;have e2:((λx=>a[x]?) ∘ λx=>i+x)=λm=>a[i+m]?:=rfl;rw[e2] at this;rw[this]
theorem getItem_tuple_cut {t k:RL}{a:RW B}{n o:B}{lo c:j Int}{Q:B->Ki->Prop}(d:SI s.heap t a)(l:s.heap.IsSliceOf k n o .none)(v:L6 n lo)(x:L6 o c)
  (u:¬(sIx a.size 0 lo=0/\sIx a.size a.size c=a.size))
  (h:Q (.ref s.heap.objs.size) {s with heap:=s.heap.push {cls:=.type "tuple",data:=.seq ((a.toList.drop<|sIx a.size 0 lo).take<|sIx a.size a.size c-sIx a.size 0 lo).toArray}})
  (r:a.size<=sizeLine):RO (Km prog w) A (Mc (.ref t)<|.ref k) Q E s:=by
 have b:sizeOk (.seq ((a.toList.drop (sIx a.size 0 lo)).take (sIx a.size a.size c-sIx a.size 0 lo)).toArray):=by show((a.toList.drop<|sIx a.size 0 lo).take<|sIx a.size a.size c-sIx a.size 0 lo).toArray.size<=sizeLine;rw[KU,Ms,Mg,K6];lia
 have y:sIx a.size a.size c<=a.size:=C9 _ _ (Kt _) c;obtain⟨os,i,f,p⟩:=id l;have e:s.TypeIs (.ref k) "slice":=⟨os,i,f⟩;unfold Mc
 try with_reducible refine Ls ?_
 first|refine Kj (Ko ?_)|skip
 refine Kj<|wpAny_sequenceKey d.typeIs (by decide) ?_
 refine Kj (Mn (name:=Str.ofString "__getitem__") d.typeIs NB
  (LV NB d.typeIs entry_tuple_getitem ?_<|args_tuple_getitem _ _))
 show RO _ _ (Builtin.Tuple.tupleItemsOf (.ref t) >>= _) _ _ s;refine Kj<|tupleItemsOf_ d ?_;refine Kj<|NG e ?_;rw[RJ<|by decide];refine Kj<|sliceApplied_gen l v x ?_;have g:¬((((sIx a.size 0 lo:Y):Int)==0&&(1:Int)==1&&(sIx a.size a.size c-sIx a.size 0 lo)==a.size)=Kh):=by intro q;rw[KS,KS] at q;have z:((sIx a.size 0 lo:Y):Int)=0:=eq_of_beq q.1.1;have D:sIx a.size a.size c-sIx a.size 0 lo=a.size:=eq_of_beq q.2;exact u ⟨by lia,by lia⟩
 show RO _ _ (if(((sIx a.size 0 lo:Y):Int)==0&&(1:Int)==1&&(sIx a.size a.size c-sIx a.size 0 lo)==a.size)=Kh then _ else _) _ _ s;rw[RK g,tj]
 first
  |exact Kj (m:=Builtin.Tuple.tupleExact _)<|LK (Ko ⟨_,rfl,Ko h⟩) b
  |exact Kj (m:=Builtin.Tuple.tupleExact _)<|LK (Kj<|Ko<|Ko ⟨_,rfl,Ko h⟩) b
  |exact Kj<|Kj (m:=Builtin.Tuple.tupleExact _)<|LK (Ko<|Ko ⟨_,rfl,Ko h⟩) b
  |exact Kj<|Kj (m:=Builtin.Tuple.tupleExact _)<|LK (Ko ⟨_,rfl,Ko h⟩) b
end
end HT
namespace L2
open PySem PySem.Spec PyProof.Rows
abbrev TO:=St->Hp->(j Int->Hp->Prop)->Prop
def PO (X:Cx)(e:j RT)(t:TO):Prop:=
 ∀(a:U<|RL×Obj) (s:Ki) (b:St) (H:Hp) (Q:j Int->Hp->Prop),Inv X a b H s->t b H Q ->
  RO (Km X.prog X.w) X.A (evalPart e X.env) (λu d=>∃o c,Inv X a b c d/\L6 u o/\Q o c) X.xe s
def zi:TO:=λ_ H Q=>Q J H
def HS (t:TE):TO:=λb H Q=>t b H λx a=>∃i,x=.int i/\Q (O i) a
section
variable {X:Cx}{e:RT}{te:TE}{lo hi:j RT}{tl th:TO}{pos p2:Pos}
theorem qb:PO X J zi:=by intro a s b H Q I h;rw[evalPart_none];exact Ko ⟨J,H,I,.none,h⟩
theorem qe (h:PE X e te):PO X (O e) (HS te):=by intro a s g H Q I c;rw[evalPart_some];refine thn (h a s g H _ I c) λu k ⟨x,b,I1,f,d⟩=>?_;obtain⟨i,rfl,q⟩:=d;obtain⟨t,rfl⟩:=f;exact⟨O i,b,I1,.int i t,q⟩
def SlR (X:Cx)(r:V->j Int->j Int->Hp->VK->Prop):Prop:=
 ∀(a:U<|RL×Obj) (s:Ki) (f:St) (H:Hp) (x:V) (v c d:B) (lo hi:j Int) (b:RL) (Q:VK),Inv X a f H s->RelV x v->s.heap.IsSliceOf b c d .none->L6 c lo->L6 d hi->r x lo hi H Q ->
  ∃T id,typeLookup (.type T) "__getitem__"=pure (O<|.builtin id)/\s.TypeIs v T/\RO (Km X.prog X.w) X.A (Mc v<|.ref b) (EP X a f Q) X.xe s
theorem SlR.or {r f:V->j Int->j Int->Hp->VK->Prop}(h:SlR X r)(m:SlR X f):SlR X (λx lo hi H Q=>r x lo hi H Q\/f x lo hi H Q):=by
 intro a s l H x v i k lo hi g Q I rx b c d q;rcases q with q|q
 .exact h a s l H x v i k lo hi g Q I rx b c d q
 .exact m a s l H x v i k lo hi g Q I rx b c d q
def tSl (r:V->j Int->j Int->Hp->VK->Prop)(te:TE)(tl th:TO):TE:=λa H Q=>te a H λx b=>tl a b λl c=>th a c λu d=>r x l u d Q
theorem nh {r:V->j Int->j Int->Hp->VK->Prop}(D:SlR X r)(t:PE X e te)(z:PO X lo tl)(G:PO X hi th):PE X (.Subscript e (.Slice lo hi J p2) pos) (tSl r te tl th):=by intro a s d H Q I h;refine Subscript_<|thn (t a s d H _ I h) λv s1 ⟨x,k,I1,r1,N⟩=>?_;refine wpAny_Slice<|thn (z a s1 d k _ I1 N) λf s2 ⟨l,m,I2,L,P⟩=>thn (G a s2 d m _ I2 P) λg c ⟨u,i,n,M,Z⟩=>?_;rw[evalPart_none];refine Ko ?_;have o:Inv X a d i {c with heap:=c.heap.push {cls:=.type "slice",data:=.fields #[f,g,.none]}}:=n.kept (t':=c.toks) λb ob q=>Heap.get?_push_of_some _ q;obtain⟨T,id,p,F,y⟩:=D a {c with heap:=c.heap.push {cls:=.type "slice",data:=.fields #[f,g,.none]}} d i x v f g l u c.heap.objs.size Q o r1 (Heap.IsSliceOf.new ..) L M Z;show RO (Km X.prog X.w) X.A (Ss e (.Slice lo hi J p2) v<|.ref c.heap.objs.size) (EP X a d Q) X.xe {c with heap:=c.heap.push {cls:=.type "slice",data:=.fields #[f,g,.none]}};exact tail_any (ops:=[.ref c.heap.objs.size,v]) F p y<|by with_unfolding_all rfl
def fM (a:U V)(lo hi:j Int):U V:=(a.drop<|HT.sIx a.length 0 lo).take<|HT.sIx a.length a.length hi-HT.sIx a.length 0 lo
theorem cR (a:U V)(lo hi:j Int):(fM a lo hi).length<=a.length:=by unfold fM;rw[Ms,Mg];lia
def Ip (K:Kk):V->j Int->j Int->Hp->VK->Prop:=λx lo hi H Q=>∃a b,x=.ref a/\SqT K H a b /\
 ¬(HT.sIx b.length 0 lo=0/\HT.sIx b.length b.length hi=b.length)/\∀p,H p=J->Q (.ref p) (upd H p<|.tup<|fM b lo hi)
theorem B9:SlR X (Ip X.K):=by
 intro k s z H x v w y lo hi u Q I rx l n p h;obtain⟨a,d,rfl,hx,m,q⟩:=h;cases rx;obtain⟨f,r,g,i⟩:=I.tuple hx;have c:f.toArray.size=d.length:=by rw[KU];exact r.length.symm
 refine⟨"tuple",_,NB.lookup,g.typeIs,?_⟩;refine HT.getItem_tuple_cut g l n p (by rw[c];exact m) ?_ (by rw[c];exact i);rw[c];refine⟨.ref s.heap.objs.size,_,I.laid (t':=s.toks) (o:=.tup<|fM d lo hi) (λb t q=>Heap.get?_push_of_some _ q) (Kt _) ?_,rfl,q _<|I.hok.fresh<|Kt _⟩;exact⟨K0 (cR d lo hi) i,_,(r.drop<|HT.sIx d.length 0 lo).take<|HT.sIx d.length d.length hi-HT.sIx d.length 0 lo,IsTup.new _ _⟩
def Hw (K:Kk):R2:=λx y H Q=>∃a b d c,x=.ref a/\y=.ref b/\SqT K H a d/\SqT K H b c/\d≠[]/\d.length+c.length<=sizeLine /\
 (c=[]->Q (.ref a) H)/\(c≠[]->∀p,H p=J->Q (.ref p) (upd H p<|.tup<|d++c))
theorem Vals.nil_iff {b:U V}{a:U B}(r:Vals b a):a=[] ↔ b=[]:=by
 cases r with
 |nil=>simp
 |cons _ _=>simp
theorem AW:OpR X (Lw .Add) (Hw X.K):=by intro i s G H x y v u Q I rx t h;obtain⟨a,b,A,D,rfl,rfl,k,l,hx,f,p,r⟩:=h;cases rx;cases t;obtain⟨m,d,n,_⟩:=I.tuple k;obtain⟨g,c,p2,_⟩:=I.tuple l;refine HT.cat_tup n p2 (λz=>hx<|d.nil_iff.mp z) (λz=>⟨.ref a,H,I,rfl,p<|c.nil_iff.mp z⟩) (λz=>?_) (by rw[<- d.length,<- c.length];exact f);refine⟨.ref s.heap.objs.size,_,I.laid (t':=s.toks) (o:=.tup<|A++D) (λb F q=>Heap.get?_push_of_some _ q) (Kt _) ?_,rfl,r (λw=>z<|c.nil_iff.mpr w) _<|I.hok.fresh<|Kt _⟩;exact⟨by rw[KJ];exact f,_,d.append c,IsTup.new _ _⟩
end
def ixN (n:Y)(i:Int):j Y:=if 0<=i then(if i<n then O i.toNat else J) else if -(n:Int)<=i then O (i+n).toNat else J
def atI {c:Type}(b:U c)(i:Int):j c:=(ixN b.length i).bind λa=>b[a]?
theorem pJ {n:Y}{i:Int}{a:Y}(h:ixN n i=O a):seqIndex? i n=O a/\a<n/\-(n:Int)<=i/\i<n:=by
 unfold ixN at h;by_cases c:0<=i
 .rw [RJ c] at h;by_cases b:i<n
  .rw [RJ b] at h;have e:i.toNat=a:=K8 h;exact⟨by rw[seqIndex_of c b,e],by lia,by lia,b⟩
  .rw[RK b] at h;cases h
 .rw [RK c] at h;by_cases b:-(n:Int)<=i
  .rw [RJ b] at h;have e:(i+n).toNat=a:=K8 h;exact⟨by rw[Sz (by lia) b,e],by lia,b,by lia⟩
  .rw[RK b] at h;cases h
theorem lq {c:Type}{b:U c}{i:Int}{v:c}(h:atI b i=O v):∃a,seqIndex? i b.length=O a/\b[a]?=O v/\a<b.length/\-(b.length:Int)<=i/\i<b.length:=by
 unfold atI at h;cases e:ixN b.length i with
 |none=>rw[e] at h;cases h
 |some a=>rw[e] at h;obtain⟨d,f,g,k⟩:=pJ e;exact⟨a,d,h,f,g,k⟩
def kh (b:RT):Prop:=∀o i,N8 b Kg o i=operate [o,i] (Mc o i)
def IxR (X:Cx)(r:R2):Prop:=
 ∀(c a:RT) (b:U<|RL×Obj) (s:Ki) (d:St) (H:Hp) (x y:V) (v u:B) (Q:VK),Inv X b d H s->RelV x v->RelV y u->r x y H Q ->
  N8 a Kg v u=operate [v,u] (Mc v u)->RO (Km X.prog X.w) X.A (Ss c a v u) (EP X b d Q) X.xe s
def MtR (X:Cx)(id:R1)(r:V->U V->Hp->VK->Prop):Prop:=
 ∀(a:U<|RL×Obj) (s:Ki) (d:St) (H:Hp) (x:V) (c:U V) (v:B) (b:U B) (Q:VK),Inv X a d H s->RelV x v->Vals c b->r x c H Q ->
  RO (Km X.prog X.w) X.A (call (.builtin id) (v::b)) (EP X a d Q) X.xe s
section
variable {X:Cx}{a b:RT}{ta tb:TE}{pos:Pos}
theorem IxR.or {r g:R2}(h:IxR X r)(l:IxR X g):IxR X (λx y H Q=>r x y H Q\/g x y H Q):=by
 intro d c e s k H x y v u Q I rx i q f;rcases q with q|q
 .exact h d c e s k H x y v u Q I rx i q f
 .exact l d c e s k H x y v u Q I rx i q f
theorem Bx {r:R2}(g:IxR X r)(e:PE X a ta)(f:PE X b tb)(i:kh b):PE X (.Subscript a b pos) (tOp r ta tb):=by intro c s m H Q I h;exact Subscript_<|EH e f I h λv u l x y d I2 rx k q=>g a b c l m d x y v u Q I2 rx k q<|i _ _
def JW (K:Kk):R2:=λx y H Q=>∃p c i v,x=.ref p/\y=.int i/\SqL K H p c/\atI c i=O v/\Q v H
def Jt (K:Kk):R2:=λx y H Q=>∃p c i v,x=.ref p/\y=.int i/\SqT K H p c/\atI c i=O v/\Q v H
def J6:R2:=λx y H Q=>∃z i c,x=.str z/\y=.int i/\z.length<=sizeLine/\atI z.cps.toList i=O c/\Q (.str ⟨#[c]⟩) H
theorem yX:IxR X (JW X.K):=by
 intro o n d s G H x y v u Q I rx ry h F;obtain⟨p,xs,i,z,rfl,rfl,hq,P,q⟩:=h;cases rx;obtain⟨t,rfl⟩:=ry;obtain⟨k,r,l,hz⟩:=I.list hq;obtain⟨c,f,L,h3,M,N⟩:=lq P;obtain⟨w,A,m⟩:=r.get L;have Z:=r.length;have hn:=fO;have e:EP X d G Q w s:=⟨z,H,I,m,q⟩;by_cases D:0<=i
 .have g:i.toNat=c:=by rw[seqIndex_of D N] at f;exact K8 f
  exact item_listR l.isList D (by lia) (by rw[g];simpa using A) e F
 .have g:(i+(k.toArray.size:Int)).toNat=c:=by rw[Sz (by lia) M] at f;rw[KU,<- Z];exact K8 f
  exact Si (x:=w) l.isList.typeIs slot_list_getitem.lookup
   (wpAny_getItem_list_neg (Q:=λr s'=>r=w/\EP X d G Q r s') l.isList (by lia) (by rw[KU]<;>lia) (by lia) (by rw[g];simpa using A) ⟨rfl,e⟩) F
theorem DM:IxR X (Jt X.K):=by
 intro g f c s l H x y v u Q I rx M h G;obtain⟨p,xs,i,z,rfl,rfl,F,A,q⟩:=h;cases rx;obtain⟨t,rfl⟩:=M;obtain⟨L,r,k,hz⟩:=I.tuple F;obtain⟨j,n,o,P,Z,h5⟩:=lq A;obtain⟨w,m,e⟩:=r.get o;have D:=r.length;have hn:=fO;have d:EP X c l Q w s:=⟨z,H,I,e,q⟩
 exact Si (x:=w) k.typeIs slot_tuple_getitem.lookup
  (getItem_tuple (j:=j) (Q:=λr N=>r=w/\EP X c l Q r N) k (by lia) (by lia) (by rw[KU,<- D];exact n) (by simpa using m) ⟨rfl,d⟩) G
theorem C1:IxR X J6:=by
 intro f e k s L H x y v u Q I rx w h r;obtain⟨z,i,c,rfl,rfl,F,o,q⟩:=h;obtain⟨t,rfl⟩:=rx;obtain⟨G,rfl⟩:=w;obtain⟨d,g,l,A,m,n⟩:=lq o;have p:z.cps.toList.length=z.length:=by simp[Str.length]
 rw[p] at g m n;have D:=fO
 exact tail_any (typeIs_str s z t) slot_str_getitem.lookup (getItem_str (c:=c) (by
  have e1:decide (i < -(2 ^ 63:Int))=false:=RR (by lia);have e2:decide (i >= 2 ^ 63)=false:=RR (by lia);rw[e1,e2,Bool.or_false]) (by rw[g];simpa using l) ⟨.str ⟨#[c]⟩,H,I.tok _,⟨_,rfl⟩,q⟩) r
theorem oo (d:U B)(n c:Y)(u:B):Obj.mapSeq (·.setIfInBounds c u) {cls:=.type "list",data:=.seq d.toArray n}={cls:=.type "list",data:=.seq (d.set c u).toArray n}:=by simp[Obj.mapSeq]
theorem Inv.lst {d:U<|RL×Obj}{g:St}{H:Hp}{s:Ki}{p:RL}{f:U V}(I:Inv X d g H s)(h:H p=O (.lst f)):
  ∃(c:U B) (n:Y),Vals f c/\s.heap.get? p=O {cls:=.type "list",data:=.seq c.toArray n}/\f.length<=sizeLine:=by
 obtain⟨z,c,n,r,e⟩:=I.hok p _ h;exact⟨c,n,r,e,z⟩
theorem Inv.lstUpd {d:U<|RL×Obj}{m:St}{H:Hp}{s:Ki}{p:RL}{w k:U V}{g c:U B}{n i:Y}{f:Obj->Obj}(I:Inv X d m H s)(h:H p=O (.lst w))
  (ho:s.heap.get? p=O {cls:=.type "list",data:=.seq g.toArray n}) (l:f {cls:=.type "list",data:=.seq g.toArray n}={cls:=.type "list",data:=.seq c.toArray i}) (r:Vals k c) (v:k.length<=sizeLine) (t:Y):
  Inv X d m (upd H p<|.lst k) {s with heap:=s.heap.update p f,toks:=t}:=by
 have e:(s.heap.update p f).get? p=O {cls:=.type "list",data:=.seq c.toArray i}:=by rw[Heap.get?_update_self f ho<|by rw[l]<;>rfl,l]
 refine I.write (x:=p) (e:=p) (by rw[h];trivial) (.inl rfl) (λb u o q=>(Heap.get?_update_other _ _<|Lg o).trans q) ⟨_,e⟩ ?_;exact⟨v,c,i,r,e⟩
def FE:V->V->V->Hp->(Hp->Prop)->Prop:=λo i v H Q=>∃p d k c,o=.ref p/\i=.int k/\H p=O (.lst d)/\ixN d.length k=O c/\Q (upd H p<|.lst<|d.set c v)
theorem uT:EL X FE:=by
 intro e s L H o i v P iv u Q I D A F h;obtain⟨p,G,k,c,rfl,rfl,hp,y,q⟩:=h;cases D;obtain⟨t,rfl⟩:=A;obtain⟨d,n,r,ho,z⟩:=I.lst hp;obtain⟨f,M,w,x⟩:=pJ y;have g:=r.length;have N:=fO
 have l:Inv X e L (upd H p (.lst (G.set c v))) {s with heap:=s.heap.update p<|Obj.mapSeq (·.setIfInBounds c u)}:=
  I.lstUpd hp ho (oo d n c u) (r.set F c) (by rw[KZ];exact z) s.toks
 by_cases m:0<=k
 .have hk:k.toNat=c:=by rw[seqIndex_of m x] at f;exact K8 f
  exact PySem.W.ki_setAt ho m (by lia) (by rw[KU,<- g];exact x)<|by rw[hk];exact⟨_,l,q⟩
 .have hk:(k+(d.toArray.size:Int)).toNat=c:=by rw[Sz (by lia) w] at f;rw[KU,<- g];exact K8 f
  exact PySem.W.ki_setBack ho (by lia) (by rw[KU,<- g];exact w) (by lia)<|by rw[hk];exact⟨_,l,q⟩
theorem k6 (lo c:j Int)(n:Y):(MQ lo c J n).1=((HT.sIx n 0 lo:Y):Int)/\(MQ lo c J n).2.1=((HT.sIx n n c:Y):Int)/\(MQ lo c J n).2.2=1:=by
 refine⟨?_,?_,rfl⟩
 .cases lo with
  |none=>simp[MQ,HT.sIx]
  |some i=>
   simp only[MQ,HT.sIx,Pu,show(1:Int)>0 by decide,Sn];by_cases h:i<0
   .simp only[h,Sn]<;>lia
   .simp only[h,if_false]<;>lia
 .cases c with
  |none=>simp[MQ,HT.sIx]
  |some i=>
   simp only[MQ,HT.sIx,Pu,show(1:Int)>0 by decide,Sn];by_cases h:i<0
   .simp only[h,Sn]<;>lia
   .simp only[h,if_false]<;>lia
theorem jh (c:U B)(lo d:j Int):slicePick c.toArray lo d J=((c.drop<|HT.sIx c.length 0 lo).take<|HT.sIx c.length c.length d-HT.sIx c.length 0 lo).toArray:=by obtain⟨e,f,g⟩:=k6 lo d c.toArray.size;unfold slicePick;rw[e,f,g];simp only[sliceRange_one,pick_run,KU]<;>rfl
def zW (K:Kk):V->j Int->j Int->Hp->VK->Prop:=λx lo d H Q=>∃a c,x=.ref a/\SqL K H a c/\∀p,H p=J->Q (.ref p) (upd H p<|.lst<|fM c lo d)
theorem sl_list:SlR X (zW X.K):=by intro g s y H x v u w lo e t Q I rx i m n h;obtain⟨a,c,rfl,hx,q⟩:=h;cases rx;obtain⟨l,r,f,k⟩:=I.list hx;have d:=r.length;refine⟨"list",_,slot_list_getitem.lookup,f.isList.typeIs,?_⟩;refine wpAny_getItem_list_slice f.isList i m n .none (by simp) ?_ (by rw[KU]<;>lia);rw[jh,<- d];refine⟨.ref s.heap.objs.size,_,I.laid (t':=s.toks) (o:=.lst<|fM c lo e) (λb p q=>Heap.get?_push_of_some _ q) (Kt _) ?_,rfl,q _<|I.hok.fresh<|Kt _⟩;exact⟨K0 (cR c lo e) k,_,0,(r.drop<|HT.sIx c.length 0 lo).take<|HT.sIx c.length c.length e-HT.sIx c.length 0 lo,Heap.get?_push_size _ rfl⟩
def eM:V->RN
|.non=>Kh
|.bl _=>Kh
|.int _=>Kh
|.str _=>Kh
|_=>Kg
noncomputable def eqV:V->V->RN
|.non,.non=>Kh
|.bl a,.bl b=>a==b
|.bl a,.int b=>(if a then 1 else 0)==b
|.int a,.bl b=>a==(if b then 1 else 0)
|.int a,.int b=>a==b
|.str a,.str b=>a==b
|_,_=>Kg
theorem Dm {A:KO}{s:Ki}{y x:V}{u v:B}(e:RelV y u)(rx:RelV x v)(f:eM y=Kh)(d:eM x=Kh):SeqAt.EqAt A s u v (eqV y x):=by
 cases y with
 |non=>
  cases e;cases x with
  |non=>cases rx;exact SeqAt.EqAt.same _
  |bl b=>cases rx;exact SeqAt.EqAt.none_bool b
  |int b=>obtain⟨t,rfl⟩:=rx;exact SeqAt.EqAt.none_int b t
  |str b=>obtain⟨t,rfl⟩:=rx;exact SeqAt.EqAt.none_str b t
  |_=>exact RM (show Kg=Kh from d) KH
 |bl a=>
  cases e;cases x with
  |non=>cases rx;exact SeqAt.EqAt.bool_none a
  |bl b=>cases rx;exact SeqAt.EqAt.bool_bool a b
  |int b=>obtain⟨t,rfl⟩:=rx;exact SeqAt.EqAt.bool_int a b t
  |str b=>obtain⟨t,rfl⟩:=rx;exact SeqAt.EqAt.bool_str a b t
  |_=>exact RM (show Kg=Kh from d) KH
 |int a=>
  obtain⟨c,rfl⟩:=e;cases x with
  |non=>cases rx;exact SeqAt.EqAt.int_none a c
  |bl b=>cases rx;exact SeqAt.EqAt.int_bool a c b
  |int b=>obtain⟨t,rfl⟩:=rx;exact SeqAt.EqAt.int_int a c b t
  |str b=>obtain⟨t,rfl⟩:=rx;exact SeqAt.EqAt.int_str a c b t
  |_=>exact RM (show Kg=Kh from d) KH
 |str a=>
  obtain⟨c,rfl⟩:=e;cases x with
  |non=>cases rx;exact SeqAt.EqAt.str_none a c
  |bl b=>cases rx;exact SeqAt.EqAt.str_bool a c b
  |int b=>obtain⟨t,rfl⟩:=rx;exact SeqAt.EqAt.str_int a c b t
  |str b=>obtain⟨t,rfl⟩:=rx;exact SeqAt.EqAt.str_str a c b t
  |_=>exact RM (show Kg=Kh from d) KH
 |_=>exact RM (show Kg=Kh from f) KH
def eqU (x:V)(u:B):RN:=match u with
|.none=>eqV .non x
|.bool b=>eqV (.bl b) x
|.int i _=>eqV (.int i) x
|.str z _=>eqV (.str z) x
|_=>Kg
theorem xt {x y:V}{u:B}(r:RelV y u)(f:eM y=Kh):eqU x u=eqV y x:=by
 cases y with
 |non=>cases r;rfl
 |bl b=>cases r;rfl
 |int i=>obtain⟨t,rfl⟩:=r;rfl
 |str z=>obtain⟨t,rfl⟩:=r;rfl
 |_=>exact RM (show Kg=Kh from f) KH
theorem ko {x:V}:∀{c:U V} {d:U B},Vals c d->c.all eM=Kh->d.any (eqU x)=c.any λy=>eqV y x
|_,_,.nil,_=>rfl
|y::c,u::d,.cons r t,f=>by rw[Ox,KS] at f;rw[MY,MY,xt r f.1,ko t f.2]
theorem iZ {A:KO}{s:Ki}{x:V}{v:B}(rx:RelV x v)(g:eM x=Kh):∀{e:U V} {d:U B},Vals e d->e.all eM=Kh->∀u∈d,SeqAt.EqAt A s u v<|eqU x u
|_,_,.nil,_=>λu c=>by cases c
|y::e,u::d,.cons r t,f=>λh c=>by
 rw[Ox,KS] at f;rcases KD.mp c with rfl|c
 .rw[xt r f.1];exact Dm r rx f.1 g
 .exact iZ rx g t f.2 h c
def inV (x:V)(c:U V):RN:=c.any λy=>eqV y x
def rIn (K:Kk)(d:RN):R2:=λx y H Q=>∃p c,y=.ref p/\(SqL K H p c\/SqT K H p c)/\eM x=Kh/\c.all eM=Kh/\Q (.bl<|if d then !inV x c else inV x c) H
theorem rY:OpR X (LC .In) (rIn X.K Kg):=by
 intro i s n H x y v u Q I rx l h;obtain⟨p,m,rfl,d,g,fs,q⟩:=h;cases l;rcases d with d|d
 .obtain ⟨c,r,f,k⟩:=I.list d;refine SeqAt.in_listAt (eqU x) f.isList (λw e=>iZ rx g r fs w<|by simpa using e) ⟨.bl _,H,I,rfl,?_⟩;rw[show c.toArray.any (eqU x)=c.any (eqU x) by simp,ko r fs];exact q
 .obtain ⟨c,r,f,k⟩:=I.tuple d;refine SeqAt.in_tupleAt (eqU x) f (λw e=>iZ rx g r fs w<|by simpa using e) ⟨.bl _,H,I,rfl,?_⟩;rw[show c.toArray.any (eqU x)=c.any (eqU x) by simp,ko r fs];exact q
theorem kN:cy X (.type "list") (λG H Q=>∃p i,G=[.ref p]/\(SqL X.K H p i\/SqT X.K H p i)/\∀l,H l=J->Q (.ref l) (upd H l<|.lst i)):=by
 intro y s L H G M Q I r h;obtain⟨p,i,rfl,t,q⟩:=h;obtain⟨u,rfl,rx⟩:=c5 r;cases rx
 have k:∀(c:U B),Vals i c->i.length<=sizeLine->∀(d:RU) (f:Y),(∀b F,s.heap.get? b=O F->d.get? b=O F) ->
   d.get? s.heap.objs.size=O {cls:=.type "list",dict:=J,data:=.seq c.toArray f,slots:=#[]}->EP X y L Q (.ref s.heap.objs.size) {s with heap:=d}:=λc g v d f x e=>
  ⟨.ref s.heap.objs.size,_,I.laid (t':=s.toks) x (Kt _)<|show ObjOk X.prog X.w _ d _ (.lst i) from⟨v,c,f,g,e⟩,rfl,q _<|I.hok.fresh<|Kt _⟩
 rcases t with t|t
 .obtain ⟨c,g,D,v⟩:=I.list t;have m:=g.length;obtain⟨o,ho,z,n,A⟩:=D.isList;exact call_list_seq p (.inl rfl) ho z A (λd f x e=>k c g v d f x e)<|by simp only[KU]<;>lia
 .obtain ⟨c,g,D,v⟩:=I.tuple t;have m:=g.length;obtain⟨o,ho,z,n,A⟩:=D;exact call_list_seq p (.inr rfl) ho z A (λd f x e=>k c g v d f x e)<|by simp only[KU]<;>lia
theorem jq:cy X (.type "tuple") (λv H Q=>∃p f,v=[.ref p]/\((SqL X.K H p f/\∀l,H l=J->Q (.ref l) (upd H l<|.tup f))\/(SqT X.K H p f/\Q (.ref p) H))):=by
 intro c s x H v z Q I r h;obtain⟨p,f,rfl,h⟩:=h;obtain⟨u,rfl,rx⟩:=c5 r;cases rx;rcases h with⟨i,q⟩|⟨i,q⟩
 .obtain ⟨d,m,k,t⟩:=I.list i;have n:=m.length;refine call_tuple_list k.isList (λg y=>?_) (by simp only[KU]<;>lia);have I1:Inv X c x H {s with heap:=g}:=I.kept (t':=s.toks) y
  have I2:Inv X c x (upd H g.objs.size (.tup f)) {s with heap:=g.push {cls:=.type "tuple",data:=.seq d.toArray}}:=
   I1.laid (t':=s.toks) (λb o e=>Heap.get?_push_of_some _ e) (Kt _) (show ObjOk X.prog X.w _ _ _ (.tup f) from⟨t,d,m,IsTup.new _ _⟩)
  exact⟨.ref g.objs.size,_,I2,rfl,q _<|I1.hok.fresh<|Kt _⟩
 .obtain ⟨d,m,k,t⟩:=I.tuple i;exact call_tuple_same k ⟨.ref p,H,I,rfl,q⟩
def tyV (K:Kk)(T:R1)(x:V)(H:Hp):Prop:=match x with
|.str _=>T="str"
|.int _=>T="int"
| .ref p=>(T="list"/\∃ d,SqL K H p d)\/(T="tuple"/\∃ o,K.lookup p=O o/\o.cls=.type "tuple"/\o.dict=J) \/
  (T="dict"/\((∃c,H p=O (.dK c))\/∃c,H p=O (.dT c)))\/(T="set"/\∃S n,H p=O (.set S n))
|_=>RX
theorem wK {f:U<|RL×Obj}{y:St}{H:Hp}{s:Ki}{T:R1}{x:V}{v:B}(I:Inv X f y H s)(r:RelV x v)(ty:tyV X.K T x H):
  s.TypeIs v T/\∀a,v=.ref a->∃k,s.heap.get? a=O k/\k.dict=none:=by
 cases x with
 |str z=>obtain⟨t,rfl⟩:=r;cases(show T="str" from ty);exact⟨typeIs_str s z t,λ_ e=>nomatch e⟩
 |int i=>obtain⟨t,rfl⟩:=r;cases(show T="int" from ty);exact⟨ND s i t,λ_ e=>nomatch e⟩
 | ref p =>
  cases r;rcases ty with⟨rfl,A,u⟩|⟨rfl,o,hk,m,g⟩|⟨rfl,hk⟩|⟨rfl,S,n,hk⟩
  .obtain ⟨w,_,l,_⟩:=I.list u;refine⟨l.isList.typeIs,λa e=>?_⟩;cases e;obtain⟨o,n,e,c,g,_⟩:=l;exact⟨o,e,g⟩
  .refine ⟨⟨o,I.kIn p o hk,m⟩,fun a e=>?_⟩;cases e;exact⟨o,I.kIn _ o hk,g⟩
  .have z:∃ o,s.heap.get? p=O o/\o.ExactDict:=by
    rcases hk with⟨h,hk⟩|⟨h,hk⟩
    .obtain ⟨_,_,_,_,o,_,_,e,d,_⟩:=I.hok p _ hk;exact⟨o,e,d⟩
    .obtain ⟨_,_,_,_,o,_,_,e,d,_⟩:=I.hok p _ hk;exact⟨o,e,d⟩
   obtain⟨o,e,d⟩:=z;refine⟨⟨o,e,d.1⟩,λa e2=>?_⟩;cases e2;exact⟨o,e,d.2.1⟩
  .obtain ⟨o,_,_,_,e,d,_⟩:=I.hok p _ hk;refine⟨⟨o,e,d.1⟩,λa e2=>?_⟩;cases e2;exact⟨o,e,d.2.1⟩
 |_=>exact Mh ty
def IW (K:Kk)(T:R1)(r:V->U V->Hp->VK->Prop)(to:TE):TE:=λd H Q=>to d H λx c=>tyV K T x c/\r x [] c Q
def tBM (K:Kk)(T:R1)(r:V->U V->Hp->VK->Prop)(to:TE)(t:TA):TE:=λd H Q=>to d H λx c=>tyV K T x c/\t d c λf e=>r x f e Q
variable {o e:RT}{es:U RT}{to:TE}{t:TA}{name:Str}{apos cpos:Pos}{T id:R1}{r:V->U V->Hp->VK->Prop}
theorem sZ (w:PlainAttrs T)(g:Slot T name id)(i:typeOf (.builtin id)=pure (.type "method_descriptor"))(u:MtR X id r)(ho:PE X o to)
  (d:MC o name X.env (RV o X.env)=RV o X.env:=by rfl) (f:(apos.endLine==cpos.line)=true:=by rfl):PE X (.Call (.Attribute o name apos) [] [] cpos) (IW X.K T r to):=by
 intro c s l H Q I h;refine wpAny_Call_method0_late d f<|thn (ho c s l H _ I h) λv z ⟨x,m,I1,k,ty,y⟩=>?_;obtain⟨n,p⟩:=wK I1 k ty;exact⟨T,id,w,g,i,n,p,Calls.callWith_builtin rfl (PySem.evalArgs_none<|u c z l m x [] v [] Q I1 k .nil y)⟩
theorem pB (G:PlainAttrs T)(k:Slot T name id)(l:typeOf (.builtin id)=pure (.type "method_descriptor"))(D:MtR X id r)(ho:PE X o to)(A:PA X (e::es) t)
  (f:MC o name X.env (RV o X.env)=RV o X.env:=by rfl)
  (i:((KQ cpos<|Kl (e::es) X.env).all (λx=>!x.1)&&(SD cpos<|NF [] X.env).all (λx=>x.1.isSome)
  &&decide ((e::es).length+([]:U L7).length+(if([]:U L7).isEmpty then 0 else 1)<30))=true:=by rfl)
  (g:(apos.endLine==cpos.line)=true:=by rfl) (F:Kl (e::es) X.env=(Kg,RV e X.env)::Kl es X.env:=by rfl) (d:(KQ cpos<|Kl es X.env).any (·.1)=false:=by rfl):
  PE X (.Call (.Attribute o name apos) (e::es) [] cpos) (tBM X.K T r to t):=by
 intro c s m H Q I h;refine wpAny_Call_method_late f i g rfl (thn (ho c s m H _ I h) λv P ⟨x,u,I1,p,ty,L⟩=>?_);obtain⟨y,z⟩:=wK I1 p ty;refine⟨T,id,G,k,l,y,z,?_⟩;have n:=A cpos c P m u _ I1 L;rw[F] at n ⊢;refine Calls.callWith_builtin (by show(Kg || (KQ cpos<|Kl es X.env).any (·.1))=Kg;rw[d]<;>rfl)<|Calls.evalArgs_plain ?_;exact thn n λus Z ⟨vs,w,I2,N,M⟩=>D c Z m w x vs v us Q I2 p N M
end
def MtM (X:Cx)(id:R1)(r:V->U V->Hp->VK->Prop):Prop:=
 ∀(a:U<|RL×Obj) (s:Ki) (d:St) (H:Hp) (x:V) (c:U V) (v:B) (b:U B) (Q:VK),Inv X a d H s->RelV x v->Vals c b->r x c H Q ->
  RO (Km X.prog X.w) X.A (call (.builtin id) (v::b)) (EP X a d Q) X.xe s
theorem Vals.one:∀{x:V} {a:U B},Vals [x] a->∃u,a=[u]/\RelV x u
|_,_,.cons r .nil=>⟨_,rfl,r⟩
theorem Vals.zero:∀{a:U B},Vals [] a->a=[]
|_,.nil=>rfl
theorem Vals.dropLast {b:U V}{a:U B}(h:Vals b a):Vals b.dropLast a.dropLast:=by
 induction h with
 |nil=>exact .nil
 |cons r t c=>
  cases t with
  |nil=>exact .nil
  |cons q d=>exact .cons r c
theorem Vals.eraseIdx:∀{b:U V} {a:U B} (i:Y),Vals b a->Vals (b.eraseIdx i) (a.eraseIdx i)
|_,_,_,.nil=>.nil
|_,_,0,.cons _ t=>t
|_,_,i+1,.cons r t=>.cons r<|Vals.eraseIdx i t
theorem Vals.rep {b:U V}{a:U B}(h:Vals b a):∀k:Y,Vals (Ky k b).flatten (Ky k a).flatten
|0=>.nil
|k+1=>by rw[Mj,Mj,NS,NS];exact Vals.append h<|Vals.rep h k
theorem om {d:Type}(l:U d):l.eraseIdx (l.length-1)=l.dropLast:=by
 induction l with
 |nil=>rfl
 | cons a r c =>
  cases r with
  |nil=>rfl
  | cons b r =>
   have e:(a::b::r).length-1=((b::r).length-1)+1:=by have f:(a::b::r).length=r.length+2:=rfl;have g:(b::r).length=r.length+1:=rfl;lia
   rw[e,List.eraseIdx_cons_succ,c]
   all_goals rfl
theorem jS {a:Type}:∀(l:U a) (i:Y),(l.eraseIdx i).length<=l.length
|[],_=>Kt _
|_::_,0=>Nf _
|_::r,i+1=>Pt<|jS r i
theorem jZ (b:U B):∀(k:Y) (a:U B),
 OP (λc d=>c++d) a.toArray (Ky k b.toArray)=(a++(Ky k b).flatten).toArray
|0,a=>by simp
| k+1,a=>by
 have e:a.toArray++b.toArray=(a++b).toArray:=by simp
 have e2:(a++b)++(Ky k b).flatten=a++(Ky (k+1) b).flatten:=by rw[Mj,NS,Ll]
 rw[<- e2,<- jZ b k (a++b),<- e,Mj,Nw]
section
variable {X:Cx}{pins:U (RL×Obj)}{σ:St}{H:Hp}{s:Ki}{l b:RL}{xs ys zs:U V}
theorem Inv.lset {a its':U B}{n:Y}{f:RW B->RW B}{m:Y}(I:Inv X pins σ H s)(c:H l=O (.lst xs))
  (e:s.heap.get? l=O {cls:=.type "list",data:=.seq a.toArray n}) (g:f a.toArray=its'.toArray) (i:Vals ys its') (k:ys.length<=sizeLine):
  Inv X pins σ (upd H l<|.lst ys) {s with heap:=s.heap.update l<|Obj.mapSeq f,toks:=m}:=by
 have q:=PySem.IsL.update e f;rw[g] at q;refine I.write (x:=l) (e:=l) (by rw[c];exact trivial) (.inl rfl) (λo u d h=>(Heap.get?_update_other s.heap (Obj.mapSeq f)<|Lg d).trans h) ⟨_,q⟩ ?_;exact⟨k,its',_,i,q⟩
theorem Inv.lnew {a:U B}{t':Y}(I:Inv X pins σ H s)(c:Vals ys a)(d:ys.length<=sizeLine):
  Inv X pins σ (upd H s.heap.objs.size<|.lst ys) {s with heap:=s.heap.push {cls:=.type "list",data:=.seq a.toArray},toks:=t'}:=
 I.laid (λ_ _ q=>Heap.get?_push_of_some _ q) (Kt _) ⟨d,a,0,c,Heap.get?_push_size _ rfl⟩
theorem Inv.fresh (I:Inv X pins σ H s):H s.heap.objs.size=none:=I.hok.fresh<|Kt _
theorem Inv.lstM (I:Inv X pins σ H s)(c:H l=O (.lst xs)):xs.length<=sizeLine/\∃(a:U B) (n:Y),Vals xs a/\xs.length=a.length/\s.heap.get? l=O {cls:=.type "list",data:=.seq a.toArray n}:=by obtain⟨z,a,n,r,e⟩:=I.hok l _ c;exact⟨z,a,n,r,r.length,e⟩
theorem uf {n:Y}(h:n<=sizeLine):Builtin.List.listTooLong n=false:=by unfold Builtin.List.listTooLong;exact RR<|by lia
end
section
variable {X:Cx}
def Ab:V->U V->Hp->VK->Prop:=λx b H Q=>∃l a y,x=.ref l/\b=[y]/\H l=O (.lst a)/\a.length<sizeLine/\Q .non (upd H l<|.lst<|a++[y])
theorem jP:MtM X "list.append" Ab:=by intro c s p H x m v k Q I rx f h;obtain⟨l,o,y,rfl,rfl,b,i,q⟩:=h;cases rx;obtain⟨u,rfl,d⟩:=f.one;obtain⟨z,a,n,r,g,e⟩:=I.lstM b;refine ML F.slot_list_append ⟨_,e,rfl⟩ F.entry_list_append (F.args_list_append_2 _ _) (PySem.list_append l a.toArray n u<|by rw[KU];lia) ⟨e,?_⟩;refine⟨.non,_,I.lset (its':=a++[u]) b e (by simp) (r.append<|.cons d .nil) ?_,rfl,q⟩;rw[KJ,Lf];lia
def J5:V->U V->Hp->VK->Prop:=λx b H Q=>∃l a y,x=.ref l/\b=[]/\H l=O (.lst a)/\a[a.length-1]?=O y/\Q y (upd H l<|.lst a.dropLast)
theorem Cb:MtM X "list.pop" J5:=by
 intro f s A H x t v p Q I rx o h;obtain⟨l,w,y,rfl,rfl,d,k,q⟩:=h;cases rx;have b:=o.zero;subst b;obtain⟨z,a,n,r,g,e⟩:=I.lstM d;obtain⟨u,i,m⟩:=r.get k;have c:a.toArray[a.toArray.size-1]?=O u:=by show a.toArray[a.length-1]?=O u;rw[<- Nl,<- g];exact i
 refine ML F.slot_list_pop ⟨_,e,rfl⟩ F.entry_list_pop (F.args_list_pop_1 _) (MeetsSeq.list_pop_last l a.toArray n u c<|by rw[KU];lia) ⟨e,?_⟩;refine⟨y,_,I.lset (its':=a.dropLast) d e ?_ r.dropLast ?_,m,q⟩
 .show a.toArray.eraseIdxIfInBounds (a.toArray.size-1)=a.dropLast.toArray;rw[KU,Rf,om]
 .rw [List.length_dropLast];lia
def Dc:V->U V->Hp->VK->Prop:=λx b H Q=>∃l a i k y,x=.ref l/\b=[.int i]/\H l=O (.lst a)/\-(2 ^ 63)<=i/\i<2 ^ 63/\seqIndex? i a.length=O k/\a[k]?=O y/\Q y (upd H l<|.lst<|a.eraseIdx k)
theorem uV:MtM X "list.pop" Dc:=by
 intro d s N H x M v L Q I rx D h;obtain⟨l,G,i,k,y,rfl,rfl,c,f,g,hk,p,q⟩:=h;cases rx;obtain⟨u,rfl,A⟩:=D.one;obtain⟨t,rfl⟩:=A;obtain⟨z,a,n,r,m,e⟩:=I.lstM c;obtain⟨w,o,b⟩:=r.get p
 refine ML F.slot_list_pop ⟨_,e,rfl⟩ F.entry_list_pop (F.args_list_pop_2 _ _)
  (MeetsSeq.list_pop_at l a.toArray n i t k w (fitsIndex_both f g) (by rw[KU,<- m];exact hk) (by rw[<- Nl];exact o)<|by rw[KU];lia) ⟨e,?_⟩
 refine⟨y,_,I.lset (its':=a.eraseIdx k) c e ?_ (r.eraseIdx k) ?_,b,q⟩
 .show a.toArray.eraseIdxIfInBounds k=(a.eraseIdx k).toArray;rw[Rf]
 .have:=jS G k;lia
def Gu:R2:=λx y H Q=>∃l b a c,x=.ref l/\y=.ref b/\H l=O (.lst a)/\H b=O (.lst c)/\a.length+c.length<=sizeLine/\∀p,H p=J->Q (.ref p) (upd H p<|.lst<|a++c)
theorem op_cat:OpR X (Lw .Add) Gu:=by
 intro d s G H x y v u Q I rx o h;obtain⟨l,b,A,F,rfl,rfl,i,g,t,q⟩:=h;cases rx;cases o;obtain⟨z,c,n,r,p,e⟩:=I.lstM i;obtain⟨D,a,w,m,k,e2⟩:=I.lstM g;refine PySem.P.add_list e e2 ?_ (by rw[KU,KU];lia);have f:c.toArray++a.toArray=(c++a).toArray:=by simp
 rw[f];exact⟨.ref _,_,I.lnew (t':=s.toks) (r.append m)<|by rw[KJ];lia,rfl,q _ I.fresh⟩
def EY:R2:=λx y H Q=>∃l k a,x=.ref l/\y=.int k/\H l=O (.lst a)/\-(2 ^ 63)<=k/\k<2 ^ 63/\a.length * k.toNat<=sizeLine /\
 ∀p,H p=J->Q (.ref p) (upd H p<|.lst (Ky k.toNat a).flatten)
theorem xZ {c:Type}(a:U c)(k:Y):(Ky k a).flatten.length=k * a.length:=by
 induction k with
 |zero=>simp
 |succ k b=>rw[Mj,NS,KJ,b,Nat.succ_mul,MV]
theorem CI:OpR X (Lw .Mult) EY:=by
 intro A s σ H x y v u Q I rx P h;obtain⟨l,k,xs,rfl,rfl,M,G,L,w,q⟩:=h;cases rx;obtain⟨t,rfl⟩:=P;obtain⟨z,b,n,r,N,e⟩:=I.lstM M;have g:b.toArray.size * k.toNat<=sizeLine:=by rw[KU,<- N];exact w
 have d:¬b.toArray.size * k.toNat>(2 ^ 63-1) / 8:=by
  have:(sizeLine:Y)<=(2 ^ 63-1) / 8:=by decide
  lia
 have f:¬(!Builtin.List.listFitsIndex k)=true:=by rw[fitsIndex_both G L];exact KH
 have c:¬Builtin.List.listTooLong (b.toArray.size * k.toNat)=true:=by rw[uf g];exact KH
 have i:OP (λo p=>o++p) #[] (Ky (if b.toArray.isEmpty=Kh then 0 else k.toNat) b.toArray)=(Ky k.toNat b).flatten.toArray:=by
  have D:∀m:Y,OP (λo p=>o++p) #[] (Ky m b.toArray)=(Ky m b).flatten.toArray:=λm=>by have:=jZ b m [];rw[Lq] at this;exact this
  rw[D];cases b with
  |nil=>simp
  |cons a r'=>rw[RK<|by simp]
 refine wpAny_binaryOp_repeat_ref (T:="list") (U:="int") (by decide) ⟨_,e,rfl⟩ (λZ=>ND Z k t) noFill_list_mul F.fills_int_mul F.slot_int_rmul repeat_list F.slot_int_index.lookup
  (ML F.slot_int_rmul (ND s k t) F.entry_int_rmul (F.args_int_rmul_2 _ _) (int___rmul___int_list k t l b.toArray n)
   ⟨e,rfl,⟨_,e,rfl⟩,ML F.slot_list_mul ⟨_,e,rfl⟩ F.entry_list_mul (F.args_list_mul_2 _ _) (AutoListH.list___mul___list_int_3 l b.toArray n k t f d c) ⟨e,?_⟩⟩)
 rw[i];exact⟨.ref _,_,I.lnew (t':=s.toks) (r.rep k.toNat)<|by rw[xZ,Of];exact w,rfl,q _ I.fresh⟩
end
end L2
namespace Att
open PySem PySem.W PySem.Calls PyProof.Rows
theorem gq {P:Lk}{h:RU}:∀(c:U Int) (d:U B),WellAll P h d (c.map WData.int)->Sa d c:=by
 intro c;induction c with
 |nil=>intro d w;rw[Nh] at w;cases w;exact .nil
 | cons n c e =>
  intro d w;rw[K2] at w;cases w with
  |cons a b=>cases a;exact .cons _ _<|e _ b
theorem r6 {l:OpenLaw}{n:Y}(v:l.most=O n){P:Lk}{h:RU}{args:U WData}{vals:U B}
  (c:l.row.toRowW.claim.pre args=Kh) (m:WellAll P h vals args):
  ∃a p b,vals=[Value.ref a]/\args=[WData.list<|b.map WData.int]/\h.get? a=O {cls:=.type "list",data:=.seq p.toArray}/\Sa p b/\b.length<=n:=by
 have k:WShape.hasAll [] args [.list .int]=true:=(pre_splitW c).1;have o:l.pre.holds [] {args:=args}=true:=(pre_splitW c).2;obtain⟨d,r,rfl,s,t⟩:=hasAllW_cons k;obtain rfl:=hasAllW_nil t;obtain⟨z,rfl,u⟩:=hasW_list s;obtain⟨b,rfl⟩:=items_int u
 have f:b.length<=n:=by
  unfold OpenLaw.pre at o;have g:(WTm.not (.lt (.lit (.int (n:Int))) (.len (.arg 0)))).holds [] {args:=[.list<|b.map .int]}=true:=by have g:=(holds_andW o).1;rw[v] at g;exact g
  have i:=condW_of g<|w_not<|w_lt w_lit<|w_len_list<|w_arg rfl;rw[Kr] at i;refine Qc λq=>?_;have w:(n:Int)<((b.length:Y):Int):=by lia
  first
   |(rw[RI w] at i;exact RM i<|by decide)
   |(simp at i;lia)
 cases m with
 |cons x y=>
  cases y;cases x with
  |list ho e=>exact⟨_,_,b,rfl,rfl,ho,gq b _ e,f⟩
theorem rD (l:OpenLaw)(args:U WData):l.row.toRowW.claim.post args (.bool Kh) args=true:=
 postW_of (r:=l.row.toRowW) (X:=(Kh==Kh))
  (show WShape.has [] (.bool Kh) .bool=Kh by first|rfl|decide|simp[WShape.has,WShape.arms,WShape.armsAll])
  (show(WTm.eq .res<|.lit<|.bool Kh).value [] {args:=args,res:=O<|.bool Kh,after:=args}=O (.bool<|Kh==Kh) from w_eq_bool (w_res rfl) w_lit) rfl
theorem attach_call {l:OpenLaw}{n:Y}{q:RS}{e:U Str}{M:(Str->j B)->RU->Prop}{N:Ks->RU->Prop}{d:DefRec}
  (hn:l.most=O n) (D:d.params.defaults=[])
  (call:∀ (w:Ks) (g c:Ki) (x I:Str->j B) (m:RL) (o:Obj) (L v h:B) (a:RL) (k:U B) (y:U Int),
   Ground q e [] M w g x I c.heap->N w c.heap ->
   c.heap.get? m=O o->o.data=.func (docDef d.name d.params d.body d.scope L v h)->c.heap.CodeRec v d.name->x d.name=O (.ref m) ->
   c.heap.get? a=O {cls:=.type "list",data:=.seq k.toArray}->Sa k y->y.length<=n->c.gens=#[] ->
   Lp (Km l.prog w) Mx (.call (.ref m) ⟨[.ref a],[]⟩) (λr z=>r=.ok (.ret<|.bool Kh)/\OldK c.heap z.heap/\z.os=c.os/\Mm z.gens) c):
  WalkO q e M N l.row.toRowW d [] (λf k=>ON f k):=by
 intro w g c x I G b m o L v h dV kV ho hd A Q F hg P vals as u Z hrd H hlo;obtain rfl:dV=.none:=Dflts.none Q D;obtain rfl:kV=.none:=Dflts.noKw Q;obtain⟨a,k,y,rfl,rfl,t,i,p⟩:=r6 hn u H;refine enter_call<|NZ (call w g c x I m o L v h a k y G b ho (fd_plain hd) A F t i p hg) λr z hq=>?_;obtain⟨rfl,h2,h3,h4⟩:=hq;exact⟨.inl ⟨.bool Kh,.bool Kh,[],rfl,λ_=>rfl,.bool Kh,rD l _,λ_=>⟨Q7,λ_ hm=>(nomatch hm)⟩⟩,h2,h3,h4⟩
end Att
namespace L2
open PySem PySem.Spec PyProof.Rows
theorem bS:∀{b:U B} {a:U Int},Sa b a->Vals (a.map V.int) b
|_,_,.nil=>.nil
|_,_,.cons n t h=>.cons ⟨t,rfl⟩<|bS h
def uJ (H:Hp):Prop:=∀b,H b=J\/∃o a,H b=O (.frz o<|.lst a)
theorem uF {P:RS}{w:Ks}{K:Kk}{Q mb:Str->j B}{CX:CXT}{k:Y}{fa a:RL}{fd:LF}{x:Str}{sp:Sp}{c:Ki}{y:U B}{Z:U Int}
  (KX:K.In c.heap) (I:c.heap.Ns K3 Q) (g:c.heap.Ns builtinsNs mb) (hbb:∀x:Str,x≠"__name__"->mb x=L8 x) (G:c.heap.NoLimit) (hg:c.gens=#[])
  (ha:c.heap.get? a=O {cls:=.type "list",data:=.seq y.toArray}) (hi:Sa y Z) (hl:Z.length<=sizeLine) (hr:Room k Mx)
  (F:∀i:RU,K.In i->i.Ns K3 Q->fI P w K Q i CX k fa fd [x] sp) (t:∀(s:Ki) (u:B),My s fd ⟨[u],[]⟩ [(x,u)])
  (hsp:∀H:Hp,uJ H->SqL K H a (Z.map V.int)->sp [.ref a] H (λv _=>v=.bl Kh) λ_ _ _=>RX)
  (hCX:∀H e l,CX [] H c (λ_ _ _=>RX) e l->RX):
  Lp (Km P w) Mx (.call (.ref fa) ⟨[.ref a],[]⟩) (λr l=>r=.ok (.ret<|.bool Kh)/\OldK c.heap l.heap/\l.os=c.os/\Mm l.gens) c:=by
 have rv:=bS hi;have N:=hi.length
 -- from an abstract heap in which nothing but the script may be tracked
 have core:∀ H:Hp,uJ H->SqL K H a (Z.map V.int)->HOk P w H c.heap->(∀ b,H b≠J->b=a)->(H a≠J->K.lookup a=J) ->
   Lp (Km P w) Mx (.call (.ref fa) ⟨[.ref a],[]⟩) (λr l=>r=.ok (.ret<|.bool Kh)/\OldK c.heap l.heap/\l.os=c.os/\Mm l.gens) c:=by
  intro H hO hS L hA hK;have f:∀{b:RL} {o:Obj},c.heap.get? b=O o->H b=J->(k8 c.heap H).get? b=O o:=λe n=>xn e n
  have noA:∀{b:RL} {o:Obj} {A:RW So} {ep:Y},c.heap.get? b=O o->o.data=.dict A ep->H b=none:=λ{b o A ep} e d=>by
   cases q:H b with
   |none=>rfl
   |some u=>have e':b=a:=hA b (by rw[q];simp);subst e';rw[ha] at e;cases e;have d':Data.seq y.toArray _=Data.dict A ep:=d;cases d'
  have p:∀{b:RL} {m:Str->j B},c.heap.Ns b m->(k8 c.heap H).Ns b m:=λ{b m} ⟨o,A,ep,e,d,r⟩=>⟨o,A,ep,f e<|noA e d,d,r⟩
  have D:K.In (k8 c.heap H):=λb o e=>f (KX b o e) (by
   cases q:H b with
   |none=>rfl
   |some u=>
    have e':b=a:=hA b (by rw[q];simp);subst e';rw[hK<|by rw[q];simp] at e;cases e)
  have hM:Mod K Q (k8 c.heap H):=⟨D,p I,⟨mb,p g,hbb⟩,let ⟨mc,h1,h2⟩:=G;⟨mc,p h1,h2⟩⟩;have e0:Aj P w K Q (k8 c.heap H) Mx [] c H:=⟨rfl,hM,λb o e=>zK e,Nat.le_of_eq<|qV _ _,trivial,λb g=>RM (show b∈([]:U RL) from g)<|by simp,L,.of_eq hg⟩;refine NZ ((F _ D<|p I).run Mx [] c H ⟨[.ref a],[]⟩ [.ref a] [.ref a] _ _ hr e0 (t c<|.ref a) (.cons rfl .nil)<|hsp H hO hS) λr l h=>?_;cases r with
  |error e=>exact(hCX H e l h).elim
  | ok fl =>
   cases fl with
   |next=>exact Mh h
   |brk=>exact Mh h
   |cont=>exact Mh h
   | ret u =>
    obtain⟨v,H',os,bare,un,M,r',q⟩:=h;have q':v=.bl true:=q;subst q';obtain rfl:u=Value.bool true:=r';refine⟨rfl,OldK.of_keep λb o e=>?_,os,bare⟩;cases q:H b with
    |none=>exact un.keep b o e q (by intro z;exact RM (show b∈([]:U RL) from z)<|by simp)<|by simp
    | some u =>
     rcases hO b with z|⟨ob,xs,z⟩
     .rw[q] at z;cases z
     .have z2:=un.frzs b ob _ z;obtain⟨e1,_⟩:=L b _ z;obtain⟨e2,_⟩:=M b _ z2;rw[e] at e1;cases e1;exact e2
 cases hk:K.lookup a with
 |some o=>
  -- the script is one of the module's own objects
  have e:=KX a o hk;rw[ha] at e;cases e;refine core (λ_=>J) (λ_=>.inl rfl) (.inr ⟨_,y.toArray,_,hk,rfl,rfl,rfl,by rw[KU,N];exact hl,by simpa using rv⟩) (λb u z=>by have z':(none:j HO)=O u:=z;cases z') (λb z=>RM rfl z) λz=>RM rfl z
 | none =>
  refine core (λb=>if b=a then O (.frz {cls:=.type "list",data:=.seq y.toArray} (.lst<|Z.map V.int)) else J) (λb=>?_) (.inl<|.inr ⟨{cls:=.type "list",data:=.seq y.toArray},RJ rfl⟩) (λb u z=>?_) (λb z=>?_) λ_=>hk
  .by_cases g:b=a
   .exact .inr ⟨_,_,RJ g⟩
   .exact .inl (RK g)
  .by_cases g:b=a
   .have z':=(RJ g).symm.trans z;cases z';subst g;exact⟨ha,by rw[Kr];exact hl,y,_,rv,ha⟩
   .have z':=(RK g).symm.trans z;cases z'
  .by_cases g:b=a
   .exact g
   .exact RM (RK g) z
theorem walk_of {l:OS}{n k:Y}{q:RS}{r:U Str}{XP:(Str->j B)->RU->Prop}{YP:Ks->RU->Prop}{d:DefRec}{K:Lk->Kk}{CX:Ks->CXT}{sp:Ks->Sp}{x:Str}
  (hn:l.most=O n) (P:n<=sizeLine) (M:d.params.defaults=[]) (hr:Room k Mx)
  (hY:∀(w:Ks) (h:RU),YP w h->(K w.params).In h)
  (F:∀ (w:Ks) (t:Str->j B) (A:RL) (h:RU),(K w.params).In h->h.Ns K3 t->t d.name=O (.ref A) ->
   ∃I:LF,(∀(s:Ki) (u:B),My s I ⟨[u],[]⟩ [(x,u)]) /\
    ∀i:RU,(K w.params).In i->i.Ns K3 t->fI l.prog w (K w.params) t i (CX w) k A I [x] (sp w))
  (Q:∀(w:Ks) (H:Hp) (a:RL) (D:U Int),D.length<=n->uJ H->SqL (K w.params) H a (D.map V.int)->sp w [.ref a] H (λv _=>v=.bl Kh) λ_ _ _=>RX)
  (L:∀(w:Ks) (H:Hp) (s:Ki) (e:B) (Z:Ki),CX w [] H s (λ_ _ _=>RX) e Z->RX):
  PN q r XP YP l.row.toRowW d [] (λf vs=>ON f vs):=by
 refine Att.attach_call hn M λw s₀ z t mb A o pm cd doc a vs D G c ho hd hcd N y p m hg=>?_;have KX:=hY w _ c;obtain⟨I,hb,hF⟩:=F w t A _ KX G.T.g N;exact uF KX G.T.g G.T.b G.T.builtins G.T.nolimit hg y p (K0 m P) hr hF hb (λH hO hS=>Q w H a D m hO hS) λH e Z=>L w H z e Z
noncomputable def defArgs (s:R0):Arguments:=match s with
|.FunctionDef _ a _ _ _ _ _ _ _ _=>a
|_=>{posonlyargs:=[],args:=[],vararg:=J,kwonlyargs:=[],kw_defaults:=[],kwarg:=J,defaults:=[]}
def defBody (s:R0):U R0:=match s with
|.FunctionDef _ _ b _ _ _ _ _ _ _=>b
|_=>[]
noncomputable def defScope (s:R0):R6:=match s with
|.FunctionDef _ _ _ _ _ _ a _ _ _=>a
|_=>{kind:=.function,names:=[],isGenerator:=Kg,isCoroutine:=Kg}
abbrev CX0:CXT:=λ_ _ _ _ _ _=>RX
abbrev E0:XK:=λ_ _ _=>RX
theorem HG {X:Cx}:og CX0 X E0:=λ_ _ _ _ _ _ _ h=>h.elim
structure Fun (K:Kk)(x qual:Str)(st:R0)(f:RL)(fd:LF):Prop where
 ex:∃(oc:B) (od:j RL) (kV doc pm:B) (an:j RL) (cdv ct:B) (osl:RW (j B)),
  fd=Mu x qual (defArgs st) (defBody st) (defScope st) .none kV doc pm an cdv ct/\K.lookup f=O ⟨oc,od,.func fd,osl⟩/\Ov K cdv qual=Kh
 kp:NA K (.ref f)=Kh
section
variable {P:RS}{w:Ks}{K:Kk}{mg:Str->j B}{base:RU}
theorem Fun.ok {x b:Str}{g:R0}{f:RL}{o:LF}{N m:U Str}{k:Y}{n:Sp}(F:Fun K x b g f o)(S:au N m<|defScope g)(len:∀e H Q E,n e H Q E->e.length=m.length)
  (d:∀ (c:B) (A:KO) (a:U Env) (s:Ki) (H:Hp) (e:U V) (Q:VK) (E:XK),Room k (A.deeper (LQ b (defScope g) s.heap.objs.size f c))->n e H Q E ->
   ∃t,PSs (kx CX0 P w K mg base N b (defScope g) f c A a s H E).nox (defBody g) t/\t {nx:=λ_ p=>Q .non p,rt:=Q} (start N e) H):fI P w K mg base CX0 (k+1) f o m n:=by
 obtain⟨z,D,kV,r,G,an,c,y,v,rfl,lk,i⟩:=F.ex;refine ES lk i S len λA a s H e Q E u l=>?_;obtain⟨t,h,q⟩:=d c A a s H e Q E u l;exact⟨t,h.nox,q⟩
theorem Fun.binds {x a:Str}{d:R0}{f:RL}{l:LF}{i:U Str}(F:Fun K x a d f l)
  (h:∀(kV c g:B) (an:j RL) (b e:B) (k:U B),k.length=i.length->bindArgs (Mu x a (defArgs d) (defBody d) (defScope d) .none kV c g an b e) ⟨k,[]⟩=pure (i.zip k)):Binds K l i []:=by
 obtain⟨o,p,kV,c,g,an,b,e,n,rfl,lk,m⟩:=F.ex;exact .all<|h kV c g an b e
theorem tK {x a:Str}{st:R0}{f:RL}{i:B}{m an:j RL}{e:RW<|j B}{kV d h b g:B}(l:K.lookup f=O ⟨i,m,.func<|Mu x a (defArgs st) (defBody st) (defScope st) .none kV d h an b g,e⟩)
  (c:Ov K b a=Kh) (k:NA K (.ref f)=Kh):Fun K x a st f (Mu x a (defArgs st) (defBody st) (defScope st) .none kV d h an b g):=⟨⟨i,m,kV,d,h,an,b,g,e,rfl,l,c⟩,k⟩
end
theorem Bi {A:KO}{k:Y}(a:Room k A):A.units+1<SJ:=Oo (Nat.add_le_add_left (by decide:1<=64) _) a.units
def Same (H a:Hp):Prop:=∀b o,H b=O o->a b=O o
theorem Same.refl (H:Hp):Same H H:=λ_ _ h=>h
section
variable {κ:Type}[Sd κ]
def gz (a:U<|κ×V)(k:κ):j V:=(a.find? λb=>decide (b.1=k)).map (·.2)
noncomputable def eJ (a:U<|κ×V)(k:κ)(v:V):U (κ×V):=
 if(a.any λb=>decide (b.1=k))=Kh then a.map (λb=>if b.1=k then(b.1,v) else b) else a++[(k,v)]
theorem ic {p:κ×V}{r:U<|κ×V}{k:κ}(e:p.1=k):gz (p::r) k=O p.2:=by simp[gz,Nv,e]
theorem iE {p:κ×V}{r:U<|κ×V}{k:κ}(e:¬p.1=k):gz (p::r) k=gz r k:=by simp[gz,Nv,e]
theorem lx (k:κ):∀a:U<|κ×V,(a.any λb=>decide (b.1=k))=(gz a k).isSome
|[]=>rfl
|p::r=>by
 rw[MY];by_cases e:p.1=k
 .simp only[ic e,RI e,O6,Option.isSome_some]
 .rw[iE e,RR e,PM];exact lx k r
theorem gf (a:U<|κ×V)(k:κ)(v:V):(eJ a k v).length<=a.length+1:=by
 unfold eJ;split
 .rw[Kr];lia
 .rw[KJ,Kz,NL];lia
theorem RelO.isSome_eq {o:j V}{u:j B}(r:RelO o u):o.isSome=u.isSome:=by
 cases o with
 |none=>cases u with
  |none=>rfl
  |some _=>exact(show RX from r).elim
 |some _=>cases u with
  |none=>exact(show RX from r).elim
  |some _=>rfl
theorem KV.val {a:U<|κ×V}{g:U<|κ×B}(r:KV a g)(k:κ):RelO (gz a k) (Sr g k):=by
 unfold KV at r;induction r with
 |nil=>exact LN
 | @cons p q m d h t l =>
  obtain⟨f,i⟩:=h;by_cases e:p.1=k
  .have c:q.1=k:=f.symm.trans e;have b:Sr (q::d) k=O q.2:=by simp[Sr,Nv,c]
   rw[ic e,b];exact i
  .have c:¬ q.1=k:=fun z=>e (f.trans z);have b:Sr (q::d) k=Sr d k:=by simp[Sr,Nv,c]
   rw[iE e,b];exact l
theorem KV.any {a:U<|κ×V}{c:U<|κ×B}(r:KV a c)(k:κ):(a.any λb=>decide (b.1=k))=c.any λb=>decide (b.1=k):=by
 unfold KV at r;induction r with
 |nil=>rfl
 |cons h t d=>rw[MY,MY,d,h.1]
theorem KV.repl {b:U<|κ×V}{d:U<|κ×B}(r:KV b d)(k:κ){y:V}{u:B}(i:RelV y u):
  KV (b.map λa=>if a.1=k then(a.1,y) else a) (d.map λa=>if a.1=k then(a.1,u) else a):=by
 unfold KV at r ⊢;induction r with
 |nil=>exact .nil
 | @cons p q l m h t g=>
  rw[K2,K2];refine .cons ?_ g;obtain⟨c,f⟩:=h;by_cases e:p.1=k
  .rw[RJ e,RJ<|c.symm.trans e];exact⟨c,i⟩
  .rw[RK e,RK λz=>e<|c.trans z];exact⟨c,f⟩
theorem KV.put {a:U<|κ×V}{b:U<|κ×B}(r:KV a b)(k:κ){y:V}{u:B}(c:RelV y u):KV (eJ a k y) (stored b k u):=by
 unfold eJ stored;rw[r.any k];by_cases e:(b.any λd=>decide (d.1=k))=Kh
 .rw[RJ e,RJ e];exact r.repl k c
 .rw[RK e,RK e];exact Paired.snoc r ⟨rfl,c⟩
theorem KV.length {a:U<|κ×V}{b:U<|κ×B}(r:KV a b):a.length=b.length:=Paired.length r
end
theorem ug {P:RS}{w:Ks}{k:Key}{u:B}(r:RelV (kV k) u):(bg P w).is k u=true:=by
 cases k with
 |inl i=>obtain⟨t,e⟩:=(show∃t,u=Value.int i t from r);subst e;exact lG P w i t
 |inr x=>obtain⟨t,e⟩:=(show∃t,u=Value.str x t from r);subst e;exact nA P w x t
theorem ka {P:RS}{w:Ks}:∀{a:U Key} {b:U B},Vals (a.map kV) b->ItemsAre (bg P w) a b
|[],_,r=>by rw[Nh] at r;cases r;exact .nil
|k::a,_,r=>by
 rw[K2] at r;cases r with
 |cons h t=>exact .cons (ug h)<|ka t
abbrev KT (H:Hp):U (U Key×V)->U (U Key×RL×B)->Prop:=Paired λp q=>p.1=q.1/\H q.2.1=O (.tup<|p.1.map kV)/\RelV p.2 q.2.2
theorem KT.val {H:Hp}{a:U<|U Key×V}{g:U<|U Key×RL×B}(r:KT H a g)(k:U Key):RelO (gz a k) ((SK g k).map (·.2)):=by
 induction r with
 |nil=>exact LN
 | @cons p q m d h t l =>
  obtain⟨f,_,i⟩:=h;by_cases e:p.1=k
  .have c:q.1=k:=f.symm.trans e;have b:SK (q::d) k=O q.2:=by simp[SK,Nv,c]
   rw[ic e,b];exact i
  .have c:¬ q.1=k:=fun z=>e (f.trans z);have b:SK (q::d) k=SK d k:=by simp[SK,Nv,c]
   rw[iE e,b];exact l
theorem KT.repl {H:Hp}{a:U<|U Key×V}{f:U<|U Key×RL×B}(r:KT H a f)(k:U Key){y:V}{u:B}(l:RelV y u):
  KT H (a.map λc=>if c.1=k then(c.1,y) else c) (f.map<|putAt k u):=by
 induction r with
 |nil=>exact .nil
 | @cons p q m n h t i=>
  rw[K2,K2];refine .cons ?_ i;obtain⟨b,d,g⟩:=h;unfold putAt;by_cases e:p.1=k
  .rw[RJ e,RJ<|b.symm.trans e];exact⟨b,d,l⟩
  .rw[RK e,RK λz=>e<|b.trans z];exact⟨b,d,g⟩
theorem KT.put {H:Hp}{a:U<|U Key×V}{c:U<|U Key×RL×B}(r:KT H a c)(k:U Key){b:RL}{y:V}{u:B}(f:H b=O (.tup<|k.map kV))(d:RelV y u):
  KT H (eJ a k y) (storedH c k b u):=by
 have e:(a.any λg=>decide (g.1=k))=(SK c k).isSome:=by rw[lx,(r.val k).isSome_eq,Option.isSome_map]
 unfold eJ storedH;rw[e];by_cases q:(SK c k).isSome=Kh
 .rw[RJ q,RJ q];exact r.repl k d
 .rw[RK q,RK q];exact Paired.snoc r ⟨rfl,f,d⟩
theorem KT.keeps {H c:Hp}{a:U<|U Key×V}{d:U<|U Key×RL×B}(r:KT H a d)(f:∀b e,H b=O (.tup e)->c b=O (.tup e)):KT c a d:=
 Paired.mapP r λ_ _ z=>⟨z.1,f _ _ z.2.1,z.2.2⟩
section
variable {P:RS}{w:Ks}{H:Hp}{h:RU}{a:RL}
theorem Bn {u:HO}(ok:HOk P w H h)(e:Rd H a u):ObjOk P w H h a u:=e.ok ok
theorem vX {b:U<|Key×V}(ok:HOk P w H h)(e:Rd H a<|.dK b):b.length<=sizeLine/\(a==Mb)=Kg/\∃c,KV b c/\h.DictOf (bg P w) a c:=
 show ObjOk P w H h a (.dK b) from Bn ok e
theorem Hr {b:U<|Key×V}(ok:HOk P w H h)(e:H a=O (.dK b)):b.length<=sizeLine/\(a==Mb)=Kg/\∃c,KV b c/\h.DictOf (bg P w) a c:=vX ok<|.inl e
theorem oQ {c:U Key}(ok:HOk P w H h)(e:H a=O (.tup<|c.map kV)):(NH<|bg P w).is h c a:=by obtain⟨_,b,r,o,d,f,n,g⟩:=(show ObjOk P w H h a (.tup<|c.map kV) from ok a _ e);exact⟨o,b.toArray,n,d,f,g,by simpa using ka r⟩
theorem sF {b:U<|U Key×V}(ok:HOk P w H h)(e:Rd H a<|.dT b):b.length<=sizeLine/\(a==Mb)=Kg /\
  ∃c,KT H b c/\h.DictOfH (NH<|bg P w) a c:=by
 obtain⟨z,y,c,r,o,f,ep,g,i,k,n,s⟩:=(show ObjOk P w H h a (.dT b) from Bn ok e);refine⟨z,y,c,r,o,f,ep,g,i,k,n,λx hx=>?_,s⟩
 have all:∀{l:U (U Key×V)} {m:U (U Key×RL×B)},KT H l m->∀x∈m,(NH (bg P w)).is h x.1 x.2.1:=by
  intro l m q;induction q with
  |nil=>intro x hx;exact nomatch hx
  | @cons p q v A d t u =>
   intro x hx;rcases KD.mp hx with e|hx
   .subst e;exact oQ ok<|by rw[<- d.1];exact d.2.1
   .exact u x hx
 exact all r x hx
theorem HC {b:U<|U Key×V}(ok:HOk P w H h)(e:H a=O (.dT b)):b.length<=sizeLine/\(a==Mb)=Kg /\
  ∃c,KT H b c/\h.DictOfH (NH<|bg P w) a c:=sF ok<|.inl e
end
def DGet (H:Hp)(a:RL)(y:V)(r:j V):Prop:=
 (∃c k,Rd H a (.dK c)/\y=kV k/\r=gz c k)\/∃c k b,Rd H a (.dT c)/\y=.ref b/\H b=O (.tup<|k.map kV)/\r=gz c k
def HW (H:Hp)(a:RL)(y v:V)(d:Hp):Prop:=
 (∃c k,H a=O (.dK c)/\y=kV k/\c.length<sizeLine/\d=upd H a (.dK<|eJ c k v)) \/
 ∃c k b,H a=O (.dT c)/\y=.ref b/\H b=O (.tup<|k.map kV)/\c.length<sizeLine/\d=upd H a (.dT<|eJ c k v)
theorem DGet.k {H:Hp}{a:RL}{b:U<|Key×V}{k:Key}(e:H a=O (.dK b)):DGet H a (kV k) (gz b k):=.inl ⟨b,k,.inl e,rfl,rfl⟩
section
variable {X:Cx}{pins:U (RL×Obj)}{σ:St}{H:Hp}{s:Ki}{a:RL}{y v:V}{u r:B}{o:j V}{A:KO}{E:B->Ki->Prop}
theorem Inv.big (I:Inv X pins σ H s):Mb<s.heap.objs.size:=by have h:K3<s.heap.objs.size:=(I.mod.glob.keeps I.bk).lt;exact Ng (by decide) h
theorem rg {Q:B->Ki->Prop}(M:A.units+1<SJ)(I:Inv X pins σ H s)(g:DGet H a y<|O v)(D:RelV y u)(h:∀f F,Inv X pins σ H F->RelV v f->Q f F):
  RO (Km X.prog X.w) A (Mc (.ref a) u) Q E s:=by
 rcases g with⟨x,k,e,m,l⟩|⟨x,k,b,e,m,G,l⟩
 .subst m;obtain⟨z,L,N,c,i⟩:=vX I.hok e;obtain⟨f,t,d⟩:=RelO.some_of (v:=v) (o:=Sr N k) (by rw[l];exact c.val k);exact wpAny_getItem_of (ug D) i.mapOf t<|h f _ (I.tok _) d
 .subst m;cases(show u=Value.ref b from D);obtain⟨z,L,P,c,i⟩:=sF I.hok e;obtain⟨f,t,d⟩:=RelO.some_of (v:=v) (o:=(SK P k).map (·.2)) (by rw[l];exact c.val k);obtain⟨p,hp,n⟩:=QJ.mp t;refine wpAny_getItem_heap (tupleKind_room_in1 M) (oQ I.hok G) i hp ?_;rw[n];exact h f _ (I.tok _) d
theorem qy {c:RU}{l:Y}{f:HO}(I:Inv X pins σ H s)(k:Mut<|H a)(i:Heap.SameBut a s.heap c)(h:∃q,c.get? a=O q)(d:ObjOk X.prog X.w (upd H a f) c a f):
  Inv X pins σ (upd H a f) {s with heap:=c,toks:=l}:=
 I.write (x:=a) (e:=a) k (.inl rfl) (λb q g z=>(i.2 b g).trans z) h d
theorem Di {P:RS}{w:Ks}{f:Hp}{e:RU}{b:U<|Key×V}{d:U<|Key×B}(z:b.length<=sizeLine)(h:(a==Mb)=Kg)(c:KV b d)(g:e.DictOf (bg P w) a d):
  ObjOk P w f e a (.dK b):=⟨z,h,d,c,g⟩
theorem rn {L:Hp}{Q:Unit->Ki->Prop}(hu:A.units+1<SJ)(I:Inv X pins σ H s)(g:HW H a y v L)(ry:RelV y u)(Z:RelV v r)(h:∀s',Inv X pins σ L s'->Q () s'):
  RO (Km X.prog X.w) A (setItem (.ref a) u r) Q E s:=by
 rcases g with⟨d,k,e,t,l,p⟩|⟨d,k,b,e,t,M,l,p⟩
 .subst t p;obtain⟨z,x,vs,f,n⟩:=Hr I.hok e;have G:vs.length<=sizeLine:=by rw[<- f.length];exact z
  have D:(eJ d k v).length<=sizeLine:=by have:=gf d k v;lia
  refine wpAny_setItem_pairs (hsz:=G) (ug ry) n λP i F=>h _ ?_;have he:∃q,P.get? a=O q:=let ⟨q,_,_,m,_⟩:=i;⟨q,m⟩;exact qy I (by rw[e];exact LN) F he<|Di D x (f.put k Z) i
 .subst t p;cases(show u=Value.ref b from ry);obtain⟨z,x,xs,f,n⟩:=HC I.hok e;have G:xs.length<=sizeLine:=by rw[<- Paired.length f];exact z
  have D:(eJ d k v).length<=sizeLine:=by have:=gf d k v;lia
  refine wpAny_setItem_heap (hsz:=G) (tupleKind_room_in1 hu) (oQ I.hok M) n λP i F=>h _ ?_;obtain⟨q,es,ep,m,h2,h3,h4,_,h5⟩:=i;refine qy I (by rw[e];exact LN) F ⟨q,m⟩ ⟨D,x,_,(f.put k M Z).keeps λc ys N=>?_,q,es,ep,m,h2,h3,h4,h5⟩;rw[af<|FJ N e λz=>nomatch z];exact N
end
def Ez (i:RT):Prop:=∀a iv,N8 i Kg a iv=operate [a,iv] (Mc a iv)
theorem zd {prog:RS}{w:Ks}{A:KO}{E:B->Ki->Prop}{s:Ki}{g:Env}{b a:RT}{pos:Pos}{T id:R1}{Q:B->Ki->Prop}
  (p:typeLookup (.type T) "__getitem__"=pure (O<|.builtin id)) (t:Ez a)
  (h:RO (Km prog w) A (RV b g) (λo e=>RO (Km prog w) A (RV a g) (λi c=>c.TypeIs o T/\RO (Km prog w) A (Mc o i) Q E c) E e) E s):
  RO (Km prog w) A (RV (.Subscript b a pos) g) Q E s:=by
 refine Subscript_<|Lb h (λo e l=>Lb l (λi c d=>?_) λ_ _ x=>x) λ_ _ x=>x;obtain⟨n,d⟩:=d;unfold Ss;refine Kj ?_;rw[getitemInPython_of_ne n.not_modules];refine Kj<|wpAny_specialOf n p ?_;have k:RO (Km prog w) A (N8 a Kg o i) (λr f=>RO (Km prog w) A (letTemporaryGo b o r >>= λ_=>pure r) Q E f) E c:=by rw[t o i];exact wpAny_operating<|Lb d (λr f m=>Kj<|wpAny_letTemporaryGo<|Ko m) λ_ _ x=>x
 first
  |exact Ko<|Kj k
  |exact Kj<|Ko<|Kj k
  |exact Kj k
theorem lO {X:Cx}{c:U<|RL×Obj}{h:St}{H:Hp}{s:Ki}{a:RL}{y:V}{o:j V}(I:Inv X c h H s)(g:DGet H a y o):s.TypeIs (.ref a) "dict":=by
 rcases g with⟨f,k,e,_,_⟩|⟨f,k,b,e,_,_,_⟩
 .obtain ⟨_,_,i,_,d⟩:=vX I.hok e;exact d.typeIs
 .obtain ⟨_,_,l,_,d⟩:=sF I.hok e;exact d.typeIs
def He (e ty:TE):TE:=λc H Q=>e c H λx d=>ty c d λy b=>∃a v,x=.ref a/\DGet b a y (O v)/\Q v b
def E8 (g ty h:TE):TS:=λD b H=>h b H λv d=>g b d λx e=>ty b e λy f=>∃a c,x=.ref a/\HW f a y v c/\D.nx b c
section
variable {X:Cx}{o i e value:RT}{pos pos' tpos:Pos}{td ty tv:TE}
theorem AQ (r:X.A.units+1<SJ)(ho:PE X o td)(n:PE X i ty)(p:Ez i):PE X (.Subscript o i pos) (He td ty):=by intro b s d H Q I h;refine zd PySem.F.slot_dict_getitem.lookup p<|thn (ho b s d H _ I h) λu D ⟨x,f,I1,rx,t⟩=>thn (n b D d f _ I1 t) λiv G ⟨y,k,I2,z,a,v,m,g,w⟩=>?_;subst m;obtain rfl:u=Value.ref a:=rx;exact⟨lO I2 g,rg r I2 g z λM L l c=>⟨v,k,l,c,w⟩⟩
theorem xM (w:X.A.units+1<SJ)(ho:PE X o td)(p:PE X i ty)(z:PE X value tv)(t:Ln value (O<|.Subscript o i pos') pos.line X.env=pure Kg):
  PS X (.Assign [.Subscript o i pos'] value pos) (E8 td ty tv):=by
 intro b s c H D I h;refine wpAny_Assign_Subscript (thn (z b s c H _ I h) λr P ⟨v,d,I1,M,F⟩=>thn (ho b P c d _ I1 F) λu Q ⟨x,f,I2,rx,G⟩=>thn (p b Q c f _ I2 G) λiv s3 ⟨y,Z,l,N,a,k,n,g,L⟩=>?_) t;subst n;obtain rfl:u=Value.ref a:=rx;exact rn w l g N M λs4 m=>⟨c,k,m,L⟩
end
theorem vq {P:RS}{w:Ks}{H:Hp}(h:RU)(a:Mb<h.objs.size):ObjOk P w H (h.push {cls:=.type "dict",data:=.dict #[]}) h.objs.size (.dK []):=
 ⟨K4 _,beq_eq_false_iff_ne.mpr<|Lg<|KR a,[],.nil,Heap.DictOf.new h⟩
def vb:TE:=λ_ H Q=>∀p,H p=J->Q (.ref p) (upd H p<|.dK [])
section
variable {X:Cx}{pos:Pos}
theorem uE:PE X (.Dict [] [] pos) vb:=λb s c H Q I h=>
 wpAny_Dict_empty ⟨.ref s.heap.objs.size,_,I.laid (a:=s.heap.objs.size) (o:=.dK []) (t':=s.toks) (λ_ _ q=>Heap.get?_push_of_some _ q) (Kt _)<|vq s.heap I.big,rfl,h _<|I.hok.fresh<|Kt _⟩
end
end L2

set_option maxHeartbeats 4000000
namespace L3
open PySem PySem.Spec PyProof.Rows L2
abbrev noX:B->Ki->Prop:=λ_ _=>RX
theorem jM {P:RS}{w:Ks}{H:Hp}{h:RU}{a:RL}{o:HO}(x:HOk P w H h)(g:H a=J)(d:ObjOk P w (upd H a o) h a o):HOk P w (upd H a o) h:=by
 intro b u e;by_cases f:b=a
 .subst f;rw[av] at e;cases e;exact d
 .rw [af f] at e;refine(x b u e).stay (λc v _ q=>q) (λc q=>?_) (λc i q=>?_)
  .rw[af<|aP q g];exact q
  .rw[af<|aP q g];exact q
section
variable {prog:RS}{w:Ks}{A:KO}{R:Ml->Ki->Prop}{s:Ki}
theorem oZ {p H f:RT}{c:R6}{pos:Pos}{G o:B}{b:Env}(a:Y->Ki->Prop)
  (turn:∀ n s,a n s->RO (Km prog w) A (LM G) (fun r d=>match r with
   |none=>R (.ok .next) d
   | some v=>RO (Km prog w) A (M5 H G v) (fun _ g=>RO (Km prog w) A (LR H b v) (fun _ i =>
     RO (Km prog w) A (RV p b) (λy k=>RO (Km prog w) A (call (.builtin "list.append") [o,y]) (λ_ l=>∃m,m<n/\a m l) noX k) noX i) noX g) noX d) noX s)
  (n:Y) (h:a n s):Lp (Km prog w) A (.compLoop (.ListComp p [⟨H,f,[],0⟩] c pos) 0 G o b) R s:=by
 refine codeAny_loop rfl a (λn s I=>?_) n h;show RO _ A ((compTurn (.ListComp p [⟨H,f,[],0⟩] c pos) 0 G o b).onRaise (λx=>do noteFrame x b;theTreesLotGoes x)) _ _ s;refine wpAny_noted ?_;rw[compTurn_list];refine Kj<|N2<|Kj<|Lb (turn n s I) (λr d e=>?_) λ_ _ z=>z.elim;cases r with
 |none=>exact Ko e
 |some v=>refine Kj<|Lb e (λ_ g t=>?_) λ_ _ z=>z.elim;refine Kj<|Lb t (λ_ i u=>?_) λ_ _ z=>z.elim;refine Kj<|wpAny_tests_nil ?_;exact Kj<|Kj<|Lb u (λy k D=>Kj<|Lb D (λ_ l F=>Ko<|Ko ⟨rfl,F⟩) λ_ _ z=>z.elim) λ_ _ z=>z.elim
end
def ah (X:Cx)(N:U Str)(a:R6)(b:U<|Str×RL)(C:RL)(s:Ki)(H:Hp)(c:U RL):Cx where
 prog:=X.prog
 w:=X.w
 K:=X.K
 mg:=X.mg
 base:=X.base
 A:=X.A
 N:=N
 s₀:=s
 H₀:=H
 env:=compEnvC a b C X.env
 outer:=X.stack
 stack:=X.stack
 ex:=c
 fn:=λ_=>Kg
 calm:=X.calm
 pn:=X.pn
 xe:=noX
inductive Clo (X:Cx):U (Str×RL)->Prop
 |nil:Clo X []
 |cons {y:Str} {c:RL} {cl:U (Str×RL)}:X.env.cells.lookup y=O c->Clo X cl->Clo X ((y,c)::cl)
theorem Clo.get {X:Cx}{a:U<|Str×RL}(h:Clo X a):∀{y:Str} {c:RL},a.lookup y=O c->X.env.cells.lookup y=O c:=by
 induction h with
 |nil=>intro y c e;cases e
 | @cons z d b f _ g =>
  intro y c e;cases q:y==z with
  |true=>simp only[Pr,q] at e;cases e;rw[eq_of_beq q];exact f
  |false=>simp only[Pr,q] at e;exact g e
inductive Frees (X:Cx)(scope:R6)(cl:U (Str×RL)):U Str->U Y->Prop
 |nil:Frees X scope cl [] []
 | cons {y:Str} {ys:U Str} {i:Y} {is:U Y} {c:RL}:X.N[i]?=O y->Vis X.env.scope y->(X.env.kindOf y=O .cell\/X.env.kindOf y=O .free)->X.env.cells.lookup y=O c->cl.lookup y=O c ->
   ((MJ scope X.env).names.lookup y=O .cell\/(MJ scope X.env).names.lookup y=O .free)->Frees X scope cl ys is->Frees X scope cl (y::ys) (i::is)
theorem Frees.len {X:Cx}{a:R6}{d:U<|Str×RL}{c:U Str}{b:U Y}(F:Frees X a d c b):b.length=c.length:=by
 induction F with
 |nil=>rfl
 |cons _ _ _ _ _ _ _ e=>rw[Kz,Kz,e]
def bQ (b:L2.St)(a:U Y):L2.St:=a.map λi=>(b[i]?).join
theorem Frees.get {X:Cx}{b:R6}{f:U<|Str×RL}{g:U Str}{d:U Y}{σ:L2.St}(F:Frees X b f g d):∀{a:Y} {y:Str} {v:V},g[a]?=O y->(bQ σ d)[a]?=O (O v) ->
  ∃(i:Y) (c:RL),X.N[i]?=O y/\σ[i]?=O (O v)/\Vis X.env.scope y/\(X.env.kindOf y=O .cell\/X.env.kindOf y=O .free)/\X.env.cells.lookup y=O c/\f.lookup y=O c /\
   ((MJ b X.env).names.lookup y=O .cell\/(MJ b X.env).names.lookup y=O .free):=by
 induction F with
 |nil=>intro a y v e;simp at e
 | @cons z s i d c h k l m n p _ r =>
  intro a y v e1 e2;unfold bQ at e2;rw[K2] at e2;cases a with
  | zero =>
   rw[NP] at e1 e2;cases e1;cases q:σ[i]? with
   |none=>rw[q] at e2;cases e2
   |some o=>rw[q] at e2;have e3:o=O v:=K8 e2;subst e3;exact⟨i,c,h,q,k,l,m,n,p⟩
  |succ a=>rw[LI] at e1 e2;exact r e1 e2
abbrev kL (a:U B):Obj:={cls:=.type "list",data:=.seq a.toArray a.length}
theorem rm {X:Cx}(M:X.calm=Kh):cy X (.builtin "all") (λD H Q=>∃(a:RL) (bs:U RN),D=[.ref a]/\SqL X.K H a (bs.map V.bl)/\Q (.bl<|bs.all id) H):=by
 intro y s σ H D us Q I r h;obtain⟨a,bs,rfl,G,q⟩:=h;obtain⟨u,rfl,Z⟩:=c5 r;cases Z;obtain⟨c,t,p,hz⟩:=I.list G;have l:c.toArray.size=bs.length:=by rw[KU,<- t.length,Kr]
 have n:a<s.heap.objs.size:=by obtain⟨o,e,_⟩:=p.isList;exact Heap.lt_size e
 refine call_all_walk<|Ma p.isList ?_;refine⟨s.heap.objs.size,_,_,_,_,_,λi=>bs.getD i Kh,rfl,Walks.list (A:=X.A.in1) (show X.A.in1.handled=J from I.ok.hd M) s.heap.objs.size a (KR n) c.toArray,⟨⟨_,Heap.get?_push_size _ rfl,rfl,rfl⟩,p.isList.push _⟩,λi v s' Q' E' P F=>?_,λh' tk k=>?_⟩
 .have m:c[i]?=O v:=by simpa using P
  have d:i<c.length:=(LJ.mp m).1;have g:i<bs.length:=by have:=t.length;rw[Kr] at this;lia
  obtain⟨w',e1,e2⟩:=t.get (i:=i) (x:=.bl bs[i]) (by rw[KY,KN g];rfl);rw[m] at e1;cases e1;cases e2;refine M8 ?_;have e3:bs.getD i Kh=bs[i]:=by rw[Kv,KN g];rfl
  rw[<- e3];exact F
 .have e:(Kq c.toArray.size).all (fun i=>bs.getD i Kh)=bs.all id:=by
   rw[l,OR,K5,K5];constructor
   .intro z b L;obtain⟨i,d,e⟩:=OJ L;have:=z i<|Lc.mpr d;rw[Kv,KN d] at this;simpa[e] using this
   .intro z i d;have f:=Lc.mp d;rw[Kv,KN f];exact z _<|NX f
  rw[e]
  exact⟨.bl<|bs.all id,H,I.kept (λb o w=>k b o (λN=>by
   have:b=s.heap.objs.size:=by simpa using N
   exact RM (this ▸ Heap.lt_size w)<|LB _)<|Heap.get?_push_of_some _ w),rfl,q⟩
inductive Th where
 |non|bl (b:RN)|int (i:Int)|str (x:Str)|tup (ts:U Th)|lst (ts:U Th)
mutual
def Has (K:Kk)(H:Hp):Th->V->Prop
|.non,v=>v=.non
|.bl b,v=>v=.bl b
|.int i,v=>v=.int i
|.str x,v=>v=.str x
|.tup ts,v=>∃a vs,v=.ref a/\SqT K H a vs/\HasL K H ts vs
|.lst ts,v=>∃a vs,v=.ref a/\H a=O (.lst vs)/\HasL K H ts vs
def HasL (K:Kk)(H:Hp):U Th->U V->Prop
|[],vs=>vs=[]
|t::ts,vs=>∃v r,vs=v::r/\Has K H t v/\HasL K H ts r
end
noncomputable def Th.ty:Th->R1
|.non=>"NoneType" |.bl _=>"bool" |.int _=>"int" |.str _=>"str" |.tup _=>"tuple" |.lst _=>"list"
def isI (c:R1)(t:Th):RN:=t.ty==c || (t.ty=="bool"&&c=="int")
theorem kit_type {K:Kk}{A a:R1}:Mq K (.type A) (.type a)=Mq [] (.type A) (.type a):=by unfold Mq PySem.W.kitCls PK;rfl
theorem Ee:∀c∈["tuple","str","bool","int","list"],∀n∈["NoneType","bool","int","str","tuple","list"],Mq [] (.type n) (.type c)=O (n==c || (n=="bool"&&c=="int")):=by decide +kernel
theorem Ds (t:Th):t.ty∈["NoneType","bool","int","str","tuple","list"]:=by cases t<;>simp[Th.ty]
theorem n0 {c:R1}(a:c∈["tuple","str","bool","int","list"])(t:Th):Mq [] (.type t.ty) (.type c)=O (isI c t):=Ee c a t.ty<|Ds t
theorem ni {H:Hp}{p:RL}(h:H p=J)(o:HO):Same H (upd H p o):=λb u q=>by rw[af<|aP q h];exact q
def BC (K:Kk):R2:=λx y H Q=>∃a b d f,x=.ref a/\y=.ref b/\SqT K H a d/\SqT K H b f/\d≠[]/\d.length+f.length<=sizeLine/\∀v e,Same H e->(∃c,v=.ref c/\SqT K e c (d++f))->Q v e
theorem ya {X:Cx}:OpR X (Lw .Add) (BC X.K):=λc s l H x y v u Q I rx g h=>by obtain⟨a,b,i,k,e1,e2,d,e,hx,f,q⟩:=h;exact AW c s l H x y v u Q I rx g ⟨a,b,i,k,e1,e2,d,e,hx,f,λz=>q _ _ (Same.refl _) ⟨a,rfl,by rw[z,La];exact d⟩,λ_ p hp=>q _ _ (ni hp _) ⟨p,rfl,SqT.of av⟩⟩
theorem vF {X:Cx}{x:Str}{T:R1}{pos:Pos}(b:Gl X x)(c:X.mg x=J)(e:L8 x=O (.type T))(d:x≠"__name__":=by decide)(a:(x==("__debug__":Str))=false:=by decide):PE X (.Name x pos) (tC<|.ty T):=zk (v:=.ty T) b c e rfl d a
theorem gh (a:U Int):∀k,k<=a.length->preSum (λi=>a.getD i 0) k=(a.take k).sum
|0,_=>rfl
|k+1,h=>by have b:=gh a k (by lia);show preSum (λi=>a.getD i 0) k+a.getD k 0=_;rw[b,List.take_succ,List.sum_append,Kv,KN<|show k<a.length by lia];simp
theorem rQ {X:Cx}(G:X.calm=Kh):cy X (.builtin "sum") (λD H Q=>∃(a:RL) (c:U Int),D=[.ref a]/\SqL X.K H a (c.map V.int)/\Q (.int c.sum) H):=by
 intro z s σ H D us Q I r h;obtain⟨a,c,rfl,F,q⟩:=h;obtain⟨u,rfl,N⟩:=c5 r;cases N;obtain⟨d,w,p,hz⟩:=I.list F;have g:d.toArray.size=c.length:=by rw[KU,<- w.length,Kr]
 have l:a<s.heap.objs.size:=by obtain⟨o,e,_⟩:=p.isList;exact Heap.lt_size e
 refine call_sum_walkG<|Ma p.isList ?_;refine⟨s.heap.objs.size,_,_,_,_,_,λi=>c.getD i 0,rfl,Walks.list (A:=X.A.in1) (show X.A.in1.handled=J from I.ok.hd G) s.heap.objs.size a (KR l) d.toArray,⟨⟨_,Heap.get?_push_size _ rfl,rfl,rfl⟩,p.isList.push _⟩,λb n=>?_,λi v M=>?_,λZ tk P k=>?_⟩
 .show b<(s.heap.push _).objs.size;rw[Heap.size_push];rcases KD.mp n with rfl|n
  .exact MG _
  .rw[K1.mp n];exact MW l
 .have m:d[i]?=O v:=by simpa using M
  have hi:i<d.length:=(LJ.mp m).1;have f:i<c.length:=by have:=w.length;rw[Kr] at this;lia
  obtain⟨w',e1,e2⟩:=w.get (i:=i) (x:=.int c[i]) (by rw[KY,KN f];rfl);rw[m] at e1;cases e1;obtain⟨t,rfl⟩:=e2;have e3:c.getD i 0=c[i]:=by rw[Kv,KN f];rfl
  exact⟨t,by show Value.int c[i] t=Value.int (c.getD i 0) t;rw[e3]⟩
 .have e:preSum (fun i=>c.getD i 0) d.toArray.size=c.sum:=by rw[g,gh c _ (Kt _),NW]
  rw[e]
  exact⟨.int c.sum,H,I.kept (λb o y=>k b o (λL=>by
   have:b=s.heap.objs.size:=by simpa using L
   exact RM (this ▸ Heap.lt_size y)<|LB _)<|Heap.get?_push_of_some _ y),⟨P,rfl⟩,q⟩
mutual
def toD:Th->PyData
|.non=>.none
|.bl b=>.bool b
|.int i=>.int i
|.str x=>.str x
|.tup ts=>.tuple<|gn ts
|.lst ts=>.list<|gn ts
def gn:U Th->U PyData
|[]=>[]
|t::ts=>toD t::gn ts
end
section
variable {X:Cx}{pins:U (RL×Obj)}{σ:L2.St}{H:Hp}{s:Ki}
mutual
theorem Has.reads (I:Inv X pins σ H s):∀{t:Th} {v:V} {u:B},Has X.K H t v->RelV v u->∃as,Reads s.heap u (toD t) as
|.non,_,u,h,r=>by obtain rfl:_=V.non:=h;obtain rfl:u=Value.none:=r;exact⟨_,.none⟩
|.bl b,_,u,h,r=>by obtain rfl:_=V.bl b:=h;obtain rfl:u=Value.bool b:=r;exact⟨_,.bool b⟩
|.int i,_,u,h,r=>by obtain rfl:_=V.int i:=h;obtain⟨t,rfl⟩:∃t,u=Value.int i t:=r;exact⟨_,.int i t⟩
|.str x,_,u,h,r=>by obtain rfl:_=V.str x:=h;obtain⟨t,rfl⟩:∃t,u=Value.str x t:=r;exact⟨_,.str x t⟩
|.tup ts,_,u,⟨a,vs,e,hS,hL⟩,r=>by subst e;obtain rfl:u=Value.ref a:=r;obtain⟨its,rv,⟨o,h1,h2,n,h3⟩,_⟩:=I.tuple hS;obtain⟨as,ra⟩:=HasL.reads I hL rv;exact⟨_,.tuple h1 h2 h3<|by simpa using ra⟩
|.lst ts,_,u,⟨a,vs,e,hS,hL⟩,r=>by subst e;obtain rfl:u=Value.ref a:=r;obtain⟨its,rv,⟨o,n,h1,h2,_,h3⟩,_⟩:=I.list<|SqL.of hS;obtain⟨as,ra⟩:=HasL.reads I hL rv;exact⟨_,.list h1 h2 h3<|by simpa using ra⟩
theorem HasL.reads (I:Inv X pins σ H s):∀{ts:U Th} {vs:U V} {us:U B},HasL X.K H ts vs->Vals vs us->∃as,ReadsAll s.heap us (gn ts) as
|[],vs,us,h,r=>by obtain rfl:vs=[]:=h;cases r;exact⟨_,.nil⟩
| t::ts,vs,us,⟨v,w',e,h1,h2⟩,r=>by
 subst e;cases r with
 |cons r1 r2=>obtain⟨as,ra⟩:=Has.reads I h1 r1;obtain⟨bs,rb⟩:=HasL.reads I h2 r2;exact⟨_,.cons ra rb⟩
end
end
abbrev k9 (t:Th):Prop:=SeqAt.shaped (toD t)=Kh
theorem qC {X:Cx}(e:X.A.units+64<SJ):OpR X (LC .Eq) (λx y H Q=>∃t a,Has X.K H t x/\Has X.K H a y/\k9 t/\k9 a/\Q (.bl<|PyData.eqv (toD t)<|toD a) H):=by intro b s m H x y v u Q I rx l h;obtain⟨t,a,c,d,f,g,q⟩:=h;obtain⟨as,i⟩:=Has.reads I c rx;obtain⟨bs,k⟩:=Has.reads I d l;exact RD i k f g e ⟨.bl _,H,I,rfl,q⟩
theorem qo {X:Cx}(e:X.A.units+64<SJ):OpR X (LC .NotEq) (λx y H Q=>∃t a,Has X.K H t x/\Has X.K H a y/\k9 t/\k9 a/\Q (.bl<|!PyData.eqv (toD t) (toD a)) H):=by intro b s m H x y v u Q I rx l h;obtain⟨t,a,c,d,f,g,q⟩:=h;obtain⟨as,i⟩:=Has.reads I c rx;obtain⟨bs,k⟩:=Has.reads I d l;exact RC i k f g e ⟨.bl _,H,I,rfl,q⟩
section
variable {prog:RS}{w:Ks}{A:KO}{E:B->Ki->Prop}{s:Ki}
theorem fo {t i:RL}{a:RW B}{m n:B}{lo d:j Int}{Q:B->Ki->Prop}(b:SI s.heap t a)(k:s.heap.IsSliceOf i m n .none)(p:L6 m lo)(r:L6 n d)
  (l:HT.sIx a.size 0 lo=0/\HT.sIx a.size a.size d=a.size) (h:Q (.ref t) s):RO (Km prog w) A (Mc (.ref t)<|.ref i) Q E s:=by
 obtain⟨os,g,f,o⟩:=id k;have e:s.TypeIs (.ref i) "slice":=⟨os,g,f⟩;unfold Mc
 try with_reducible refine Ls ?_
 first|refine Kj (Ko ?_)|skip
 refine Kj<|wpAny_sequenceKey b.typeIs (by decide) ?_
 refine Kj (Mn (name:=Str.ofString "__getitem__") b.typeIs NB
  (LV NB b.typeIs entry_tuple_getitem ?_<|args_tuple_getitem _ _))
 show RO _ _ (Builtin.Tuple.tupleItemsOf (.ref t) >>= _) _ _ s;refine Kj<|tupleItemsOf_ b ?_;refine Kj<|NG e ?_;rw[RJ<|by decide];refine Kj<|HT.sliceApplied_gen k p r ?_;have c:(((HT.sIx a.size 0 lo:Y):Int)==0&&(1:Int)==1&&(HT.sIx a.size a.size d-HT.sIx a.size 0 lo)==a.size)=true:=by rw[l.1,l.2];simp
 show RO _ _ (if(((HT.sIx a.size 0 lo:Y):Int)==0&&(1:Int)==1&&(HT.sIx a.size a.size d-HT.sIx a.size 0 lo)==a.size)=Kh then _ else _) _ _ s;rw[RJ c];unfold Builtin.Tuple.tupleIsExact;refine Kj<|Kj<|NG b.typeIs<|Ko ?_;rw[RJ<|by decide]
 first
  |exact Kj<|Mp<|Ko ⟨_,rfl,Ko h⟩
  |exact Kj<|Mp<|Kj<|Ko<|Ko ⟨_,rfl,Ko h⟩
end
section
variable {X:Cx}
def AK (K:Kk):V->j Int->j Int->Hp->VK->Prop:=λx lo e H Q=>∃a d,x=.ref a/\SqT K H a d/\∀v b,Same H b->(∃c,v=.ref c/\SqT K b c (fM d lo e))->Q v b
theorem qk:SlR X (AK X.K):=by
 intro d s w H x v t u lo g o Q I rx k m n h;obtain⟨a,b,rfl,hx,q⟩:=h;by_cases f:HT.sIx b.length 0 lo=0/\HT.sIx b.length b.length g=b.length
 .cases rx;obtain⟨i,r,l,y⟩:=I.tuple hx;have c:i.toArray.size=b.length:=by rw[KU];exact r.length.symm
  refine⟨"tuple",_,NB.lookup,l.typeIs,?_⟩;refine fo l k m n (by rw[c];exact f) ⟨.ref a,H,I,rfl,q _ _ (Same.refl H) ⟨a,rfl,?_⟩⟩;have e:fM b lo g=b:=by unfold fM;rw[f.1,f.2];simp
  rw[e];exact hx
 .exact B9 d s w H _ v t u lo g o Q I rx k m n ⟨a,b,rfl,hx,f,λp hp=>q _ _ (ni hp _) ⟨p,rfl,SqT.of av⟩⟩
end
def I0 (K:Kk):R2:=λx y H Q=>∃p a i v,x=.ref p/\y=.int i/\(SqL K H p a\/SqT K H p a)/\atI a i=O v/\Q v H
theorem ix_any {X:Cx}:IxR X (I0 X.K):=λb a c s l H x y v u Q I rx g h f=>by
 obtain⟨p,k,i,z,e1,e2,d,e,q⟩:=h;rcases d with d|d
 .exact yX b a c s l H x y v u Q I rx g ⟨p,k,i,z,e1,e2,d,e,q⟩ f
 .exact DM b a c s l H x y v u Q I rx g ⟨p,k,i,z,e1,e2,d,e,q⟩ f
end L3


namespace L3
open PySem PySem.Spec PyProof.Rows L2
def SqO (h:RU):RN->RL->RW B->Prop
|true,a,b=>h.IsTuple a b
|false,a,b=>h.IsList a b
def ItO (h:RU):RN->RL->RL->Y->Prop
|true,b,a,n=>h.IsTupleIter b a n
|false,b,a,n=>h.IsListIter b a n
theorem SqO.at {h b:RU}{k:RN}{a:RL}{c:RW B}(x:SqO h k a c)(e:∀o,h.get? a=O o->b.get? a=O o):SqO b k a c:=by cases k<;>(obtain⟨o,ho,r⟩:=x;exact⟨o,e o ho,r⟩)
theorem ItO.at {h c:RU}{k:RN}{b a:RL}{n:Y}(x:ItO h k b a n)(e:∀o,h.get? b=O o->c.get? b=O o):ItO c k b a n:=by cases k<;>(obtain⟨o,ho,r⟩:=x;exact⟨o,e o ho,r⟩)
theorem ItO.obj {h:RU}{k:RN}{b a:RL}{n:Y}(x:ItO h k b a n):∃o,h.get? b=O o/\∀v,o.data≠.cell v:=by cases k<;>(obtain⟨o,ho,_,d⟩:=x;exact⟨o,ho,λv z=>by rw[d] at z;cases z⟩)
theorem SqO.lt {h:RU}{k:RN}{a:RL}{b:RW B}(x:SqO h k a b):a<h.objs.size:=by cases k<;>(obtain⟨o,ho,_⟩:=x;exact Heap.lt_size ho)
section
variable {prog:RS}{w:Ks}{A:KO}{E:B->Ki->Prop}{s:Ki}
theorem pe {b t:RL}{i:Y}{f:RW B}{x:B}{Q:B->Ki->Prop}(a:s.heap.IsTupleIter b t i)(k:s.heap.IsTuple t f)(hx:f[i]?=O x)
  (q:∀e,e.IsTupleIter b t (i+1)->Heap.SameBut b s.heap e->Q x {s with heap:=e}):RO (Km prog w) A (Builtin.SmallTypes.nextOf<|.ref b) Q E s:=by
 obtain⟨u,d,g,c⟩:=id a;obtain⟨v,l,_,m,h⟩:=k;unfold Builtin.SmallTypes.nextOf;refine Kj<|Mn (name:=Str.ofString "__next__") a.typeIs F.slot_tuple_iterator_next<|LV F.slot_tuple_iterator_next a.typeIs F.entry_tuple_iterator_next ?_<|F.args_tuple_iterator_next_1 _;show RO _ _ (SU (.ref b) 0 >>= _) _ _ _;refine Kj<|Lr d c (x:=.ref t) rfl ?_;show RO _ _ (if(Value.ref t==Value.none)=Kh then _ else _) _ _ _;rw[RK<|by intro z;cases z];show RO _ _ (SU (.ref b) 1 >>= _) _ _ _;refine Kj<|Lr d c (x:=.int i 0) rfl ?_;show RO _ _ (seqItems? (.ref t) >>= _) _ _ _;refine Kj<|L9 l h ?_;simp only[hx,Lz];exact Kj<|MD d c (by simp)<|Ko ⟨x,rfl,Ko<|q _ ⟨_,Heap.get?_update_self _ d<|Obj.isFreed_of_fields<|Obj.data_mapFields c _,(Obj.cls_mapFields ..).trans g,by rw[Obj.data_mapFields c];simp[KP]⟩<|Heap.SameBut.update ..⟩
theorem sr {c t:RL}{i:Y}{k:RW B}{Q:B->Ki->Prop}(h:A.handled=J)(b:s.heap.IsTupleIter c t i)(n:s.heap.IsTuple t k)(hx:k[i]?=J)
  (q:∀f e,Heap.ExtBut c s.heap f->(∃o,f.get? e=O o/\o.cls=.type "StopIteration")->E (.ref e) {s with heap:=f}):RO (Km prog w) A (Builtin.SmallTypes.nextOf<|.ref c) Q E s:=by
 obtain⟨u,g,r,d⟩:=id b;obtain⟨v,p,_,y,l⟩:=n;unfold Builtin.SmallTypes.nextOf;refine Kj<|Mn (name:=Str.ofString "__next__") b.typeIs F.slot_tuple_iterator_next<|LV F.slot_tuple_iterator_next b.typeIs F.entry_tuple_iterator_next ?_<|F.args_tuple_iterator_next_1 _;show RO _ _ (SU (.ref c) 0 >>= _) _ _ _;refine Kj<|Lr g d (x:=.ref t) rfl ?_;show RO _ _ (if(Value.ref t==Value.none)=Kh then _ else _) _ _ _;rw[RK<|by intro z;cases z];show RO _ _ (SU (.ref c) 1 >>= _) _ _ _;refine Kj<|Lr g d (x:=.int i 0) rfl ?_;show RO _ _ (seqItems? (.ref t) >>= _) _ _ _;refine Kj<|L9 p l ?_;simp only[hx,Lz];refine Kj<|Mp<|Kj<|MD g d (by simp) ?_;show RO _ _ (SV (.type "StopIteration") [] >>= _) _ _ _;refine Kj ?_;simp only[newTuple,SV];refine Kj (LK ?_<|by size_fits);refine Kj (m:=N3 _ _) (MA (a:=Value.none) (by first|rfl|(simp only[N3];rfl))<|LK ?_<|by size_fits);simp only[raiseNew];refine Kj<|wpAny_handled ?_;first|rw[h]|rw[show A.in1.handled=J from h]
 exact Kj<|Ko<|wpAny_throw<|q _ _ (((Heap.SameBut.update ..).extBut.push _).push _) ⟨_,Heap.get?_push_size _ rfl,rfl⟩
theorem eO {k:RN}{b t:RL}{i:Y}{d:RW B}{x:B}{Q:B->Ki->Prop}(a:ItO s.heap k b t i)(e:SqO s.heap k t d)(hx:d[i]?=O x)
  (q:∀c,ItO c k b t (i+1)->Heap.SameBut b s.heap c->Q x {s with heap:=c}):RO (Km prog w) A (Builtin.SmallTypes.nextOf<|.ref b) Q E s:=by
 cases k with
 |false=>exact wpAny_nextOf_list_item (show s.heap.IsListIter b t i from a) (show s.heap.IsList t d from e) hx q
 |true=>exact pe a e hx q
theorem jv {k:RN}{b t:RL}{i:Y}{d:RW B}{Q:B->Ki->Prop}(f:A.handled=J)(a:ItO s.heap k b t i)(g:SqO s.heap k t d)(hx:d[i]?=J)
  (q:∀c e,Heap.ExtBut b s.heap c->(∃o,c.get? e=O o/\o.cls=.type "StopIteration")->E (.ref e) {s with heap:=c}):RO (Km prog w) A (Builtin.SmallTypes.nextOf<|.ref b) Q E s:=by
 cases k with
 |false=>exact wpAny_nextOf_list_end f (show s.heap.IsListIter b t i from a) (show s.heap.IsList t d from g) hx q
 |true=>exact sr f a g hx q
theorem qW {z TI TO g h r t:RL}{L M:RN}{n m:Y}{xs ys:RW B}{x y a b:B}{Q:B->Ki->Prop}(D:SF z TI TO g h r t)
  (F:Lo s.heap z TI TO .none) (hI:R5 s.heap TI (.ref g)<|.ref h) (hO:R5 s.heap TO a b) (h1:ItO s.heap L g r n) (h2:ItO s.heap M h t m) (q1:SqO s.heap L r xs) (q2:SqO s.heap M t ys) (hx:xs[n]?=O x) (hy:ys[m]?=O y)
  (q:∀ f,Lo f z TI TO (KP s.heap.objs.size)->R5 f TO x y->ItO f L g r (n+1)->ItO f M h t (m+1)->R5 f s.heap.objs.size x y->f.objs.size=s.heap.objs.size+1 ->
   (∀c o,c≠z->c≠TO->c≠g->c≠h->s.heap.get? c=O o->f.get? c=O o)->Q (.ref s.heap.objs.size) {s with heap:=f}):
  RO (Km prog w) A (Lu.«zip.__next__» ⟨[.ref z],[]⟩) (λfin s'=>∃v,fin=.done (.ret v)/\Q v s') E s:=by
 show RO _ _ (SU (.ref z) 2 >>= _) _ _ _;refine Kj<|Lr F rfl (x:=.bool Kg) rfl ?_;show RO _ _ (SU (.ref z) 3 >>= _) _ _ _;refine Kj<|Lr F rfl (x:=.ref TI) rfl (Kj<|L9 hI rfl ?_);show RO _ _ (Builtin.SmallTypes.ownedTupleIsFree (.ref z) >>= _) _ _ _;refine Kj ?_;unfold Builtin.SmallTypes.ownedTupleIsFree;refine Kj<|Lr F rfl (x:=.none) rfl (Ko ?_);simp only[Sn];refine Kj<|Mp<|Kj<|Lr F rfl (x:=.ref TO) rfl (Kj<|M9 F (by simp) λg1 z1 k=>?_)
 replace z1:Lo g1 z TI TO .ellipsis:=z1
 refine Kj ?_;simp only[P4,PV,Qb,P1];refine Kj<|Kj<|N1 ?_;show RO _ _ (Builtin.SmallTypes.nextOf (.ref g) >>= _) _ _ _;refine Kj<|eO (h1.at λo e=>k.extBut _ _ D.i1z e) (q1.at λo e=>k.extBut _ _ D.l1z e) hx λg2 r2 l=>Ko ?_;have p2:R5 g2 TO a b:=l.extBut _ _ D.TOi1<|k.extBut _ _ D.TOz hO;refine Kj<|L9 p2 rfl (Kj<|OL p2 λg3 p3 p=>Kj<|MP<|Ko ?_)
 replace p3:R5 g3 TO x b:=p3
 refine Kj<|Kj<|N1 ?_;show RO _ _ (Builtin.SmallTypes.nextOf (.ref h) >>= _) _ _ _;refine Kj<|eO (h2.at λo e=>p.extBut _ _ D.TOi2.symm<|l.extBut _ _ D.i12.symm<|k.extBut _ _ D.i2z e) (q2.at λo e=>p.extBut _ _ D.l2TO<|l.extBut _ _ D.l2i1<|k.extBut _ _ D.l2z e) hy λg4 r4 G=>Ko ?_;have p4:R5 g4 TO x b:=G.extBut _ _ D.TOi2 p3;refine Kj<|L9 p4 rfl (Kj<|OL p4 λd P H=>Kj<|MP<|Ko<|Ko ?_)
 replace P:R5 d TO x y:=P
 refine Kj<|L9 P rfl (Kj<|wpAny_newTuple ?_);have sz:d.objs.size=s.heap.objs.size:=by rw[H.1,G.1,p.1,l.1,k.1]
 have z5:Lo d z TI TO .ellipsis:=H.extBut _ _ D.TOz.symm<|G.extBut _ _ D.i2z.symm<|p.extBut _ _ D.TOz.symm<|l.extBut _ _ D.i1z.symm z1;have k5:∀c o,c≠z->c≠TO->c≠g->c≠h->s.heap.get? c=O o->d.get? c=O o:=λc o i N n3 n4 e=>H.extBut _ _ N<|G.extBut _ _ n4<|p.extBut _ _ N<|l.extBut _ _ n3<|k.extBut _ _ i e;have r5:ItO d L g r (n+1):=r2.at λo e=>H.extBut _ _ D.TOi1.symm<|G.extBut _ _ D.i12<|p.extBut _ _ D.TOi1.symm e;have t5:ItO d M h t (m+1):=r4.at λo e=>H.extBut _ _ D.TOi2.symm e;have I:z<d.objs.size:=Heap.lt_size z5;show RO _ _ (Builtin.SmallTypes.ownedTupleHandOut (.ref z) (.ref d.objs.size) >>= _) _ _ _;refine Kj ?_;unfold Builtin.SmallTypes.ownedTupleHandOut;have z6:Lo (d.push {cls:=.type "tuple",data:=.seq #[x,y]}) z TI TO .ellipsis:=Heap.get?_push_of_some _ z5;refine Kj<|M9 z6 (by simp) λg7 z7 s7=>?_
 replace z7:Lo g7 z TI TO (KP d.objs.size):=z7
 refine M9 z7 (by simp) λu Z s8=>?_
 replace Z:Lo u z TI TO (KP d.objs.size):=Z
 have up:∀c o,c≠z->d.get? c=O o->u.get? c=O o:=λc o i e=>s8.extBut _ _ i<|s7.extBut _ _ i<|Heap.get?_push_of_some _ e;have p8:R5 u d.objs.size x y:=s8.extBut _ _ (LS I)<|s7.extBut _ _ (LS I)<|Heap.get?_push_size _ rfl;have e8:u.objs.size=d.objs.size+1:=by rw[s8.1,s7.1,Heap.size_push]
 rw[sz] at Z p8 e8;refine Ko ⟨_,rfl,?_⟩;show Q (.ref d.objs.size) _;rw[sz];exact q u Z (up _ _ D.TOz P) (r5.at λo e=>up _ o D.i1z e) (t5.at λo e=>up _ o D.i2z e) p8 e8 λc o i N n3 n4 e=>up c o i<|k5 c o i N n3 n4 e
theorem uD {z TI TO l p u v:RL}{k1 k2:RN}{n m:Y}{N P:RW B}{a b:B}{Q:Fin->Ki->Prop}(hh:A.handled=J)(D:SF z TI TO l p u v)
  (k:Lo s.heap z TI TO .none) (hI:R5 s.heap TI (.ref l)<|.ref p) (hO:R5 s.heap TO a b) (h1:ItO s.heap k1 l u n) (h2:ItO s.heap k2 p v m) (q1:SqO s.heap k1 u N) (q2:SqO s.heap k2 v P) (i:N[n]?=J\/P[m]?=J)
  (q:∀H e,(∀c o,c≠z->c≠TO->c≠l->c≠p->s.heap.get? c=O o->H.get? c=O o)->(∃o,H.get? e=O o/\o.cls=.type "StopIteration")->E (.ref e) {s with heap:=H}):
  RO (Km prog w) A (Lu.«zip.__next__» ⟨[.ref z],[]⟩) Q E s:=by
 show RO _ _ (SU (.ref z) 2 >>= _) _ _ _;refine Kj<|Lr k rfl (x:=.bool Kg) rfl ?_;show RO _ _ (SU (.ref z) 3 >>= _) _ _ _;refine Kj<|Lr k rfl (x:=.ref TI) rfl (Kj<|L9 hI rfl ?_);show RO _ _ (Builtin.SmallTypes.ownedTupleIsFree (.ref z) >>= _) _ _ _;refine Kj ?_;unfold Builtin.SmallTypes.ownedTupleIsFree;refine Kj<|Lr k rfl (x:=.none) rfl (Ko ?_);simp only[Sn];refine Kj<|Mp<|Kj<|Lr k rfl (x:=.ref TO) rfl (Kj<|M9 k (by simp) λg1 t d=>?_)
 replace t:Lo g1 z TI TO .ellipsis:=t
 refine Kj ?_;simp only[P4,PV,Qb,P1];refine Kj<|Kj<|N1 ?_;show RO _ _ (Builtin.SmallTypes.nextOf (.ref l) >>= _) _ _ _;cases hx:N[n]? with
 |none=>
  refine Kj<|jv hh (h1.at λo e=>d.extBut _ _ D.i1z e) (q1.at λo e=>d.extBut _ _ D.l1z e) hx λG e f I=>?_;obtain⟨M,ho,h⟩:=I;have z2:Lo G z TI TO .ellipsis:=f _ _ D.i1z.symm t;have F:e≠z:=λy=>by subst y;rw[z2] at ho;cases ho;simp at h
  exact M9 z2 (by simp) λZ _ g=>q Z e (λc o r _ L _ y=>g.extBut _ _ r<|f _ _ L<|d.extBut _ _ r y) ⟨M,g.extBut _ _ F ho,h⟩
 |some x=>
  have hy:P[m]?=none:=i.elim (λy=>by rw[hx] at y;cases y) id;refine Kj<|eO (h1.at λo e=>d.extBut _ _ D.i1z e) (q1.at λo e=>d.extBut _ _ D.l1z e) hx λG r2 f=>Ko ?_;have p2:R5 G TO a b:=f.extBut _ _ D.TOi1<|d.extBut _ _ D.TOz hO;refine Kj<|L9 p2 rfl (Kj<|OL p2 λZ p3 g=>Kj<|MP<|Ko ?_);refine Kj<|Kj<|N1 ?_;show RO _ _ (Builtin.SmallTypes.nextOf (.ref p) >>= _) _ _ _;refine Kj<|jv hh (h2.at λo e=>g.extBut _ _ D.TOi2.symm<|f.extBut _ _ D.i12.symm<|d.extBut _ _ D.i2z e) (q2.at λo e=>g.extBut _ _ D.l2TO<|f.extBut _ _ D.l2i1<|d.extBut _ _ D.l2z e) hy λg4 e s4 I=>?_;obtain⟨M,ho,h⟩:=I;have z4:Lo g4 z TI TO .ellipsis:=s4 _ _ D.i2z.symm<|g.extBut _ _ D.TOz.symm<|f.extBut _ _ D.i1z.symm t;have F:e≠z:=λy=>by subst y;rw[z4] at ho;cases ho;simp at h
  exact M9 z4 (by simp) λg5 _ s5=>q g5 e (λc o r n2 L n4 y=>s5.extBut _ _ r<|s4 _ _ n4<|g.extBut _ _ n2<|f.extBut _ _ L<|d.extBut _ _ r y) ⟨M,s5.extBut _ _ F ho,h⟩
theorem oJ {z TI TO e f g h:RL}{i k:RN}{n m:Y}{r t:RW B}{x y a b:B}{Q:j B->Ki->Prop}(D:SF z TI TO e f g h)
  (p:Lo s.heap z TI TO .none) (G:R5 s.heap TI (.ref e)<|.ref f) (H:R5 s.heap TO a b) (u:ItO s.heap i e g n) (v:ItO s.heap k f h m) (L:SqO s.heap i g r) (M:SqO s.heap k h t) (hx:r[n]?=O x) (I:t[m]?=O y)
  (q:∀ d,Lo d z TI TO (KP s.heap.objs.size)->R5 d TO x y->ItO d i e g (n+1)->ItO d k f h (m+1)->R5 d s.heap.objs.size x y->d.objs.size=s.heap.objs.size+1 ->
   (∀c o,c≠z->c≠TO->c≠e->c≠f->s.heap.get? c=O o->d.get? c=O o)->Q (O<|.ref s.heap.objs.size) {s with heap:=d}):RO (Km prog w) A (LM<|.ref z) Q E s:=by
 have l:s.TypeIs (.ref z) "zip":=⟨_,p,rfl⟩;unfold LM;exact Kj<|N0<|Mn (name:=Str.ofString "__next__") l F.slot_zip_next<|LV F.slot_zip_next l F.entry_zip_next (qW D p G H u v L M hx I λd N P Z y4 y5 y6 y7=>Ko<|q d N P Z y4 y5 y6 y7)<|F.args_zip_next_1 _
theorem rA {z TI TO f g h i:RL}{r t:RN}{n m:Y}{u v:RW B}{a b:B}{Q:j B->Ki->Prop}(M:A.handled=J)(D:SF z TI TO f g h i)
  (p:Lo s.heap z TI TO .none) (G:R5 s.heap TI (.ref f)<|.ref g) (H:R5 s.heap TO a b) (x:ItO s.heap r f h n) (y:ItO s.heap t g i m) (N:SqO s.heap r h u) (P:SqO s.heap t i v) (d:u[n]?=J\/v[m]?=J)
  (q:∀k,(∀c o,c≠z->c≠TO->c≠f->c≠g->s.heap.get? c=O o->k.get? c=O o)->Q J {s with heap:=k}):RO (Km prog w) A (LM<|.ref z) Q E s:=by
 have l:s.TypeIs (.ref z) "zip":=⟨_,p,rfl⟩;unfold LM;refine Kj<|N0<|Mn (name:=Str.ofString "__next__") l F.slot_zip_next<|LV F.slot_zip_next l F.entry_zip_next (uD M D p G H x y N P d λk e hk L=>?_)<|F.args_zip_next_1 _;obtain⟨o,ho,I⟩:=L;exact Kj<|N6 (T:="StopIteration") (b:=Kh) ⟨o,ho,I⟩ isSubtype_stop<|Ko<|q _ hk
end
noncomputable def rX (k:RN)(a:RL):Obj:=match k with
|true=>{cls:=.type "tuple_iterator",data:=.fields #[.ref a,.int 0 0]}
|false=>{cls:=.type "list_iterator",data:=.fields #[.ref a,.int 0 0]}
abbrev zO1 (h:RU)(b:RN)(a:RL):RU:=h.push<|rX b a
abbrev zO2 (h:RU)(c d:RN)(a b:RL):RU:=(zO1 h c a).push<|rX d b
abbrev zO3 (h:RU)(b d:RN)(a c:RL):RU:=(zO2 h b d a c).push {cls:=.type "tuple",data:=.seq #[.ref h.objs.size,.ref (zO1 h b a).objs.size]}
abbrev zO4 (h:RU)(c d:RN)(a b:RL):RU:=(zO3 h c d a b).push {cls:=.type "tuple",data:=.seq #[.none,.none]}
abbrev zO5 (h:RU)(c d:RN)(a b:RL):RU:=(zO4 h c d a b).push {cls:=.type "zip",data:=.fields #[.none,.bool Kg,.bool Kg,.ref (zO2 h c d a b).objs.size,.ref (zO3 h c d a b).objs.size]}
theorem nJ (i k:RN)(a b:RL)(e f:RW B):
  Meets (Lu.«zip.__new__» ⟨[.type "zip",.ref a,.ref b],[]⟩) (λ_ R s=>SqO s.heap i a e/\SqO s.heap k b f/\R (.ok<|.ret<|.ref (zO4 s.heap i k a b).objs.size) {s with heap:=zO5 s.heap i k a b}):=
 .of_wp λprog w A R s h=>by
  obtain⟨hp,g,d,c,os⟩:=s;obtain⟨l,m,h⟩:=h;have n:=sub_zip;cases i<;>cases k
  .have e1:Heap.IsList (Shared.heap ⟨hp,g,d,c,os⟩) a e:=l;have e2:Heap.IsList (Shared.heap ⟨hp.push {cls:=.type "list_iterator",data:=.fields #[.ref a,.int 0 0]},g,d,c,os⟩) b f:=Heap.IsList.push m _
   wp_walk using Ma e1,Ma e2
   exact⟨_,rfl,h⟩
  .have e1:Heap.IsList (Shared.heap ⟨hp,g,d,c,os⟩) a e:=l;have e2:Heap.IsTuple (Shared.heap ⟨hp.push {cls:=.type "list_iterator",data:=.fields #[.ref a,.int 0 0]},g,d,c,os⟩) b f:=Heap.IsTuple.push m _
   wp_walk using Ma e1,NJ e2
   exact⟨_,rfl,h⟩
  .have e1:Heap.IsTuple (Shared.heap ⟨hp,g,d,c,os⟩) a e:=l;have e2:Heap.IsList (Shared.heap ⟨hp.push {cls:=.type "tuple_iterator",data:=.fields #[.ref a,.int 0 0]},g,d,c,os⟩) b f:=Heap.IsList.push m _
   wp_walk using NJ e1,Ma e2
   exact⟨_,rfl,h⟩
  .have e1:Heap.IsTuple (Shared.heap ⟨hp,g,d,c,os⟩) a e:=l;have e2:Heap.IsTuple (Shared.heap ⟨hp.push {cls:=.type "tuple_iterator",data:=.fields #[.ref a,.int 0 0]},g,d,c,os⟩) b f:=Heap.IsTuple.push m _
   wp_walk using NJ e1,NJ e2
   exact⟨_,rfl,h⟩
theorem qg {h:RU}{k:RN}{b a:RL}(e:h.get? b=O (rX k a)):ItO h k b a 0:=by cases k<;>exact⟨_,e,rfl,rfl⟩
theorem jG (k:RN)(a:RL):(rX k a).isFreed=false:=by cases k<;>rfl
section
variable {prog:RS}{w:Ks}{A:KO}{E:B->Ki->Prop}{s:Ki}
theorem yo {b e:RN}{a d:RL}{n p:RW B}{Q:B->Ki->Prop}(t:SqO s.heap b a n)(u:SqO s.heap e d p)
  (h:∀ f,Lo f (s.heap.objs.size+4) (s.heap.objs.size+2) (s.heap.objs.size+3) .none->R5 f (s.heap.objs.size+2) (.ref s.heap.objs.size) (.ref (s.heap.objs.size+1)) ->
   R5 f (s.heap.objs.size+3) .none .none->ItO f b s.heap.objs.size a 0->ItO f e (s.heap.objs.size+1) d 0->(∀c o,s.heap.get? c=O o->f.get? c=O o)->Q (.ref<|s.heap.objs.size+4) {s with heap:=f}):
  RO (Km prog w) A (call (.type "zip") [.ref a,.ref d]) Q E s:=by
 refine callType_new F.called_zip (by decide) (F.typeCall_zip_2 _ _) (F.newCall_zip_2 _ _) (λobj=>F.args_object_init_3 obj _ _) F.entry_zip_new (nJ b e a d n p) ⟨t,u,?_⟩;have e1:(zO1 s.heap b a).objs.size=s.heap.objs.size+1:=Heap.size_push ..;have e2:(zO2 s.heap b e a d).objs.size=s.heap.objs.size+2:=by rw[Heap.size_push,e1]
 have e3:(zO3 s.heap b e a d).objs.size=s.heap.objs.size+3:=by rw[Heap.size_push,e2]
 have i:(zO4 s.heap b e a d).objs.size=s.heap.objs.size+4:=by rw[Heap.size_push,e3]
 have g:(zO5 s.heap b e a d).get? (zO4 s.heap b e a d).objs.size=O _:=Heap.get?_push_size _ rfl;have m:(zO5 s.heap b e a d).get? (zO3 s.heap b e a d).objs.size=O _:=Heap.get?_push_of_some _<|Heap.get?_push_size _ rfl;have l:(zO5 s.heap b e a d).get? (zO2 s.heap b e a d).objs.size=O _:=Heap.get?_push_of_some _<|Heap.get?_push_of_some _<|Heap.get?_push_size _ rfl;have k:(zO5 s.heap b e a d).get? (zO1 s.heap b a).objs.size=O (rX e d):=Heap.get?_push_of_some _<|Heap.get?_push_of_some _<|Heap.get?_push_of_some _<|Heap.get?_push_size _<|jG e d;have r:(zO5 s.heap b e a d).get? s.heap.objs.size=O (rX b a):=Heap.get?_push_of_some _<|Heap.get?_push_of_some _<|Heap.get?_push_of_some _<|Heap.get?_push_of_some _<|Heap.get?_push_size _<|jG b a;show _/\_;rw[e2,e3,i] at g;rw[e1,e2] at l;rw[e3] at m;rw[e1] at k;rw[i];exact⟨⟨_,g,rfl⟩,h _ g l m (qg r) (qg k) λc o x=>Heap.get?_push_of_some _<|Heap.get?_push_of_some _<|Heap.get?_push_of_some _<|Heap.get?_push_of_some _<|Heap.get?_push_of_some _ x⟩
end
def Sq (K:Kk)(H:Hp):RN->RL->U V->Prop
|true,a,b=>SqT K H a b
|false,a,b=>SqL K H a b
section
variable {X:Cx}{pins:U (RL×Obj)}{σ:L2.St}{H:Hp}{s:Ki}
theorem qN (I:Inv X pins σ H s){k:RN}{a:RL}{c:U V}(h:Sq X.K H k a c):∃b:U B,Vals c b/\SqO s.heap k a b.toArray/\c.length<=sizeLine:=by
 cases k with
 |true=>obtain⟨b,r,p,z⟩:=I.tuple h;exact⟨b,r,p,z⟩
 |false=>obtain⟨b,r,p,z⟩:=I.list h;exact⟨b,r,p.isList,z⟩
theorem qa (I:Inv X pins σ H s){k:RN}{a:RL}{c d:U V}(h:Sq X.K H k a c)(b:Sq X.K H k a d):c=d:=by
 cases k with
 |true=>exact I.tuple_inj h b
 |false=>exact I.list_inj h b
theorem iy {d:RU}{ch:U RL}(I:Inv X pins σ H s)(g:∀b∈ch,H b=J)(k:∀b o,b ∉ ch->s.heap.get? b=O o->d.get? b=O o):HOk X.prog X.w H d:=λb u e=>by
 have a:∀b u,H b=O u->b ∉ ch:=λb u e z=>by rw[g b z] at e;cases e
 refine(I.hok b u e).stay (λc v f q=>k c v ?_ q) (λ_ q=>q) λ_ _ q=>q;rcases f with z|z
 .rw[z];exact a b u e
 .exact a c _ z
theorem iz {f:RU}{t':Y}{ch:U RL}(I:Inv X pins σ H s)(c:∀b∈ch,jg X pins H b)(k:∀b o,b ∉ ch->s.heap.get? b=O o->f.get? b=O o):Inv X pins σ H {s with heap:=f,toks:=t'}:=by
 refine I.step (g':=s.gens) (d':=s.drawn) (ch:=ch) (λb a=>⟨(c b a).2.2.2.1,(c b a).2.1,(c b a).2.2.2.2.1,(c b a).2.2.2.2.2⟩) (λb o _ _ d e _=>k b o d e) (λb o _ _ d e _=>⟨o.slots,k b o d e⟩) (λ_ _ _ _ n=>n)
  (λb o d e=>⟨o,k b o d e⟩) (λ_ _ e=>e) (λ_ _ _ e=>e) (λb i e=>⟨#[],by rw[e];simp⟩) (λm h=>?_) (iy I (λb a=>(c b a).1) k) I.bare
 obtain⟨o,g,ep,ho,r⟩:=h;exact⟨o,g,ep,k _ o (λz=>(c _ z).2.1 rfl) ho,r⟩
theorem d8 {h:RU}{t':Y}{ch:U RL}{a:RL}{i:U V}{c:U B}(I:Inv X pins σ H s)(f:∀b∈ch,jg X pins H b)(k:∀b o,b ∉ ch->s.heap.get? b=O o->h.get? b=O o)
  (l:s.heap.objs.size<=a) (x:i.length<=sizeLine) (w:Vals i c) (v:SI h a c.toArray):Inv X pins σ (upd H a<|.tup i) {s with heap:=h,toks:=t'}:=by
 have fr:H a=none:=I.hok.fresh l;have y:∀b o,s.heap.get? b=O o->b≠a:=λb o e=>KR<|Ld (Heap.lt_size e) l
 refine I.step (g':=s.gens) (d':=s.drawn) (ch:=ch) (λb d=>⟨(f b d).2.2.2.1,(f b d).2.1,(f b d).2.2.2.2.1,(f b d).2.2.2.2.2⟩) (λb o _ _ g e _=>k b o g e) (λb o _ _ g e _=>⟨o.slots,k b o g e⟩) (λb o _ e n=>by rw[af<|y b o e];exact n)
  (λb o g e=>⟨o,k b o g e⟩) (λb u e=>by rw[af<|aP e fr];exact e) (λb o u e=>by rw[af<|aP e fr];exact e) (λb A e=>⟨#[],by rw[af<|aP e fr,e];simp⟩) (λm t=>?_)
  (jM (iy I (λb d=>(f b d).1) k) fr ⟨x,c,w,v⟩) I.bare
 obtain⟨o,p,ep,ho,r⟩:=t;exact⟨o,p,ep,k _ o (λz=>(f _ z).2.1 rfl) ho,r⟩
end
def Itz (K:Kk)(e f:RN)(c d:RL):It:=
 ⟨fun i H=>∃ a b x y,Sq K H e c a/\Sq K H f d b/\a[i]?=O x/\b[i]?=O y,
  λi H v g=>∃p x y,v=.ref p/\H p=J/\g=upd H p (.tup [x,y])/\(∀a,Sq K H e c a->a[i]?=O x)/\∀b,Sq K H f d b->b[i]?=O y,
  λi H=>∃a b,Sq K H e c a/\Sq K H f d b/\(a.length<=i\/b.length<=i)⟩
def ZSt (z TI TO c d:RL)(g k:RN)(e f:RL)(i:Y)(h:RU):Prop:=
 Lo h z TI TO .none/\R5 h TI (.ref c) (.ref d)/\(∃a b,R5 h TO a b)/\ItO h g c e i/\ItO h k d f i
theorem uK {P:RS}{w:Ks}{K:Kk}{es:U RT}{kt:Y}{pt:Pos}{z TI TO t u Z a2:RL}{k1 k2:RN}(D:SF z TI TO t u Z a2):
  nU P w K (.Tuple es kt pt) (Itz K k1 k2 Z a2) [z,TI,TO,t,u] z (ZSt z TI TO t u k1 k2 Z a2) where
 mem:=by simp
 obj:=λi h l b d=>by
  obtain⟨m,g,⟨a,c,n⟩,p,r⟩:=l;simp only[KD,L5,R8] at d;rcases d with rfl|rfl|rfl|rfl|rfl
  .exact⟨_,m,λv y=>by cases y⟩
  .exact⟨_,g,λv y=>by cases y⟩
  .exact⟨_,n,λv y=>by cases y⟩
  .exact p.obj
  .exact r.obj
 keep:=λi h L l k=>by obtain⟨m,g,⟨a,c,n⟩,p,r⟩:=l;exact⟨k z (by simp) _ m,k TI (by simp) _ g,⟨a,c,k TO (by simp) _ n⟩,p.at λo e=>k t (by simp) o e,r.at λo e=>k u (by simp) o e⟩
 item:=by
  intro X hP hw hK hc i G s σ H E I M l hg;subst hP hw hK;obtain⟨xs,ys,x,y,N,Q,hx,hy⟩:=hg;obtain⟨m,g,⟨a,c,n⟩,p,r⟩:=l;obtain⟨A,v1,o1,z1⟩:=qN I N;obtain⟨F,v2,o2,z2⟩:=qN I Q;obtain⟨u1,e1,r1⟩:=v1.get hx;obtain⟨u2,e2,r2⟩:=v2.get hy
  have lt:∀b∈[z,TI,TO,t,u],b<s.heap.objs.size:=λb d=>by
   simp only[KD,L5,R8] at d;rcases d with rfl|rfl|rfl|rfl|rfl
   .exact Heap.lt_size m
   .exact Heap.lt_size g
   .exact Heap.lt_size n
   .obtain⟨o,e,_⟩:=p.obj;exact Heap.lt_size e
   .obtain⟨o,e,_⟩:=r.obj;exact Heap.lt_size e
  refine oJ D m g n p r o1 o2 (x:=u1) (y:=u2) (by simpa using e1) (by simpa using e2) λL y1 y2 y3 y4 y5 y6 y7=>⟨_,rfl,?_⟩;refine wpAny_letOwnedTupleGo_zip (s:={s with heap:=L}) y1 λh2 w1 sb=>?_;have f:Heap.SameBut z L h2:=sb;have nz:s.heap.objs.size≠z:=LS (lt z<|by simp);have kk:∀b o,b ∉ [z,TI,TO,t,u]->s.heap.get? b=O o->h2.get? b=O o:=λb o d e=>by simp only[KD,L5,R8,not_or] at d;exact(f.2 b d.1).trans<|y7 b o d.1 d.2.2.1 d.2.2.2.1 d.2.2.2.2 e
  have tp:SI h2 s.heap.objs.size [u1,u2].toArray:=⟨_,(f.2 _ nz).trans y5,rfl,_,rfl⟩
  refine⟨.ref s.heap.objs.size,upd H s.heap.objs.size<|.tup [x,y],d8 (s:=s) (t':=s.toks) I M kk (Kt _) (by show 2<=sizeLine;decide) (.cons r1<|.cons r2 .nil) tp,rfl,
   ⟨_,x,y,rfl,I.fresh,rfl,λzs hz=>by rw[qa I hz N];exact hx,λzs hz=>by rw[qa I hz Q];exact hy⟩,?_,λb d=>?_⟩
  .exact⟨w1,(f.2 _ D.TIz).trans<|y7 _ _ D.TIz D.TITO D.TIi1 D.TIi2 g,⟨_,_,(f.2 _ D.TOz).trans y2⟩,y3.at λo e=>(f.2 _ D.i1z).trans e,y4.at λo e=>(f.2 _ D.i2z).trans e⟩
  .rw[af<|KR<|lt b d];exact(M b d).1
 done:=by intro X hP hw hK hc i G s σ H E I M l hg;subst hP hw hK;obtain⟨xs,ys,N,Q,hl⟩:=hg;obtain⟨m,g,⟨a,c,n⟩,p,r⟩:=l;obtain⟨A,v1,o1,z1⟩:=qN I N;obtain⟨F,v2,o2,z2⟩:=qN I Q;have l1:=v1.length;have l2:=v2.length;refine rA (I.ok.hd hc) D m g n p r o1 o2 (hl.imp (λq=>by simp;lia) λq=>by simp;lia) λL hk=>⟨rfl,iz (t':=s.toks) I M λb o d e=>?_⟩;simp only[KD,L5,R8,not_or] at d;exact hk b o d.1 d.2.2.1 d.2.2.2.1 d.2.2.2.2 e
 self:=λ_ _ _ _ _ l h=>wpAny_pyIter_zip l.1 h
section
variable {X:Cx}
def HM (K:Kk)(f:TA):TI:=λk H R=>f k H λg a=>∃d e b c,g=[.ref b,.ref c]/\(∃h,Sq K a d b h)/\(∃i,Sq K a e c i)/\R (Itz K d e b c) a
theorem BH {a b:RT}{w:TA}{p pos pt:Pos}{y:U RT}{M:Y}(D:Gl X "zip")(F:X.mg "zip"=J)(A:PA X [a,b] w)(G:Kl [a,b] X.env=[(Kg,RV a X.env),(Kg,RV b X.env)]:=by rfl)(d:Kl [b] X.env=[(Kg,RV b X.env)]:=by rfl):
  PI X (.Tuple y M pt) (.Call (.Name "zip" p) [a,b] [] pos) (HM X.K w):=by
 intro f s σ H R I h;refine Call_ (cX I D F boot_zip<|NC (thn (A pos f s σ H _ I h) λus k ⟨vs,x,I1,r1,g⟩=>?_) (by rw[G,d])<|by rw[d];rfl);obtain⟨k1,k2,a1,a2,rfl,⟨xs,l⟩,⟨ys,m⟩,q⟩:=g;cases r1 with
 | cons r i =>
  cases i with
  | cons r' i =>
   cases i;cases r;cases r';obtain⟨o,v1,u,z1⟩:=qN I1 l;obtain⟨t,v2,v,z2⟩:=qN I1 m;refine yo u v λz g N P Q Z L=>?_;refine wpAny_pyIter_zip (s:={k with heap:=z}) g ?_;refine⟨_,_,_,_,x,rfl,I1.kept (t':=k.toks) L,uK<|zipApart_new u.lt v.lt,⟨g,N,⟨_,_,P⟩,Q,Z⟩,λb n=>?_,q⟩;have c:k.heap.objs.size<=b:=by simp only[KD,L5,R8] at n;rcases n with e|e|e|e|e<;>(rw[e];first|exact Qa _ _|exact Kt _)
   exact I1.fpOk c<|I1.hok.fresh c
end
structure ay (pre ys:U Str)(scope:R6):Prop where
 kind:scope.kind=.function
 cell:∀y∈scope.names,y.2≠.cell
 nm:∀y∈scope.names,y.2=.local->scope.names.lookup y.1=O .local
 loc:∀x∈pre,scope.names.lookup x=O .local
 nd:(pre++ys).Nodup
theorem tV {pre:U Str}{c:L2.St}{a:Y}{v:V}(e:(Ky pre.length J++c)[a]?=O (O v)):∃i,a=pre.length+i/\c[i]?=O (O v):=by
 by_cases b:a<pre.length
 .rw [M1<|by rw [LO]; exact b,MI,RJ b] at e;cases K8 e
 .refine ⟨a-pre.length,by lia,?_⟩;rw[L4<|by rw[LO];lia,LO] at e;exact e
theorem r9 {X:Cx}{t:U<|RL×Obj}{σ:L2.St}{H:Hp}{s:Ki}{pre D:U Str}{is:U Y}{g:R6}{A:U<|Str×RL}{Q:U RL}{C:RL}{Z:RU}{t1:Y}{m1:Str->j B}
  (I:Inv X t σ H s) (M:∀b∈Q,jg X t H b) (hfo:∀b∈Q,b<s.heap.objs.size) (S:ay pre D g) (h:Clo X A)
  (hfr:(g.names.all λp=>p.2 != .free || (A.lookup p.1).isSome)=Kh) (fr:Frees X g A D is)
  (L:s.heap.objs.size<=C) (m:∀b o,s.heap.get? b=O o->Z.get? b=O o) (hn:Z.Ns C m1):
  Inv (ah X (pre++D) g A C s H Q) t (Ky pre.length J++bQ σ is) H {s with heap:=Z,toks:=t1}:=by
 have G:∀b,b≠X.env.locals->b ∉ X.fs->b ∉ frs X.stack:=λb q1 q2 w=>(KD.mp<|I.stkSub b w).elim q1 q2
 have F:∀a k,(MJ g X.env).names.lookup a=O k->(k=.cell\/k=.free)->∃c,A.lookup a=O c:=λa k e hk=>by
  have hm:=Nk e;obtain⟨⟨n,k0⟩,hp,ep⟩:=KG.mp hm
  have hk0:k0=.free/\n=a:=by
   dsimp only at ep;split at ep
   .rename_i hc;simp only[KS] at hc;exact⟨eq_of_beq hc.1.1,(Qd ep).1⟩
   .obtain ⟨e1,e2⟩:=Qd ep;subst e2;rcases hk with z|z
    .exact RM z (S.cell _ hp)
    .exact⟨z,e1⟩
  obtain⟨z1,z2⟩:=hk0;subst z1 z2;have q:=K5.mp hfr _ hp;have q2:(A.lookup n).isSome=true:=by simpa using q
  exact Rn.mp q2
 refine⟨⟨I.ok.mod,S.kind,I.ok.glob,I.ok.blt,L,λa b c e1 e2=>I.ok.inj a b c (h.get e1)<|h.get e2,λa ha=>?_,λa c e=>RM e KH,I.ok.hd,I.ok.frames,.inl rfl,
   λb w=>⟨KR<|Ld (hfo b w) L,λa c e=>(M b w).2.2.2.2.1 a c<|h.get e⟩,I.bs,K0 I.ok.bsz I.sz,λb o e w=>?_,λb w=>G b (M b w).2.1 (M b w).2.2.1,I.stack,I.stkFree⟩,
  rfl,I.bare,Un.kept m,⟨m1,hn,λf y v e1 e2 e3=>?_⟩,λa c e=>?_,I.hok.fresh L,λa c e=>I.freeC a c<|h.get e,λp hp=>?_,I.hok.kept m,?_⟩
 .rcases ha with e | e
  .exact F a _ e (.inl rfl)
  .exact F a _ e (.inr rfl)
 .rcases (M b w).2.2.2.1 with z | z
  .exact I.ok.noex b o e z
  .exact RM (Ld (Heap.lt_size (I.ok.bs b o e).1) z) (LB _)
 .obtain ⟨k,rfl,P⟩:=tV e2;have N:D[k]?=O y:=by have x:(pre++D)[pre.length+k]?=O y:=e1;rw[L4 (by lia),Nat.add_sub_cancel_left] at x;exact x
  obtain⟨i,c,g1,g2,g3,g4,g5,g6,g7⟩:=fr.get (σ:=σ) N P;obtain⟨m0,hn0,hl0⟩:=I.loc;obtain⟨u,r,l⟩:=hl0 i y v g1 g2 g3;rcases l with⟨k,_⟩|⟨_,c',e',z⟩
  .rcases g4 with q | q
   .rw[k] at q;cases q
   .rw[k] at q;cases q
  .rw [g5] at e';cases e';obtain⟨o,ho,hd⟩:=z;exact⟨u,r,.inr ⟨g7,c,g6,⟨o,m _ _ ho,hd⟩⟩⟩
 .obtain ⟨v,o,ho,hd⟩:=I.cell a c<|h.get e;exact⟨v,o,m _ _ ho,hd⟩
 .obtain ⟨e,n,ne,nf,d⟩:=I.pin p hp;exact⟨m _ _ e,n,KR<|Ld (Heap.lt_size e) L,G _ ne nf,d⟩
 .show (Ky pre.length J++bQ σ is).length=(pre++D).length;unfold bQ;rw[KJ,KJ,LO,Kr,fr.len]
section
variable {X:Cx}
theorem oC {lo:Int}{b:RW B}{n:Y}(h:ItemsOf (λ(i:Y) (v:B)=>∃t,v=Value.int (lo+(i:Int) * 1) t) b n):Vals ((Kq n).map λ(k:Y)=>V.int<|lo+(k:Int)) b.toList:=by
 have d:∀(l:U B) (m:Y),l.length+m=n->(∀a v,l[a]?=O v->∃t,v=Value.int (lo+((m+a:Y):Int)) t)->Vals ((List.range' m l.length).map λ(k:Y)=>V.int (lo+(k:Int))) l:=by
  intro l;induction l with
  |nil=>intro m _ _;exact .nil
  |cons v l r=>intro m p f;obtain⟨t,e⟩:=f 0 v rfl;rw[Kz,List.range'_succ,K2];refine .cons ⟨t,by rw[e];rfl⟩<|r (m+1) (by rw[Kz] at p;lia) λa u c=>?_;obtain⟨s,g⟩:=f (a+1) u c;exact⟨s,by rw[g,show m+(a+1)=m+1+a by lia]⟩
 have o:b.toList.length=n:=by rw[K6];exact h.1
 have:=d b.toList 0 (by lia) λa v c=>by obtain⟨t,e⟩:=h.2 a v (by simpa using c);exact⟨t,by rw[e,Int.mul_one,MU]⟩
 rw[o] at this;rw[List.range_eq_range'];exact this
theorem oU (A:X.calm=Kh):cy X (.type "list") (λm H Q=>∃p i a,m=[.ref p]/\H p=O (.rng i a)/\(-(2 ^ 62)<=i/\i<2 ^ 62/\-(2 ^ 62)<=a/\a<2 ^ 62)/\(a-i).toNat<=sizeLine/\∀l,H l=J->Q (.ref l) (upd H l<|.lst<|(Kq (a-i).toNat).map λ(k:Y)=>V.int<|i+(k:Int))):=by intro g s N H m M Q I r h;obtain⟨p,i,a,rfl,hp,⟨o,w,x,y⟩,f,q⟩:=h;obtain⟨u,rfl,F⟩:=c5 r;cases F;obtain⟨t,u,v,e⟩:=I.hok p _ hp;refine call_list_range (I.ok.hd A) e (small_one o w x y) (n:=(a-i).toNat) (by rw[rangeSize_one];split<;>lia) (K0 f<|by decide) λL G b z hk d c=>?_;have D:=oC c;refine⟨.ref s.heap.objs.size,upd H s.heap.objs.size<|.lst<|(Kq (a-i).toNat).map λ(k:Y)=>V.int<|i+(k:Int),I.laid (t':=G) hk (Kt _) ⟨?_,b.toList,z,D,by rw[d,Pa]⟩,rfl,q _ I.fresh⟩;rw[Kr,K9];exact f
end
def Ite (K:Kk)(a:RL):It:=
 ⟨fun i H=>∃ b x,SqL K H a b/\b[i]?=O x,
  λi H v c=>∃p x,v=.ref p/\H p=J/\c=upd H p (.tup [.int (i:Int),x])/\∀b,SqL K H a b->b[i]?=O x,
  λi H=>∃b,SqL K H a b/\b.length<=i⟩
theorem rR {P:RS}{w:Ks}{K:Kk}{es:U RT}{kt:Y}{pt:Pos}{e n a:RL}(r:e≠n):nU P w K (.Tuple es kt pt) (Ite K a) [e,n] e (λi h=>(∃f,IsEnum h e n (i:Int) f)/\h.IsListIter n a i) where
 mem:=by simp
 obj:=λi h l b c=>by
  obtain⟨⟨f,g⟩,m⟩:=l;simp only[KD,L5,R8] at c;rcases c with rfl|rfl
  .exact⟨_,g,λv y=>by cases y⟩
  .obtain ⟨o,F,_,d⟩:=m;exact⟨o,F,λv y=>by rw[d] at y;cases y⟩
 keep:=λi h u l k=>by obtain⟨⟨f,g⟩,m⟩:=l;exact⟨⟨f,k e (by simp) _ g⟩,m.at λo z=>k n (by simp) o z⟩
 item:=by
  intro X M Q L hc i t s σ H E I A l N;subst M Q L;obtain⟨xs,x,D,hx⟩:=N;obtain⟨⟨f,g⟩,m⟩:=l;obtain⟨Z,v1,o1,z1⟩:=I.list D;obtain⟨u1,e1,r1⟩:=v1.get hx
  have lt:∀b∈[e,n],b<s.heap.objs.size:=λb c=>by
   simp only[KD,L5,R8] at c;rcases c with rfl|rfl
   .exact Heap.lt_size g
   .obtain⟨o,F,_⟩:=m;exact Heap.lt_size F
  refine wpAny_pyNext_enum_item g m o1.isList (x:=u1) (by simpa using e1) r λu y1 y2 y3 y4 y5=>⟨_,rfl,?_⟩;refine wpAny_letOwnedTupleGo_enum (s:={s with heap:=u,toks:=s.toks+1}) y1 λG w1 sb=>?_;have p:Heap.SameBut e u G:=sb;have nz:s.heap.objs.size≠e:=LS (lt e<|by simp);have kk:∀b o,b ∉ [e,n]->s.heap.get? b=O o->G.get? b=O o:=λb o c z=>by simp only[KD,L5,R8,not_or] at c;exact(p.2 b c.1).trans<|y5 b o c.1 c.2 z
  have tp:SI G s.heap.objs.size [.int (i:Int) s.toks,u1].toArray:=⟨_,(p.2 _ nz).trans y3,rfl,_,rfl⟩
  refine⟨.ref s.heap.objs.size,upd H s.heap.objs.size<|.tup [.int (i:Int),x],d8 (s:=s) (t':=s.toks+1) I A kk (Kt _) (by show 2<=sizeLine;decide) (.cons ⟨_,rfl⟩<|.cons r1 .nil) tp,rfl,
   ⟨_,x,rfl,I.fresh,rfl,λzs hz=>by rw[I.list_inj hz D];exact hx⟩,?_,λb c=>?_⟩
  .exact⟨⟨_,w1⟩,y2.at λo z=>(p.2 _<|Lg r).trans z⟩
  .rw[af<|KR<|lt b c];exact(A b c).1
 done:=by intro X M Q L hc i t s σ H E I A l N;subst M Q L;obtain⟨xs,D,hl⟩:=N;obtain⟨⟨f,g⟩,m⟩:=l;obtain⟨Z,v1,o1,z1⟩:=I.list D;have l1:=v1.length;refine wpAny_pyNext_enum_end (I.ok.hd hc) g m o1.isList (by simp;lia) λu eb=>⟨rfl,iz (t':=s.toks) I A λb o c z=>eb b o (λy=>c<|by simp[y]) z⟩
 self:=λ_ _ _ _ _ l h=>by obtain⟨⟨f,g⟩,_⟩:=l;exact wpAny_pyIter_enum g h
section
variable {X:Cx}
def Bl (K:Kk)(c:TA):TI:=λf H R=>c f H λd b=>∃a,d=[.ref a]/\(∃e,SqL K b a e)/\R (Ite K a) b
theorem xK {a:RT}{l:TA}{p pos pt:Pos}{n:U RT}{z:Y}(u:Gl X "enumerate")(v:X.mg "enumerate"=J)(t:PA X [a] l)(w:Kl [a] X.env=[(Kg,RV a X.env)]:=by rfl):
  PI X (.Tuple n z pt) (.Call (.Name "enumerate" p) [a] [] pos) (Bl X.K l):=by
 intro d s L H R I h;refine Call_<|cX I u v boot_enumerate<|NC (thn (t pos d s L H _ I h) λM g ⟨P,m,I1,F,f⟩=>?_) w rfl;obtain⟨a,rfl,⟨Q,i⟩,q⟩:=f;cases F with
 | cons r G =>
  cases G;cases r;obtain⟨x,N,A,Z⟩:=I1.list i;refine call_enumerate_list A.isList λo f D _ y=>?_;refine wpAny_pyIter_enum (s:={g with heap:=o}) f ?_;refine⟨_,_,_,_,m,rfl,I1.kept (t':=g.toks) y,rR<|Nat.succ_ne_self _,⟨⟨_,f⟩,D⟩,λb k=>?_,q⟩;have c:g.heap.objs.size<=b:=by simp only[KD,L5,R8] at k;rcases k with e|e<;>(rw[e];first|exact Qa _ _|exact Kt _)
  exact I1.fpOk c<|I1.hok.fresh c
end
section
variable {prog:RS}{w:Ks}{A:KO}{R:Ml->Ki->Prop}{s:Ki}
theorem mT {D M k f:RT}{c:R6}{pos:Pos}{L u:B}{b:Env}(a:Y->Ki->Prop)
  (turn:∀ n s,a n s->RO (Km prog w) A (LM L) (fun r d=>match r with
   |none=>R (.ok .next) d
   | some v=>RO (Km prog w) A (M5 M L v) (fun _ l=>RO (Km prog w) A (LR M b v) (fun _ o=>RO (Km prog w) A (SN f b (RV f b)) (fun ok e=>if ok=Kh then
     RO (Km prog w) A (RV D b) (λy p=>RO (Km prog w) A (call (.builtin "list.append") [u,y]) (λ_ t=>∃m,m<n/\a m t) noX p) noX e else∃m,m<n/\a m e) noX o) noX l) noX d) noX s)
  (n:Y) (h:a n s):Lp (Km prog w) A (.compLoop (.ListComp D [⟨M,k,[f],0⟩] c pos) 0 L u b) R s:=by
 refine codeAny_loop rfl a (λn s N=>?_) n h;show RO _ A ((compTurn (.ListComp D [⟨M,k,[f],0⟩] c pos) 0 L u b).onRaise (λx=>do noteFrame x b;theTreesLotGoes x)) _ _ s;refine wpAny_noted ?_;rw[compTurn_list];refine Kj<|N2<|Kj<|Lb (turn n s N) (λr d g=>?_) λ_ _ z=>z.elim;cases r with
 |none=>exact Ko g
 |some v=>
  refine Kj<|Lb g (λ_ l F=>?_) λ_ _ z=>z.elim;refine Kj<|Lb F (λ_ o G=>?_) λ_ _ z=>z.elim;refine Kj<|wpAny_tests_one<|Lb G (λok e i=>?_) λ_ _ z=>z.elim;cases ok with
  |true=>exact Kj<|Kj<|Lb i (λy p H=>Kj<|Lb H (λ_ t I=>Ko<|Ko ⟨rfl,I⟩) λ_ _ z=>z.elim) λ_ _ z=>z.elim
  |false=>exact Kj<|Ko<|Ko ⟨rfl,i⟩
end
end L3

namespace L3
open PySem PySem.Spec PyProof.Rows L2
def AN (n:Y)(a:It)(g:TG)(r:TT)(s:TE)(c:L2.St)(k:Hp)(Q:VK):Prop:=∃W:Y->Y->U V->Hp->Prop,(∃m,W 0 m [] k)/\∀i m d H,W i m d H ->
 (a.stop i H/\d.length<=sizeLine/\∀p,H p=J->Q (.ref p) (upd H p<|.lst d)) \/
 (a.go i H/\d.length<sizeLine/\∀x f,a.yld i H x f->g x (Ky n J++c) f λb l=>(b.length=n+c.length/\b.drop n=c)/\r b l λok h=>if ok=Kh then s b h λy o=>∃e,e<m/\W (i+1) e (d++[y]) o else∃e,e<m/\W (i+1) e d h)
def zq (n:Y)(a:It)(g:TG)(o:TE)(b:L2.St)(h:Hp)(Q:VK):Prop:=∃W:Y->Y->U V->Hp->Prop,(∃m,W 0 m [] h)/\∀i m d H,W i m d H ->
 (a.stop i H/\d.length<=sizeLine/\∀p,H p=J->Q (.ref p) (upd H p<|.lst d)) \/
 (a.go i H/\d.length<sizeLine/\∀x e,a.yld i H x e->g x (Ky n J++b) e λc k=>(c.length=n+b.length/\c.drop n=b)/\o c k λy l=>∃f,f<m/\W (i+1) f (d++[y]) l)
def dP (n:Y)(h:TI)(d:U Y)(g:TG)(e:TT)(f:TE):TE:=λb H Q=>h b H λa c=>AN n a g e f (bQ b d) c Q
def lu (n:Y)(f:TI)(d:U Y)(g:TG)(e:TE):TE:=λb H Q=>f b H λa c=>zq n a g e (bQ b d) c Q
theorem vU {n:Y}{c b:L2.St}(h:c.drop n=b){a:Y}{w:V}(e:(Ky n J++b)[a]?=O (O w)):c[a]?=O (O w):=by
 by_cases d:a<n
 .rw [M1<|by simpa using d,MI,RJ d] at e;cases K8 e
 .rw [L4<|by simpa using d,LO,<- h,QY,Nat.add_sub_cancel'<|by lia] at e;exact e
def CW (X:Cx)(a:U RT)(k:RN->Ki->Prop)(s:Ki):Prop:=match a with
|[]=>k Kh s
|[c]=>RO (Km X.prog X.w) X.A (SN c X.env<|RV c X.env) k noX s
|_=>RX
def PC (X:Cx)(d:U RT)(f:TT):Prop:=∀(a:U<|RL×Obj) (s:Ki) (b:L2.St) (H:Hp) (Q:RN->Hp->Prop),Inv X a b H s->f b H Q->CW X d (λok e=>∃c,Inv X a b c e/\Q ok c) s
theorem CW.mono {X:Cx}{a:U RT}{k d:RN->Ki->Prop}{s:Ki}(h:CW X a k s)(w:∀b s,k b s->d b s):CW X a d s:=by
 match a,h with
 |[],h=>exact w _ _ h
 |[c],h=>exact Lb h w λ_ _ z=>z
theorem nq {X:Cx}{g z i:RT}{t:U RT}{e:R6}{pos:Pos}{x f:B}{R:Ml->Ki->Prop}{s:Ki}(a:Y->Ki->Prop)
  (turn:∀ n s,a n s->RO (Km X.prog X.w) X.A (LM x) (fun r b=>match r with
   |none=>R (.ok .next) b
   | some v=>RO (Km X.prog X.w) X.A (M5 z x v) (fun _ k=>RO (Km X.prog X.w) X.A (LR z X.env v) (fun _ l=>CW X t (fun ok d=>if ok=Kh then
     RO (Km X.prog X.w) X.A (RV g X.env) (λy o=>RO (Km X.prog X.w) X.A (call (.builtin "list.append") [f,y]) (λ_ p=>∃m,m<n/\a m p) noX o) noX d else∃m,m<n/\a m d) l) noX k) noX b) noX s)
  (n:Y) (h:a n s) (u:t.length<=1):Lp (Km X.prog X.w) X.A (.compLoop (.ListComp g [⟨z,i,t,0⟩] e pos) 0 x f X.env) R s:=by
 match t,u with
 |[],_=>exact oZ a turn n h
 |[c],_=>exact mT a turn n h
theorem lM {X:Cx}{elt P tg:RT}{cs:U RT}{pre:U Str}{pos:Pos}{k:R6}{N:U<|Str×RL}{Z:U Str}{is:U Y}{wi:TI}{g:TG}{te:TE}{tc:TT}{use:j<|B->Sem Unit}{Q:VK}{Qp:B->Ki->Prop}{m:U<|RL×Obj}{s:Ki}{σ:L2.St}{H:Hp}{ip:Pos}
  (hc:X.calm=Kh) (hi:PI X tg P wi) (hg:∀C s H F,PG (ah X (pre++Z) k N C s H F) tg g) (he:∀C s H F,PE (ah X (pre++Z) k N C s H F) elt te) (hcd:∀C s H F,PC (ah X (pre++Z) k N C s H F) cs tc) (hcs:cs.length<=1)
  (hclos:LD k X.env=pure N) (S:ay pre Z k) (hcl:Clo X N) (hfr:(k.names.all λp=>p.2 != .free || (N.lookup p.1).isSome)=Kh) (fr:Frees X k N Z is) (hs:∀v,Lj P X.env v=pure v)
  (fin:∀(s4:Ki) (Hn:Hp) (D L:RL) (m4:Str->j B),Inv X m σ Hn s4->s4.heap.Ns L m4->L≠X.env.locals->(∀a c,X.env.cells.lookup a=O c->c≠L)->Hn L=J->X.s₀.heap.objs.size<=L->(∀p∈X.pn++m,p.1≠L)->Q (.ref D) Hn->compPost (Km X.prog X.w) X.A X.xe use Qp (.ref D) L (.ok .next) s4)
  (I:Inv X m σ H s) (h:dP pre.length wi is g tc te σ H Q):
  RO (Km X.prog X.w) X.A (Su (.ListComp elt [⟨tg,P,cs,0⟩] k pos) k X.env ip (newList []) Kg (RV P X.env) use) Qp X.xe s:=by
 refine wpAny_comprehension_free (use:=use) rfl hs hclos S.kind S.nm (thn (hi m s σ H _ I h) λxv s1 h1=>thn h1 λitv l h2=>?_);obtain⟨it,F,tn,d,M,rfl,I2,T,st2,f2,W,⟨m0,w0⟩,turn⟩:=h2;have fpo:∀b∈F,b<l.heap.objs.size:=λb t=>by obtain⟨o,e,_⟩:=T.obj _ _ st2 b t;exact Heap.lt_size e
 refine LK<|wpAny_newFunctionEnv S.cell (λy hy=>by cases hy) (λg' hns hsb=>?_) S.kind;dsimp only at hns hsb ⊢;generalize hP2:l.heap.push {cls:=.type "list",dict:=J,data:=.seq ([]:U B).toArray}=P2 at hns hsb ⊢;have hCs:P2.objs.size=l.heap.objs.size+1:=by rw[<- hP2,Heap.size_push]
 have hDC:l.heap.objs.size≠P2.objs.size:=by lia
 have hle:l.heap.objs.size<=P2.objs.size:=by lia
 have nc:∀b o,l.heap.get? b=O o->b≠P2.objs.size:=λb o e=>KR<|Ld (Heap.lt_size e) hle;have nd:∀b o,l.heap.get? b=O o->b≠l.heap.objs.size:=λb o e=>KR<|Heap.lt_size e;have ndH:∀b u,M b=O u->b≠l.heap.objs.size:=λb u e=>KR<|I2.hok.lt e;have old:∀b o,l.heap.get? b=O o->g'.get? b=O o:=λb o e=>hsb.extBut b o (nc b o e)<|Heap.get?_push_of_some _<|hP2 ▸ Heap.get?_push_of_some _ e;have accD:g'.get? l.heap.objs.size=O (kL []):=hsb.extBut _ _ hDC<|Heap.get?_push_of_some _<|hP2 ▸ Heap.get?_push_size _ rfl;have stkD:l.heap.objs.size ∉ frs X.stack:=λt=>(KD.mp<|I2.stkSub _ t).elim (λz=>RM z<|LS I2.lt)<|I2.nofs<|Kt _;generalize hσ':bQ σ is=σ' at turn;have I3:Inv (ah X (pre++Z) k N P2.objs.size l M F) m (Ky pre.length J++σ') M {l with heap:=g',toks:=l.toks+([]:U<|Str×B).length}:=by rw[<- hσ'];exact r9 (pre:=pre) I2 f2 fpo S hcl hfr fr hle old hns
 have stat:∀{H':Hp} {o:Obj},(∀b∈F,H' b=J)->∀b∈F,jg (ah X (pre++Z) k N P2.objs.size l M F) (m++[(l.heap.objs.size,o)]) H' b:=λ{H' o} hn b t=>by
  refine⟨hn b t,KR<|Ld (fpo b t) hle,λz=>(KD.mp<|I2.stkSub _ z).elim (f2 b t).2.1 (f2 b t).2.2.1,.inl t,λa c e=>(f2 b t).2.2.2.2.1 a c<|hcl.get e,λp hp=>?_⟩;rcases Li.mp hp with z|z
  .exact(f2 b t).2.2.2.2.2 p<|LU _ z
  .rcases Li.mp z with z | z
   .exact(f2 b t).2.2.2.2.2 p<|K7 _ z
   .rw [K1.mp z];exact LS<|fpo b t
 have loop:Lp (Km X.prog X.w) X.A (.compLoop (.ListComp elt [⟨tg,P,cs,0⟩] k pos) 0 (.ref it) (.ref l.heap.objs.size) (compEnvC k N P2.objs.size X.env))
   (compPost (Km X.prog X.w) X.A X.xe use Qp (.ref l.heap.objs.size) P2.objs.size) {l with heap:=g',toks:=l.toks+([]:U<|Str×B).length}:=by
  refine nq (X:=ah X (pre++Z) k N P2.objs.size l M F) (λn s'=>∃i zs x H',Inv (ah X (pre++Z) k N P2.objs.size l M F) m (Ky pre.length J++σ') H' s'/\tn i s'.heap/\(∀b∈F,H' b=J)/\s'.heap.get? l.heap.objs.size=O (kL x)/\Vals zs x/\H' l.heap.objs.size=J/\W i n zs H')
   ?_ m0 ⟨0,[],[],M,I3,T.keep _ _ _ st2 λb _ o e=>old b o e,λb t=>(f2 b t).1,accD,.nil,I2.hok.fresh<|Kt _,w0⟩ hcs
  rintro n s3 ⟨i,zs,x,H3,J3,st3,fr3,d3,rv3,nd3,w3⟩;have hzl:=rv3.length
  have J3':Inv (ah X (pre++Z) k N P2.objs.size l M F) (m++[(l.heap.objs.size,kL x)]) (Ky pre.length J++σ') H3 s3:=J3.pins_of λp hp=>by
   rcases Li.mp hp with z|z
   .exact J3.pin p (K7 _ z)
   .rw [K1.mp z];exact⟨d3,nd3,hDC,stkD,λv q=>by cases q⟩
  rcases turn i n zs H3 w3 with⟨stop,hz,q⟩|⟨go,hz,step⟩
  .refine Lb (T.done (ah X (pre++Z) k N P2.objs.size l M F) rfl rfl rfl hc i _ s3 _ H3 noX J3' (stat fr3) st3 stop) (fun r s4 h4=>?_) fun _ _ z=>z.elim;obtain⟨hr,I4⟩:=h4;subst hr;obtain⟨m4,hn4,_⟩:=id I4.loc;have f4:H3 P2.objs.size=none:=I4.free;have d4:s4.heap.get? l.heap.objs.size=O (kL x):=(I4.pin (l.heap.objs.size,kL x) (K7 _ (K7 _ (K1.mpr rfl)))).1;have u4:Un (frs X.stack) F M H3 l.heap s4.heap:=I4.base
   have un:Un (frs X.stack) F M (upd H3 l.heap.objs.size (.lst zs)) l.heap s4.heap:=
    ⟨u4.keep,u4.slot,fun b o e n hx=>by rw [af (nd b o e)]; exact u4.free b o e n hx,u4.there,
     λb xs q=>by rw[af<|ndH b _ q];exact u4.tups b xs q,λb o u q=>by rw[af<|ndH b _ q];exact u4.frzs b o u q,λb ps q=>by rw[af<|ndH b _ q];exact u4.tbls b ps q⟩
   have IX:Inv X m σ (upd H3 l.heap.objs.size (.lst zs)) s4:=I2.call' (s':=s4) (ch:=F) I4.os un (jM I4.hok nd3 ⟨hz,x,x.length,rv3,d4⟩) I4.bare
    (λb t=>⟨(f2 b t).2.2.2.1,(f2 b t).2.1,(f2 b t).2.2.2.2.1,(f2 b t).2.2.2.2.2⟩)
   have cL:P2.objs.size≠X.env.locals:=LS<|Ld I2.lt hle;have cC:∀a c,X.env.cells.lookup a=O c->c≠P2.objs.size:=λa c e=>by obtain⟨v',o',ho',_⟩:=I2.cell a c e;exact nc c o' ho'
   exact fin s4 _ l.heap.objs.size P2.objs.size m4 IX hn4 cL cC (by rw[af<|Lg hDC];exact f4) (K0 I2.sz hle) (λp hp=>nc p.1 _ (I2.pin p hp).1)<|q _ nd3
  .refine Lb (T.item (ah X (pre++Z) k N P2.objs.size l M F) rfl rfl rfl hc i _ s3 _ H3 noX J3' (stat fr3) st3 go) (fun r s4 h4=>?_) fun _ _ z=>z.elim;obtain⟨u,hr,h4⟩:=h4;subst hr;refine Lb h4 (λ_ s5 h5=>?_) λ_ _ z=>z.elim;obtain⟨v,H5,I5,r5,y5,st5,fr5⟩:=h5;have I5':=I5.pinned (stat fr5) (T.obj _ _ st5);refine Lb (hg P2.objs.size l M F _ s5 _ H5 v u _ I5' r5 (step v H5 y5)) (λ_ s6 h6=>?_) λ_ _ z=>z.elim;obtain⟨σ6,H6,I6,⟨hl6,hd6⟩,step'⟩:=h6;have back:∀{H7:Hp} {s7:Ki},Inv (ah X (pre++Z) k N P2.objs.size l M F) ((m++[(l.heap.objs.size,kL x)])++gR F s5.heap) σ6 H7 s7->Inv (ah X (pre++Z) k N P2.objs.size l M F) m (Ky pre.length J++σ') H7 s7:=λI7=>I7.unpinned.unpinned.weak (by rw[hl6,KJ,LO]) λf w' e=>vU hd6 e;refine CW.mono (hcd P2.objs.size l M F _ s6 _ H6 _ I6 step') λok s6' h6'=>?_;obtain⟨H6',I6',q6⟩:=h6';cases ok with
   | false =>
    rw[RK KH] at q6;obtain⟨m',hm',w7⟩:=q6;have G:=I6'.pin (l.heap.objs.size,kL x)<|K7 _<|LU _<|K7 _<|K1.mpr rfl;rw[RK KH];refine⟨m',hm',i+1,zs,x,H6',back I6',T.keep _ _ _ st5 λb t o e=>?_,λb t=>?_,G.1,rv3,G.2.1,w7⟩
    .exact(I6'.pin (b,o)<|K7 _<|K7 _<|bP t e).1
    .obtain ⟨o,e,_⟩:=T.obj _ _ st5 b t;exact(I6'.pin (b,o)<|K7 _<|K7 _<|bP t e).2.1
   | true =>
    rw[RJ rfl] at q6 ⊢;refine Lb (he P2.objs.size l M F _ s6' _ H6' _ I6' q6) (λyv s7 h7=>?_) λ_ _ z=>z.elim;obtain⟨y',H7,I7,r7,m',hm',w7⟩:=h7;have G:=I7.pin (l.heap.objs.size,kL x)<|K7 _<|LU _<|K7 _<|K1.mpr rfl;refine append_at (hsz:=by show x.toArray.size<=sizeLine;rw[KU];lia) G.1 λh8 sb8 hD8=>?_
    have I8:Inv (ah X (pre++Z) k N P2.objs.size l M F) m (Ky pre.length J++σ') H7 {s7 with heap:=h8}:=(back I7).turned (t':=s7.toks) (it:=l.heap.objs.size) (λb o t e=>(sb8.2 b t).trans e) G.2.1 hDC (.inr<|Kt _)
     (fun a c e z=>by
      obtain⟨v',o',ho',_⟩:=I2.cell a c<|hcl.get e;exact nd c o' ho' z)
     (λp hp=>nd p.1 _ (I2.pin p hp).1)
    refine⟨m',hm',i+1,zs++[y'],x++[yv],H7,I8,T.keep _ _ _ st5 λb t o e=>?_,λb t=>?_,?_,rv3.append<|.cons r7 .nil,G.2.1,w7⟩
    .exact(sb8.2 b<|KR<|fpo b t).trans (I7.pin (b,o)<|K7 _<|K7 _<|bP t e).1
    .obtain ⟨o,e,_⟩:=T.obj _ _ st5 b t;exact(I7.pin (b,o)<|K7 _<|K7 _<|bP t e).2.1
    .show h8.get? l.heap.objs.size=_;rw[hD8];simp[kL]
 exact codeAny_compStart_list loop<|T.self X.A 0 _ _ _ (T.keep _ _ _ st2 λb _ o e=>old b o e) loop
section
variable {X:Cx}{elt iter tg cnd:RT}{pre:U Str}{pos spos pz:Pos}{z:Str}{jz:Y}{scope:R6}{cl:U (Str×RL)}{ys:U Str}{is:U Y}{wi:TI}{g:TG}{te:TE}{tc:TT}
theorem pcF (h:PT X cnd tc)(hx:∀v s,X.xe v s->RX):PC X [cnd] tc:=λa s b H Q I q=>Lb (h a s b H Q I q) (λ_ _ z=>z) λv s z=>hx v s z
def tT:TT:=λ_ H Q=>Q Kh H
theorem pcN:PC X [] tT:=λa s b H Q I q=>⟨H,I,q⟩
theorem goN {n:Y}{a:L2.St}{H:Hp}{Q:VK}(h:lu n wi is g te a H Q):dP n wi is g tT te a H Q:=h
theorem mP {d:U RT}(x:X.calm=Kh)(F:PI X tg iter wi)(A:∀C s H c,PG (ah X (pre++ys) scope cl C s H c) tg g)(y:∀C s H c,PE (ah X (pre++ys) scope cl C s H c) elt te)(f:∀C s H c,PC (ah X (pre++ys) scope cl C s H c) d tc)(k:d.length<=1)
  (a:LD scope X.env=pure cl) (S:ay pre ys scope) (i:Clo X cl) (l:(scope.names.all λp=>p.2 != .free || (cl.lookup p.1).isSome)=Kh) (fr:Frees X scope cl ys is) (M:∀v,Lj iter X.env v=pure v):
  PE X (.ListComp elt [⟨tg,iter,d,0⟩] scope pos) (dP pre.length wi is g tc te):=by
 intro m s σ H Q I h;rw[eval_ListComp];show RO _ _ (Su _ scope X.env _ (newList []) Kg (RV iter X.env) J) _ _ s;refine lM x F A y f k a S i l fr M (λZ Hn D L P n G t r u N hp q=>?_) I h;exact⟨P,G,λh' sb=>⟨.ref D,_,n.turned (t':=Z.toks) (it:=L) (λb o w e=>(sb.2 b w).trans e) u t (.inr N) r hp,rfl,q⟩⟩
theorem mx {f:U RT}(hN:X.N.Nodup)(hj:X.N[jz]?=O z)(c:Loc X.env.scope z)(w:Ln (.ListComp elt [⟨tg,iter,f,0⟩] scope pos) (O<|.Name z pz) spos.line X.env=pure Kh)(hc:X.calm=Kh)(hi:PI X tg iter wi)(hg:∀C s H i,PG (ah X (pre++ys) scope cl C s H i) tg g)(he:∀C s H i,PE (ah X (pre++ys) scope cl C s H i) elt te)(m:∀C s H i,PC (ah X (pre++ys) scope cl C s H i) f tc)(r:f.length<=1)
  (a:LD scope X.env=pure cl) (S:ay pre ys scope) (n:Clo X cl) (u:(scope.names.all λp=>p.2 != .free || (cl.lookup p.1).isSome)=Kh) (fr:Frees X scope cl ys is) (hs:∀v,Lj iter X.env v=pure v) (t:X.fn z=Kh\/X.env.scope.names.lookup z=O .local):
  PS X (.Assign [.Name z pz] (.ListComp elt [⟨tg,iter,f,0⟩] scope pos) spos) (qZ (dP pre.length wi is g tc te)<|dG jz):=by
 intro k s σ H D I h;rw[exec_Assign_Name_used _ _ _ _ w];refine Kj<|N2<|Kj ?_;show RO _ _ (do let _ <- Su (.ListComp elt [⟨tg,iter,f,0⟩] scope pos) scope X.env _ (newList []) Kg (RV iter X.env) (O (LR (.Name z pz) X.env))) _ _ s;refine Kj<|thn (lM (use:=O<|LR (.Name z pz) X.env) (Qp:=λ_ F=>SP X k D .next F) hc hi hg he m r a S n u fr hs (λs4 Hn d L m4 M hn A y Z hz hp q=>?_) I h) λ_ F hq=>Ko<|Ko hq;show RO _ _ (LR (.Name z pz) X.env<|.ref d) _ _ s4;refine wpAny_assign_Name<|jA M hN hj c (v:=.ref d) rfl (λs5 G Q=>?_) t;obtain⟨P,x,l⟩:=Q;have na:L≠P:=l.elim (λe=>by rw[e];exact A) λe=>Lg<|y _ _ e;exact⟨m4,hn.sameBut x na,λh' sb=>⟨_,_,G.turned (t':=s5.toks) (it:=L) (λb o hb e=>(sb.2 b hb).trans e) Z A (.inr hz) y hp,q⟩⟩
theorem jx (f:X.calm=Kh)(l:PI X tg iter wi)(k:∀C s H c,PG (ah X (pre++ys) scope cl C s H c) tg g)(i:∀C s H c,PE (ah X (pre++ys) scope cl C s H c) elt te)
  (a:LD scope X.env=pure cl) (S:ay pre ys scope) (d:Clo X cl) (e:(scope.names.all λp=>p.2 != .free || (cl.lookup p.1).isSome)=Kh) (fr:Frees X scope cl ys is) (m:∀v,Lj iter X.env v=pure v:=by intro _;rfl):
  PE X (.ListComp elt [⟨tg,iter,[],0⟩] scope pos) (lu pre.length wi is g te):=λb s n H Q I h=>mP f l k i (λ_ _ _ _=>pcN) (K4 _) a S d e fr m b s n H Q I<|goN h
theorem j7 (f:X.calm=Kh)(k:PI X tg iter wi)(i:∀C s H b,PG (ah X (pre++ys) scope cl C s H b) tg g)(h:∀C s H b,PE (ah X (pre++ys) scope cl C s H b) elt te)(c:∀C s H b,PT (ah X (pre++ys) scope cl C s H b) cnd tc)
  (a:LD scope X.env=pure cl) (S:ay pre ys scope) (d:Clo X cl) (e:(scope.names.all λp=>p.2 != .free || (cl.lookup p.1).isSome)=Kh) (fr:Frees X scope cl ys is) (l:∀v,Lj iter X.env v=pure v:=by intro _;rfl):
  PE X (.ListComp elt [⟨tg,iter,[cnd],0⟩] scope pos) (dP pre.length wi is g tc te):=mP f k i h (λ_ _ _ _=>pcF (c _ _ _ _) λ_ _ z=>z) (Kt _) a S d e fr l
theorem rJ (l:X.N.Nodup)(t:X.N[jz]?=O z)(b:Loc X.env.scope z)(k:Ln (.ListComp elt [⟨tg,iter,[],0⟩] scope pos) (O<|.Name z pz) spos.line X.env=pure Kh)(m:X.calm=Kh)(r:PI X tg iter wi)(o:∀C s H d,PG (ah X (pre++ys) scope cl C s H d) tg g)(n:∀C s H d,PE (ah X (pre++ys) scope cl C s H d) elt te)
  (a:LD scope X.env=pure cl) (S:ay pre ys scope) (e:Clo X cl) (i:(scope.names.all λp=>p.2 != .free || (cl.lookup p.1).isSome)=Kh) (fr:Frees X scope cl ys is) (u:∀v,Lj iter X.env v=pure v:=by intro _;rfl) (f:X.fn z=Kh\/X.env.scope.names.lookup z=O .local:=by first|exact .inl rfl|exact .inr rfl|assumption):
  PS X (.Assign [.Name z pz] (.ListComp elt [⟨tg,iter,[],0⟩] scope pos) spos) (qZ (lu pre.length wi is g te)<|dG jz):=λc s w H D I h=>mx l t b k m r o n (λ_ _ _ _=>pcN) (K4 _) a S e i fr u f c s w H D I<|goN h
theorem jV (k:X.N.Nodup)(r:X.N[jz]?=O z)(b:Loc X.env.scope z)(i:Ln (.ListComp elt [⟨tg,iter,[cnd],0⟩] scope pos) (O<|.Name z pz) spos.line X.env=pure Kh)(l:X.calm=Kh)(o:PI X tg iter wi)(n:∀C s H c,PG (ah X (pre++ys) scope cl C s H c) tg g)(m:∀C s H c,PE (ah X (pre++ys) scope cl C s H c) elt te)(d:∀C s H c,PT (ah X (pre++ys) scope cl C s H c) cnd tc)
  (a:LD scope X.env=pure cl) (S:ay pre ys scope) (e:Clo X cl) (h:(scope.names.all λp=>p.2 != .free || (cl.lookup p.1).isSome)=Kh) (fr:Frees X scope cl ys is) (t:∀v,Lj iter X.env v=pure v:=by intro _;rfl) (f:X.fn z=Kh\/X.env.scope.names.lookup z=O .local:=by first|exact .inl rfl|exact .inr rfl|assumption):
  PS X (.Assign [.Name z pz] (.ListComp elt [⟨tg,iter,[cnd],0⟩] scope pos) spos) (qZ (dP pre.length wi is g tc te)<|dG jz):=mx k r b i l o n m (λ_ _ _ _=>pcF (d _ _ _ _) λ_ _ z=>z) (Kt _) a S e h fr t f
end
end L3

namespace L3
open PySem PySem.Spec PyProof.Rows L2
abbrev uj (a:U B)(c:Y):Obj:={cls:=.type "list",data:=.seq a.toArray c}
def Kp (S:RL)(h a:RU):Prop:=∀b o,b≠S->h.get? b=O o->a.get? b=O o
section
variable {prog:RS}{w:Ks}{A:KO}{E:B->Ki->Prop}{s:Ki}{S it:RL}{xs:U B}{c:Y}
theorem Eo {f:RW B->RW B}{Q:Unit->Ki->Prop}(b:s.heap.get? S=O (uj xs c))(g:xs.length<=sizeLine)(h:(f xs.toArray).size<=sizeLine+1)
  (q:∀a d,a.get? S=O (uj (f xs.toArray).toList d)->Kp S s.heap a->Q () {s with heap:=a}):RO (Km prog w) A (updateSeq S f) Q E s:=
 OM b rfl (q _ _ (Heap.get?_update_self (Obj.mapSeq f) b rfl) λ_ _ i e=>by rw[Heap.get?_update_other _ _ i.symm];exact e) g h
end
end L3

namespace L3
open PySem PySem.Spec PyProof.Rows L2
theorem qY {X:Cx}(M:X.calm=Kh):cy X (.builtin "any") (λD H Q=>∃(a:RL) (bs:U RN),D=[.ref a]/\SqL X.K H a (bs.map V.bl)/\Q (.bl<|bs.any id) H):=by
 intro y s σ H D us Q I r h;obtain⟨a,bs,rfl,G,q⟩:=h;obtain⟨u,rfl,Z⟩:=c5 r;cases Z;obtain⟨c,t,p,hz⟩:=I.list G;have l:c.toArray.size=bs.length:=by rw[KU,<- t.length,Kr]
 have n:a<s.heap.objs.size:=by obtain⟨o,e,_⟩:=p.isList;exact Heap.lt_size e
 refine call_any_walk<|Ma p.isList ?_;refine⟨s.heap.objs.size,_,_,_,_,_,λi=>bs.getD i Kg,rfl,Walks.list (A:=X.A.in1) (show X.A.in1.handled=J from I.ok.hd M) s.heap.objs.size a (KR n) c.toArray,⟨⟨_,Heap.get?_push_size _ rfl,rfl,rfl⟩,p.isList.push _⟩,λi v s' Q' E' P F=>?_,λh' tk k=>?_⟩
 .have m:c[i]?=O v:=by simpa using P
  have d:i<c.length:=(LJ.mp m).1;have g:i<bs.length:=by have:=t.length;rw[Kr] at this;lia
  obtain⟨w',e1,e2⟩:=t.get (i:=i) (x:=.bl bs[i]) (by rw[KY,KN g];rfl);rw[m] at e1;cases e1;cases e2;refine M8 ?_;have e3:bs.getD i Kg=bs[i]:=by rw[Kv,KN g];rfl
  rw[<- e3];exact F
 .have e:(Kq c.toArray.size).any (fun i=>bs.getD i Kg)=bs.any id:=by
   rw[l,OR,OW,OW];constructor
   .rintro ⟨i,d,z⟩;have f:=Lc.mp d;rw[Kv,KN f] at z;exact⟨_,NX f,z⟩
   .rintro ⟨b,L,z⟩;obtain⟨i,d,e⟩:=OJ L;refine⟨i,Lc.mpr d,?_⟩;rw[Kv,KN d];simpa[e] using z
  rw[e]
  exact⟨.bl<|bs.any id,H,I.kept (λb o w=>k b o (λN=>by
   have:b=s.heap.objs.size:=by simpa using N
   exact RM (this ▸ Heap.lt_size w)<|LB _)<|Heap.get?_push_of_some _ w),rfl,q⟩
theorem bS:∀{a:U Int} {b:U B},Vals (a.map V.int) b->Sa b a
|[],_,.nil=>.nil
|n::a,_,.cons ⟨t,e⟩ r=>by cases e;exact .cons n t<|bS r
theorem qM {X:Cx}(D:X.calm=Kh):cy X (.builtin "max") (λd H Q=>∃(a:RL) (e:U Int),d=[.ref a]/\SqL X.K H a (e.map V.int)/\e≠[]/\∀M,M∈e->(∀n∈e,n<=M)->Q (.int M) H):=by
 intro x s σ H d us Q I r h;obtain⟨a,e,rfl,z,k,q⟩:=h;obtain⟨u,rfl,N⟩:=c5 r;cases N;obtain⟨m,P,p,hz⟩:=I.list z;have o:=bS P;obtain⟨d,i⟩:=o.allInts.items;have g:numsOf m=e:=o.numsOf;have G:s.heap.IsList a (intItems d):=by rw[<- i];exact p.isList
 have c:numsOf (intItems d).toList=e:=by rw[<- i];exact g
 rw[nums_intItems] at c;have f:d.size=e.length:=by rw[<- c,Kr,K6]
 have l:0<d.size:=by rw[f];exact O7.mpr k
 refine max_intList (show X.A.handled=J from I.ok.hd D) G l λv Z tk L hk=>?_;obtain⟨t,rfl⟩:=intItems_at L;obtain⟨h1,y⟩:=argBest_gt (numAt d)<|d.size-1;refine⟨.int _,H,I.kept hk,⟨t,rfl⟩,q _ ?_ λn w=>?_⟩
 .rw[<- c,numAt_eq];exact getD_mem<|by rw[Kr,K6];lia
 .rw [<- c] at w;obtain⟨b,F,rfl⟩:=mem_getD w;rw[Kr,K6] at F;rw[<- numAt_eq];exact y b<|by lia
abbrev BA (h:RU)(T:RL)(a b c:B):Prop:=h.get? T=O {cls:=.type "tuple",data:=.seq #[a,b,c]}
def Z3 (n d e f:Y)(i:Y)(h:RU):Prop:=
 Lo h (n+5) (n+3) (n+4) .none/\BA h (n+3) (.ref n) (.ref<|n+1) (.ref<|n+2)/\(∃a b c,BA h (n+4) a b c)/\ItO h Kg n d i/\ItO h Kg (n+1) e i/\ItO h Kg (n+2) f i
end L3

namespace L3
open PySem PySem.Spec PyProof.Rows L2
noncomputable abbrev VE:U B:=[.type "ValueError",.type "Exception",.type "BaseException",.type "object"]
structure Il (h:RU)(C N:RL)(up:U B)(names:Str->j B):Prop where
 obj:∃nm q bs hd sn sub ab col dd k0 k1 k2 k3 k5,h.get? C=O (excClassObj nm q C N bs up hd sn sub ab col dd k0 k1 k2 k3 k5 "ValueError.__new__")
 ns:h.Ns N names
section
variable {prog:RS}{w:Ks}{h:RU}{A:KO}{g:RW Sy}{d:Drawn}{t:Y}{os:SG}{E:B->Ki->Prop}
def BW:U B->RN
|.ref _::r=>BW r
|l=>l==VE
end
def XOk (a C:RL)(c:j RL)(n:RN)(h:RU):Prop:=∃o b d,h.get? a=O o/\o.cls=.ref C/\o.dict=c/\o.data=.fields b/\b[0]?=O (.ref d)/\1<b.size/\(n=Kh->b[1]?=O .none)
abbrev XO (a C:RL)(b:j RL)(n:RN):HO:=.ext<|XOk a C b n
def Tr (lo:Y)(H:Hp)(h:RU)(a:RL):Prop:=∃d b,h.get? a=O d/\d.data=.fields b /\
 (b[1]?=O .none\/∃T c e,b[1]?=O (.ref T)/\T≠a/\h.get? T=O c/\c.data=.fields e/\e[3]?=O .none/\lo<=T/\H T=J)
structure XC (K:Kk)(C f:RL)(up:U B):Prop where
 ok:∀h,K.In h->∃N names,Il h C N up names/\OwnTail h VE up/\names "__init__"=O (.ref f)
 fn:∀h,K.In h->∃o,h.get? f=O o/\o.cls=.type "function"
 kp:NA K (.ref C)=Kh
 sa:Nr K (.ref C) "__setattr__"=O (O (.builtin "object.__setattr__"))
 po:(PySem.W.clsIn K C).any (λcd=>BW cd.mro)=Kh
 hd:Pl K C=Kh
structure XB (K:Kk)(B:RL):Prop where
 ga:Pk K (.ref B) "__getattribute__"=O (O (.builtin "type.__getattribute__"))
 rd:PySem.W.readsIn K B (.type "type")=Kh
 at_:PySem.W.findCls K (.ref B) (.type "type") "__init__"=O (.val (.builtin "ValueError.__init__"))
def xw (X:Cx)(d:L2.St):VK:=λv H=>∀(b:U<|RL×Obj) (s:Ki) (a C:RL) (c:j RL),v=.ref a->H a=O (XO a C c Kg)->Inv X b d H s->Tr X.s₀.heap.objs.size H s.heap a->X.xe (.ref a) s
abbrev hx (X:Cx)(a:RL):Cx:={X with A:=X.A.mark<|O<|.ref a,calm:=Kg,xe:=λ_ _=>RX}
abbrev tx (X:Cx)(E:B->Ki->Prop)(pn:U<|RL×Obj):Cx:={X with xe:=E,pn:=pn}
section
variable {prog:RS}{w:Ks}{A:KO}{E:B->Ki->Prop}{s:Ki}{K:Kk}
structure XG (K:Kk)(C:RL):Prop where
 ga:Nr K (.ref C) "__getattribute__"=O (O (.builtin "BaseException.__getattribute__"))
 hk:Nr K (.ref C) "__getattr__"=O J
 sub:PK K (.ref C) (.type "BaseException")=O Kh
end
structure XF (K:Kk)(C:RL):Prop where
 xc:∃f up,XC K C f up/\BW up=Kh
 xg:XG K C
 hd:Pl K C=Kh
 ca:Nr K (.ref C) "__class__"=O (O (.builtin "object.__class__"))
 cg:Pk K (.builtin "object.__class__") "__get__"=O (O (.builtin "getset_descriptor.__get__"))
 ct:P5 K (.builtin "object.__class__")=O Kh
 mo:PQ K C (.type "object")=O Kh
def XNm (K:Kk)(c:Y)(C:RL):Prop:=c=C/\XF K C
end L3

namespace M
open PySem (Str)
inductive T where
 |non|bl (b:RN)|int (i:Int)|str (x:Str)|tup (ts:U T)|lst (ts:U T)|dct (ks:U (Int ⊕ Str)) (vs:U T)|ins (c:Y) (fs:U Str) (vs:U T)
 |scr (ns:U Int)
 |gone
 deriving Sb
inductive Md where
 |s|d|o (m:Md)
 deriving Sd,Sb
noncomputable def Md.kid:Md->Md
|.s=>.s | .d=>.d | .o m=>m
def Md.up:Md->Md
|.d=>.d|m=>.o m
def Md.meet:Md->Md->Md
|.s,_=>.s | .d,m=>m | .o _,.s=>.s | .o a,.d=>.o a | .o a,.o b=>.o<|a.meet b
def Md.le:Md->Md->RN
|.s,_=>Kh
|.o a,.o b=>a.le b
|.o _,.d=>Kh
|.d,.d=>Kh
|_,_=>Kg
abbrev W:=Md×T
abbrev Env:=U<|j W
noncomputable def LIM:Y:=16777215
noncomputable def T.leaf:T->RN
|.non | .bl _ | .int _ | .str _ | .scr _=>Kh
|_=>Kg
def T.isG:T->RN
|.gone=>Kh
|.dct _ _=>Kh
|_=>Kg
def T.isH:T->RN
|.gone=>Kh
|.dct _ _=>Kh
|.ins _ _ _=>Kh
|_=>Kg
def T.isN:T->RN
|.non=>Kh
|_=>Kg
def leaves (a:U T):RN:=a.all T.leaf
inductive Op where
 |add|sub|mul|fdiv|mod|pow|neg|eq|ne|lt|le|gt|ge|is|isnot|isin|notin|ix|sl|sl1|sl2
 |len|isI (cs:U R1)|max1|maxZ|count|fdivN|modN|list|tuple|sum|all|any|max|min|int|str|rng|sorted|join|split|abs|dict|get|isnB|lower|dnew|ixD
 |sortedSet
 |att (fld:Str)|mk (c:Y) (fld:Str) (fk:Y)
  deriving Sd,Sb
inductive Ik where
 |seq|rng|enm|zip|sq2|zip3
 deriving Sd,Sb
inductive E where
 |var (i:Y)|mv (i:Y)|io (i:Y)|cst (t:T)
 |tup (es:U E)|lst (h:RN) (es:U E)|op (o:Op) (h:RN) (es:U E)
 |and (a b:E)|or (a b:E)|not (a:E)|ifx (c a b:E)|chain (o p:Op) (a b c:E)
 |call (f:Y) (es:U E)|comp (h:RN) (k:Ik) (src:U E) (tg:U Y) (cnd:j E) (elt:E)
 |pop (i:Y) (es:U E)|lenV (i:Y)|popN (i:Y) (e:E)|compV (h:RN) (i t:Y) (c e:E)
 |qx (vs ls:U Y) (e:E)
 deriving Sb
inductive X where
 |q (vs ls:U Y)|l (vs:U Y)
 deriving Sb
inductive S where
 |asg (x:X) (i:Y) (e:E)|setI (x:X) (i:Y) (k e:E)|setS (x:X) (i:Y) (k e:E)|revS (i:Y)|apN (i k l:Y)|insN (i k l:Y)
 |exp (x:X) (e:E)|app (x:X) (i:Y) (e:E)|ext (x:X) (i:Y) (e:E)
 |ret (vs:U Y) (e:E)|ite (x:X) (c:E) (a b:U S)
 |forS (vs ls:U Y) (k:Ik) (src:U E) (tg:U Y) (body:U S)|forU (k:Ik) (src:U E) (tg:U Y) (body:U S)|whl (x:X) (c:E) (body:U S)
 |brk|pas|stop
 |raise (c:Y) (fld:Str) (fk:Y) (x:X) (e:E)
 deriving Sb
structure Fn where
 ps:Y
 ns:Y
 io:U Y
 body:U S
inductive Res (α:Type) where
 |ok (a:α)|ex (t:T)|no
def Res.bind {b c:Type}:Res b->(b->Res c)->Res c
|.ok a,f=>f a
|.ex t,_=>.ex t
|.no,_=>.no
def ofO {b:Type}:j b->Res b
|some a=>.ok a
|none=>.no
inductive Fl where
 |nx (η:Env)|rt (w:W) (η:Env)|bk (η:Env)|ex (t:T) (η:Env)|no
noncomputable def truth:T->j RN
|.non=>O Kg | .bl b=>O b | .int i=>O (i != 0) | .str x=>O (x.cps.size != 0) | .tup a=>O (!a.isEmpty) | .lst a=>O (!a.isEmpty) | .dct _ _=>J | .ins ..=>J | .scr c=>O (!c.isEmpty) | .gone=>J
noncomputable def b2i:RN->Int
|true=>1|false=>0
mutual
def eqT:T->T->RN
|.non,.non=>Kh
|.bl a,.bl b=>a==b
|.bl a,.int i=>b2i a==i
|.int i,.bl a=>i==b2i a
|.int i,.int j=>i==j
|.str x,.str y=>x==y
|.tup ts,.tup us=>eqTs ts us
|.lst ts,.lst us=>eqTs ts us
|_,_=>Kg
def eqTs:U T->U T->RN
|[],[]=>Kh
|t::ts,u::us=>eqT t u&&eqTs ts us
|_,_=>Kg
end
mutual
def dp:T->Y
|.tup ts=>dps ts+1
|.lst ts=>dps ts+1
|.scr _=>1000
|.dct _ _=>1000
|.ins _ _ _=>1000
|.gone=>1000
|_=>0
def dps:U T->Y
|[]=>0
|t::ts=>max (dp t)<|dps ts
end
def sOk (x:Str):RN:=x.cps.all (· < 0x110000)&&decide (x.cps.size<=LIM)
def kOk:Int ⊕ Str->RN
|.inl _=>Kh
|.inr x=>sOk x
def keyT:T->j (Int ⊕ Str)
|.int n=>O<|.inl n
|.str x=>O<|.inr x
|_=>J
def lookD (q:Int ⊕ Str):U (Int ⊕ Str)->U T->j T
|y::b,v::a=>if y=q then O v else lookD q b a
|_,_=>J
def ixN (n:Y)(i:Int):j Y:=if 0<=i then(if i<n then O i.toNat else J) else if -(n:Int)<=i then O (i+n).toNat else J
def atI {c:Type}(b:U c)(i:Int):j c:=(ixN b.length i).bind λa=>b[a]?
def sIx (n d:Y):j Int->Y
|none=>d
|some i=>if i<0 then(i+n).toNat else min i.toNat n
def cut {b:Type}(a:U b)(lo c:j Int):U b:=(a.drop<|sIx a.length 0 lo).take<|sIx a.length a.length c-sIx a.length 0 lo
noncomputable def T.ty:T->R1
|.non=>"NoneType" |.bl _=>"bool" |.int _=>"int" |.str _=>"str" |.tup _=>"tuple" |.lst _=>"list" |.dct ..=>"dict" |.ins ..=>"object" |.scr _=>"list" |.gone=>"gone"
def isOne (c:R1)(t:T):RN:=t.ty==c || (t.ty=="bool"&&c=="int")
def intsOf:U T->j (U Int)
|[]=>O []
|.int i::a=>(intsOf a).map (i::·)
|_::_=>J
def boolsOf:U T->j (U RN)
|[]=>O []
|.bl b::a=>(boolsOf a).map (b::·)
|_::_=>J
def elems:W->j (U T)
|(_,.tup a)=>O a
|(_,.lst a)=>O a
|_=>J
def flatT:T->RN
|.non | .bl _ | .int _ | .str _=>Kh
|_=>Kg
def Jv (c:Y):Y:=if 65<=c/\c<=90 then c+32 else c
def maxI:U Int->Int
|[]=>0
|[n]=>n
|n::a=>max n<|maxI a
noncomputable def insI (x:Int):U Int->U Int
|[]=>[x]
|y::a=>if x<=y then x::y::a else y::insI x a
def sortI:U Int->U Int
|[]=>[]
|x::a=>insI x<|sortI a
def addZ (a:U Int)(n:Int):U Int:=if n∈a then a else a++[n]
def u5:U T->j (U Str)
|[]=>O []
|.str x::a=>(u5 a).map (x::·)
|_::_=>J
noncomputable def spl (c:Y):U Y->U Y->U (U Y)
|a,[]=>[a]
|a,x::b=>if x=c then a::spl c [] b else spl c (a++[x]) b
def Fv (x:Str):U Str:=(spl 32 [] x.cps.toList).map λl=>⟨l.toArray⟩
def Jh (i:Int):Str:=Str.ofString<|toString i
def newL (h:RN)(m:Md)(a:U T):j W:=if h then(if leaves a then O (.d,.lst a) else J) else O (m.up,.lst a)
def fits (n:Y):RN:=decide (n<=LIM)
mutual
def rOk:T->RN
|.non | .bl _=>Kh
|.int i=>decide (i.natAbs<10000000000000000000)
|.str x=>decide ((PU x).length<=100)&&sOk (PU x)
|.tup ts=>wY ts
|.lst ts=>wY ts
|_=>Kg
def wY:U T->RN
|[]=>Kh
|t::ts=>rOk t&&wY ts
end
mutual
def szR:T->Y
|.tup ts=>Dr ts+4
|.lst ts=>Dr ts+4
|_=>100
def Dr:U T->Y
|[]=>0
|t::ts=>szR t+2+Dr ts
end
def Bz:Y->Md->T->RN
|0,_,.int n=>decide (n.natAbs.log2<1920)
|1,.s,.tup a=>decide (dp (.tup a)<=64)&&rOk (.tup a)&&decide (szR (.tup a)<=1000000)
|2,_,.str _=>Kh
|_,_,_=>Kg
def lfM (t:T):Md:=if t.leaf=Kh then .d else .s
def oSem:Op->RN->U W->j W
|.add,h,[(m,a),(n,b)]=>match a,b with
 |.int i,.int e=>O (.d,.int<|i+e)
 |.str x,.str y=>if fits (x.cps.size+y.cps.size) then O (.d,.str<|x++y) else J
 |.lst f,.lst o=>if fits (f.length+o.length) then newL h (m.kid.meet n.kid) (f++o) else J
 |.tup f,.tup o=>if fits (f.length+o.length)&&!f.isEmpty then O (.s,.tup<|f++o) else J
 |_,_=>J
|.sub,_,[(_,.int i),(_,.int e)]=>O (.d,.int<|i-e)
|.mul,h,[(m,a),(_,b)]=>match a,b with
 |.int i,.int e=>if(decide (i.natAbs<18446744073709551616)) || (decide (e.natAbs<18446744073709551616)) then O (.d,.int<|i * e) else J
 |.lst f,.int k=>if decide (k.natAbs<4611686018427387904)&&fits (f.length * k.toNat) then newL h .s (Ky k.toNat f).flatten else J
 |_,_=>J
|.fdiv,_,[(_,.int i),(_,.int e)]=>if decide (0<e)&&decide (e<1073741824) then O (.d,.int<|i / e) else J
|.mod,_,[(_,.int i),(_,.int e)]=>if decide (0<e) then O (.d,.int<|i % e) else J
|.pow,_,[(_,.int i),(_,.int e)]=>if decide (0<=e)&&decide (e<=1000000)&&decide (i.natAbs<18446744073709551616) then O (.d,.int<|i ^ e.toNat) else J
|.fdivN,_,[(_,.int i),(_,.int e)]=>if(e != 0)&&decide (e.natAbs<18446744073709551616) then O (.d,.int<|i.fdiv e) else J
|.modN,_,[(_,.int i),(_,.int e)]=>if e != 0 then O (.d,.int<|i.fmod e) else J
|.neg,_,[(_,.int i)]=>O (.d,.int (-i))
|.eq,_,[(_,a),(_,b)]=>if decide (dp a<=64)&&decide (dp b<=64) then O (.d,.bl<|eqT a b) else J
|.ne,_,[(_,a),(_,b)]=>if decide (dp a<=64)&&decide (dp b<=64) then O (.d,.bl<|!eqT a b) else J
|.lt,_,[(_,.int i),(_,.int e)]=>O (.d,.bl<|decide (i<e))
|.le,_,[(_,.int i),(_,.int e)]=>O (.d,.bl<|decide (i<=e))
|.gt,_,[(_,.int i),(_,.int e)]=>O (.d,.bl<|decide (e<i))
|.ge,_,[(_,.int i),(_,.int e)]=>O (.d,.bl<|decide (e<=i))
|.is,_,[(_,a),(_,.non)]=>if a.isG then J else O (.d,.bl a.isN)
|.isnot,_,[(_,a),(_,.non)]=>if a.isG then J else O (.d,.bl<|!a.isN)
|.ix,_,[(m,a),(_,.int i)]=>match a with
 |.lst f=>(atI f i).map λt=>(m.kid,t)
 |.tup f=>(atI f i).map λt=>(m.kid,t)
 |.str x=>(atI x.cps.toList i).map λc=>(.d,.str ⟨#[c]⟩)
 |.scr l=>(atI l i).map λn=>(.d,.int n)
 |_=>J
|.sl,h,[(m,.lst f)]=>newL h m.kid f
|.sl1,h,[(m,.lst f),(_,.int i)]=>newL h m.kid<|cut f (O i) J
|.sl2,h,[(m,.lst f),(_,.int i)]=>newL h m.kid<|cut f J<|O i
|.sl2,_,[(_,.scr l),(_,.int i)]=>O (.d,.lst<|(cut l J<|O i).map T.int)
|.sl1,_,[(_,.scr l),(_,.int i)]=>O (.d,.lst<|(cut l (O i) J).map T.int)
|.sl,_,[(_,.scr l)]=>O (.d,.lst<|l.map T.int)
|.sl1,_,[(_,.tup f),(_,.int i)]=>O (.s,.tup<|cut f (O i) J)
|.sl2,_,[(_,.tup f),(_,.int i)]=>O (.s,.tup<|cut f J<|O i)
|.len,_,[(_,a)]=>match a with
 |.lst f=>O (.d,.int f.length)
 |.tup f=>O (.d,.int f.length)
 |.str x=>O (.d,.int x.cps.size)
 |.scr l=>O (.d,.int l.length)
 |_=>J
|.att fld,_,[(_,.ins _ [g] [t])]=>if(g==fld)=Kh then O (lfM t,t) else J
|.mk c fld u,_,[(m,t)]=>if Bz u m t=Kh then O (.s,.ins c [fld] [t]) else J
|.isI r,_,[(_,a)]=>if a.isH then J else O (.d,.bl<|r.any λc=>isOne c a)
|.list,h,[(m,a)]=>match a with
 |.lst f=>newL h m.kid f
 |.tup f=>newL h m.kid f
 |.scr l=>O (.d,.lst<|l.map T.int)
 |_=>J
|.tuple,_,[(m,a)]=>match a with
 |.lst f=>O (m.kid.up,.tup f)
 |.tup f=>O (m,.tup f)
 |_=>J
|.sum,_,[(_,.lst f)]=>(intsOf f).map λl=>(.d,.int l.sum)
|.all,_,[(_,.lst f)]=>(boolsOf f).map λbs=>(.d,.bl<|bs.all id)
|.any,_,[(_,.lst f)]=>(boolsOf f).map λbs=>(.d,.bl<|bs.any id)
|.max,_,[(_,.int i),(_,.int e)]=>O (.d,.int<|if e>i then e else i)
|.min,_,[(_,.int i),(_,.int e)]=>O (.d,.int<|if e<i then e else i)
|.rng,_,[(_,.int i),(_,.int e)]=>if decide (i.natAbs<4611686018427387904)&&decide (e.natAbs<4611686018427387904)&&fits (e-i).toNat then O (.d,.lst<|(Kq (e-i).toNat).map λ(k:Y)=>T.int<|i+k) else J
|.isin,_,[(_,a),(n,b)]=>(elems (n,b)).bind λf=>if flatT a&&f.all flatT then O (.d,.bl<|f.any λt=>eqT t a) else J
|.notin,_,[(_,a),(n,b)]=>(elems (n,b)).bind λf=>if flatT a&&f.all flatT then O (.d,.bl<|!f.any λt=>eqT t a) else J
|.int,_,[(_,.int i)]=>O (.d,.int i)
|.int,_,[(_,.bl b)]=>O (.d,.int<|b2i b)
|.abs,_,[(_,.int i)]=>O (.d,.int i.natAbs)
|.maxZ,_,[(_,.lst f)]=>(intsOf f).bind λl=>O (.d,.int<|if l.isEmpty then 0 else maxI l)
|.max1,_,[(_,.lst f)]=>(intsOf f).bind λl=>if l.isEmpty then J else O (.d,.int<|maxI l)
|.sorted,_,[(_,.lst f)]=>(intsOf f).bind λl=>if decide (l.length<64) then O (.d,.lst<|(sortI l).map T.int) else J
|.sortedSet,_,[(_,.lst f)]=>(intsOf f).bind λl=>if decide (l.length<64) then O (.d,.lst<|(sortI<|l.foldl addZ []).map T.int) else J
|.str,_,[(_,.int i)]=>if decide (i.natAbs<10000000000000000000) then O (.d,.str<|Jh i) else J
|.join,_,[(_,.str z),(_,.lst f)]=>(u5 f).bind λp=>if sOk (Str.join z p)&&decide ((p.map λs=>s.cps.size+z.cps.size).sum<=LIM) then O (.d,.str<|Str.join z p) else J
|.split,_,[(_,.str z),(_,.str y)]=>if(y==Str.ofString " ")&&decide (z.cps.size+2<=LIM)&&(Fv z).all sOk then O (.d,.lst<|(Fv z).map T.str) else J
|.count,_,[(_,.lst f),(_,.bl b)]=>(boolsOf f).map λbs=>(.d,.int<|bs.count b)
|.lower,_,[(_,.str x)]=>if x.cps.toList.all (λc=>decide (c<128)) then O (.d,.str ⟨x.cps.map Jv⟩) else J
|.dnew,_,[]=>O (.d,.dct [] [])
|.ixD,_,[(.s,.dct v w),(_,k)]=>(keyT k).bind λq=>(lookD q v w).map λt=>(.s,t)
|.isnB,_,[(_,.bl a),(_,.bl b)]=>O (.d,.bl<|!(a==b))
|_,_,_=>J
noncomputable def rd:Env->Y->j W
|[],_=>J
|o::_,0=>o
|_::a,i+1=>rd a i
noncomputable def wr:Env->Y->j W->Env
|[],_,_=>[]
|_::a,0,w=>w::a
|o::a,i+1,w=>o::wr a i w
abbrev put (a:Env)(i:Y)(w:W):Env:=wr a i<|O w
abbrev del (a:Env)(i:Y):Env:=wr a i J
def look:W->j W
|(.s,t)=>O (.s,t)
|(_,t)=>if t.leaf=Kh then O (.d,t) else J
def toS:j W->j W
|some (_,t)=>O (.s,t)
|none=>J
def share:U Y->Env->Env
|[],a=>a
|i::b,a=>share b<|wr a i<|toS<|rd a i
def lfO:j W->j W
|some (_,t)=>if t.leaf=Kh then O (.d,t) else J
|none=>J
def ia:Env->Env
|[]=>[]
|_::a=>none::ia a
def nY:U Y->Env->Env->Env
|[],_,b=>b
|i::c,a,b=>nY c a<|wr b i<|toS<|rd a i
def iN:U Y->Env->Env->Env
|[],_,b=>b
|i::c,a,b=>iN c a<|wr b i<|lfO<|rd a i
def eK (c b:U Y)(a:Env):Env:=iN b a<|nY c a<|ia a
def after (m:Md)(b:U Y)(a:Env):Env:=match m with
|.d=>a
|_=>share b a
def bA:U Y->U W->Env->j Env
|[],[],a=>O a
|i::b,w::c,a=>bA b c<|put a i w
|_,_,_=>J
def eL (m:Md):Y->U T->U (U W)
|_,[]=>[]
|i,t::a=>[(.d,.int i),(m,t)]::eL m (i+1) a
def fX (m n:Md):U T->U T->U (U W)
|t::a,u::b=>[(m,t),(n,u)]::fX m n a b
|_,_=>[]
def cq:U T->j (U<|U W)
|[]=>O []
|.tup [x,y]::a=>(cq a).map ([(.s,x),(.s,y)]::·)
|_::_=>J
def BB:U T->U T->U T->U (U W)
|t::a,u::b,v::c=>[(.s,t),(.s,u),(.s,v)]::BB a b c
|_,_,_=>[]
def bN:Ik->U W->j (U<|U W)
|.seq,[(_,.lst f)]=>O<|f.map λt=>[(.s,t)]
|.seq,[(_,.tup f)]=>O<|f.map λt=>[(.s,t)]
|.seq,[(_,.scr h)]=>O<|h.map λn=>[(.d,.int n)]
|.rng,[(_,.int n)]=>if decide (n.natAbs<4611686018427387904)&&fits n.toNat then O ((Kq n.toNat).map λ(k:Y)=>[(.d,.int k)]) else J
|.rng,[(_,.int i),(_,.int e)]=>if decide (i.natAbs<4611686018427387904)&&decide (e.natAbs<4611686018427387904)&&fits (e-i).toNat then O ((Kq (e-i).toNat).map λ(k:Y)=>[(.d,.int<|i+k)]) else J
|.rng,[(_,.int i),(_,.int e),(_,.int c)]=>if decide (i.natAbs<4611686018427387904)&&decide (e.natAbs<4611686018427387904)&&decide (c=-1)&&fits (i-e).toNat then O ((Kq (i-e).toNat).map λ(k:Y)=>[(.d,.int<|i-k)]) else J
|.enm,[(_,.lst f)]=>O<|eL .s 0 f
|.zip,[(m,a),(n,b)]=>(elems (m,a)).bind λf=>(elems (n,b)).bind λg=>O<|fX .s .s f g
|.sq2,[(_,.lst f)]=>cq f
|.zip3,[(_,.lst f),(_,.lst g),(_,.lst l)]=>O<|BB f g l
|_,_=>J
abbrev Call:=Y->U W->Res (W×U W)
abbrev RE:=Res<|W×Env
def lf (m:Md)(t:T):Md:=if t.leaf=Kh then .d else m
def iM:U W->Md
|[]=>.d
|w::a=>(lf w.1 w.2).meet<|iM a
def aK:U W->U T
|[]=>[]
|w::a=>w.2::aK a
def ag:U Y->Env->Env
|[],a=>a
|i::b,a=>ag b<|del a i
def ios:U E->U Y
|[]=>[]
|.io i::a=>i::ios a
|_::a=>ios a
def putAll:U Y->U W->Env->Env
|i::b,w::c,a=>putAll b c<|put a i w
|_,_,a=>a
def kY:W->U W->j (W×W)
|(.s,_),_=>J
|(m,.lst a),[]=>(a.getLast?).map λt=>((m.kid,t),(m,.lst a.dropLast))
|(m,.lst (t::a)),[(_,.int 0)]=>O ((m.kid,t),(m,.lst a))
|_,_=>J
def jr:W->W->j W
|(.s,_),_=>J
|(m,.lst a),(n,t)=>if a.length<LIM then O ((m.kid.meet<|lf n t).up,.lst<|a++[t]) else J
|_,_=>J
def Iv:W->W->j W
|(.s,_),_=>J
|(m,.lst a),(n,.lst b)=>if a.length+b.length<=LIM then O ((m.kid.meet n.kid).up,.lst<|a++b) else J
|_,_=>J
noncomputable def aX (k:Int ⊕ Str)(t:T):U (Int ⊕ Str)->U T->U (Int ⊕ Str)×U T
|[],_=>([k],[t])
|y::a,v::b=>if y=k then(y::a,t::b) else((y::(aX k t a b).1),(v::(aX k t a b).2))
|y::a,[]=>(y::a,[])
def fw:W->W->W->j W
|(.s,_),_,_=>J
|(m,.dct a b),(_,k),(_,t)=>(keyT k).bind λq=>if decide (a.length<LIM) then O (.o .s,.dct (aX q t a b).1 (aX q t a b).2) else J
|_,_,_=>J
def jt:W->j W
|(.s,_)=>J
|(m,.lst a)=>if decide (a.length<LIM)&&leaves a then O (m,.lst a.reverse) else J
|_=>J
def apU (b:U T)(q:Y)(t:T):j T->j W
|some (.lst a)=>if decide (a.length<LIM)&&t.leaf then O (.d,.lst<|b.set q<|.lst<|a++[t]) else J
|_=>J
def kE:j W->j W->j W->j W
|some (.d,.lst b),O (_,.int a),O (_,t)=>(ixN b.length a).bind λq=>apU b q t b[q]?
|_,_,_=>J
def gX:j W->j W->j W->j W
|some (.s,_),_,_=>J
|some (m,.lst b),O (_,.int a),O (_,t)=>if decide (0<=a)&&decide (a.toNat<=b.length)&&decide (b.length<1000)&&leaves b&&t.leaf then O (m,.lst (b.take a.toNat++t::b.drop a.toNat)) else J
|_,_,_=>J
def jC:W->W->j (W×W)
|(.s,_),_=>J
|(m,.lst b),(_,.int a)=>if decide (0<=a)&&decide (a<1000)&&leaves b then(b[a.toNat]?).map λt=>((.d,t),(m,.lst<|b.eraseIdx a.toNat)) else J
|_,_=>J
def de:W->W->W->j W
|(.s,_),_,_=>J
|(m,.lst b),(_,.int a),(n,t)=>(ixN b.length a).map λk=>((m.kid.meet<|lf n t).up,.lst<|b.set k t)
|_,_,_=>J
def fG:j W->Res Unit
|some (_,.lst _)=>.ok ()
|_=>.no
def ret {b:Type}(c:Env)(o:j b):Res (b×Env):=match o with
|some a=>.ok (a,c)
|none=>.no
def onB {a:Type}:T->(Env->Res a)->(Env->Res a)->Env->Res a
|.bl Kh,f,_,b=>f b
|.bl Kg,_,g,b=>g b
|_,_,_,_=>.no
def onT {a:Type}(f g:Env->Res a)(p:W×Env):Res a:=match truth p.1.2 with
|some Kh=>f p.2
|some Kg=>g p.2
|none=>.no
def okW {b:Type}(a:b)(c:Env):Res (b×Env):=.ok (a,c)
def wt (p:U W×Env):RE:=.ok (((iM p.1).up,.tup<|aK p.1),p.2)
def xi (h:RN)(p:U W×Env):RE:=.ok ((if h then(iM p.1).up else .o .s,.lst<|aK p.1),p.2)
def kOp (o:Op)(h:RN)(p:U W×Env):RE:=ret p.2<|oSem o h p.1
def rB (f:Env->RE)(p:W×Env):RE:=onT f (okW p.1) p
def kOr (f:Env->RE)(p:W×Env):RE:=onT (okW p.1) f p
def rO (p:W×Env):RE:=ret p.2<|(truth p.1.2).map λb=>(.d,.bl<|!b)
def kC3 (q:Op)(y:W)(z:W×Env):RE:=ret z.2<|oSem q Kg [y,z.1]
def then' {a b:Type}(f:Env->Res (a×Env))(k:a×Env->Res b)(c:Env):Res b:=(f c).bind k
def kC2 (o q:Op)(a:Env->RE)(x:W)(y:W×Env):RE:=(ret y.2<|oSem o Kg [x,y.1]).bind λk=>onB k.1.2 (then' a<|kC3 q y.1) (okW (.d,.bl Kg)) k.2
def kC1 (o q:Op)(a b:Env->RE)(x:W×Env):RE:=(a x.2).bind<|kC2 o q b x.1
def qj (a:U Y)(b:Env)(r:W×U W):RE:=.ok (r.1,putAll a r.2 b)
def mQ (C:Call)(f:Y)(a:U Y)(p:U W×Env):RE:=(C f p.1).bind<|qj a p.2
noncomputable def dE (p:W×Env):Res (j W×Env):=.ok (O p.1,p.2)
def bJ (f:Env->RE)(a:Env):Res (j W×Env):=(f a).bind dE
def cw (c f:Env->RE)(a:Env):Res (j W×Env):=(c a).bind<|onT (bJ f)<|okW J
def aA (b:U Y)(f:Env->Res (j W×Env)):U (U W)->Env->U W->Res (U W×Env)
|[],c,a=>.ok (a,c)
|e::r,c,a=>(ofO<|bA b e c).bind λd=>(f d).bind λp=>aA b f r (ag b p.2)<|a++p.1.toList
def okD (w:W):RN:=w.1==.d || w.2.leaf
def je (h:RN)(q:U W×Env):RE:=ret q.2<|if h then(if q.1.all okD then O (.d,.lst<|aK q.1) else J) else O (.o .s,.lst<|aK q.1)
def fB (h:RN)(k:Ik)(a:U Y)(f:Env->Res (j W×Env))(p:U W×Env):RE:=(ret (ag a p.2)<|bN k p.1).bind λt=>(aA a f t.1 t.2 []).bind<|je h
def vwT:j W->j (U T)
|some (.s,_)=>J
|some (_,.lst a)=>if leaves a then O a else J
|_=>J
def kV2 (i:Y)(w:j W)(p:W×Env):RE:=.ok (p.1,wr p.2 i w)
def kV1 (h:RN)(i t:Y)(f:Env->Res (j W×Env))(a:Env)(b:U T):RE:=((aA [t] f (b.map λu=>[(.s,u)]) (ag [t]<|del a i) []).bind<|je h).bind<|kV2 i<|rd a i
def mn (f:Env->Res (U W×Env))(a:Env)(k:U W×Env->RE)(_:Unit):RE:=(f a).bind k
def qO (i:Y)(p:U W×Env):RE:=(ofO<|(rd p.2 i).bind λw=>kY w p.1).bind λr=>.ok (r.1,put p.2 i r.2)
def i3 (f:Env->RE)(a:Env)(k:W×Env->RE)(_:Unit):RE:=(f a).bind k
def ik (i:Y)(p:W×Env):RE:=(ofO<|(rd p.2 i).bind λw=>jC w p.1).bind λr=>.ok (r.1,put p.2 i r.2)
def pO (w:W)(q:U W×Env):Res (U W×Env):=.ok (w::q.1,q.2)
def c6 (f:Env->Res (U W×Env))(p:W×Env):Res (U W×Env):=(f p.2).bind<|pO p.1
def kIn (a:RN)(b:U Str)(p:W×Env):RE:=match p.1.2 with
|.str x=>.ok ((.d,.bl<|b.contains x != a),p.2)
|_=>.no
def kX (a:U Y)(b:Env)(p:W×Env):RE:=.ok ((lf p.1.1 p.1.2,p.1.2),after (lf p.1.1 p.1.2) a b)
def kIo (i:Y)(p:U W×Env):Res (U W×Env):=(ofO<|rd p.2 i).bind λw=>.ok (w::p.1,del p.2 i)
section
variable (C:Call)
mutual
def evE:E->Env->RE
|.var i,η=>ret η<|(rd η i).bind look
|.mv i,η=>ret (del η i)<|rd η i
|.io i,η=>ret (del η i)<|rd η i
|.cst t,η=>.ok ((.d,t),η)
|.tup es,η=>(evL es η).bind wt
|.lst h es,η=>(evL es η).bind<|xi h
|.op o h es,η=>(evL es η).bind<|kOp o h
|.and a b,η=>(evE a η).bind<|rB<|evE b
|.or a b,η=>(evE a η).bind<|kOr<|evE b
|.not a,η=>(evE a η).bind rO
|.ifx c a b,η=>(evE c η).bind<|onT (evE a)<|evE b
|.chain o q a b c,η=>(evE a η).bind<|kC1 o q (evE b)<|evE c
|.call f es,η=>(evA es η).bind<|mQ C f<|ios es
|.comp h k src tg J elt,η=>(evL src η).bind<|fB h k tg<|bJ<|evE elt
|.comp h k src tg (O c) elt,η=>(evL src η).bind<|fB h k tg<|cw (evE c)<|evE elt
|.pop i es,η=>(fG<|rd η i).bind<|mn (evL es) η<|qO i
|.lenV i,η=>ret η<|(rd η i).bind λw=>oSem .len Kg [w]
|.compV h i t c e,η=>(ofO<|vwT<|rd η i).bind<|kV1 h i t (cw (evE c)<|evE e) η
|.popN i e,η=>(fG<|rd η i).bind<|i3 (evE e) η<|ik i
|.qx vs ls e,η=>(evE e<|eK vs ls η).bind<|kX vs η
def evL:U E->Env->Res (U W×Env)
|[],η=>.ok ([],η)
|e::es,η=>(evE e η).bind<|c6<|evL es
def evA:U E->Env->Res (U W×Env)
|[],η=>.ok ([],η)
|.io i::es,η=>(evA es η).bind<|kIo i
|e::es,η=>(evE e η).bind<|c6<|evA es
end
def kT (a:Env)(p:W×Env):Res (RN×Env):=ret a<|truth p.1.2
def kT2 (p:W×Env):Res (RN×Env):=ret p.2<|truth p.1.2
def evX:X->E->Env->RE
|.q a c,e,b=>(evE C e<|eK a c b).bind<|kX a b
|.l a,e,b=>evE C e<|share a b
def evT:X->E->Env->Res (RN×Env)
|.q b c,e,a=>(evE C e<|eK b c a).bind<|kT a
|.l b,e,a=>(evE C e<|share b a).bind kT2
def Fl.of {b:Type}(c:Env):Res b->(b->Fl)->Fl
|.ok a,f=>f a
|.ex _,_=>.no
|.no,_=>.no
noncomputable def Fl.seq:Fl->(Env->Fl)->Fl
|.nx a,f=>f a
|z,_=>z
noncomputable def Fl.turn:Fl->(Env->Fl)->Fl
|.nx a,f=>f a
|.bk a,_=>.nx a
|z,_=>z
noncomputable def onF:RN->(Env->Fl)->(Env->Fl)->Env->Fl
|true,f,_,a=>f a
|false,_,g,a=>g a
def aS (c:U Y)(f:Env->Fl):U (U W)->Env->Fl
|[],a=>.nx a
|d::r,a=>Fl.of a (ofO<|bA c d a) λb=>Fl.turn (f b)<|aS c f r
def kIf (f g:Env->Fl)(p:RN×Env):Fl:=onF p.1 f g p.2
def Bu (f:Env->Fl)(g:Env->Fl)(a:Env):Fl:=Fl.turn (f a) g
def jf (c:Env->Res (RN×Env))(f:Env->Fl):Y->Env->Fl
|0,_=>.no
|n+1,a=>Fl.of a (c a)<|kIf (Bu f<|jf c f n) .nx
def jb:Y:=1000000000000
def nxO (a:Env):j Env->Fl
|some a=>.nx a
|none=>.no
def Ad (i:Y)(p:W×Env):Fl:=.nx<|put p.2 i p.1
def uC (i:Y)(p:W×Env):Fl:=nxO p.2<|((rd p.2 i).bind λw=>jr w p.1).map λw=>put p.2 i w
def JX (i:Y)(p:W×Env):Fl:=nxO p.2<|((rd p.2 i).bind λw=>Iv w p.1).map λw=>put p.2 i w
def xk (i:Y)(x:W)(q:W×Env):Fl:=nxO q.2<|((rd q.2 i).bind λw=>de w q.1 x).map λw=>put q.2 i w
def oK (i:Y)(x:W)(q:W×Env):Fl:=nxO q.2<|((rd q.2 i).bind λw=>fw w q.1 x).map λw=>put q.2 i w
def pQ (i:Y)(f:Env->RE)(a:Env)(p:W×Env):Fl:=Fl.of a (f p.2)<|oK i p.1
def AX (i:Y)(f:Env->RE)(a:Env)(p:W×Env):Fl:=Fl.of a (f p.2)<|xk i p.1
def uA (f:Env->RE)(a:Env)(k:W×Env->Fl)(_:Unit):Fl:=Fl.of a (f a) k
def kNx (p:W×Env):Fl:=.nx p.2
def kRt (p:W×Env):Fl:=.rt p.1 p.2
def lY (a:U Y)(f:Env->Fl)(t:U (U W)×Env):Fl:=aS a f t.1 t.2
def yk (c:U Y)(k:Ik)(b:U Y)(f:Env->Fl)(a:Env)(p:U W×Env):Fl:=Fl.of a (ret (share c a)<|bN k p.1)<|lY b f
def qi (k:Ik)(a:U Y)(f:Env->Fl)(p:U W×Env):Fl:=Fl.of p.2 (ret p.2<|bN k p.1)<|lY a f
def BV (c:Y)(fld:Str)(a:Y)(p:W×Env):Fl:=if Bz a p.1.1 p.1.2=Kh then .ex (.ins c [fld] [p.1.2]) p.2 else .no
def Fl.drop (i:Y):Fl->Fl
|.nx a=>.nx<|del a i
|.rt w a=>.rt w<|del a i
|_=>.no
mutual
def evS:S->Env->Fl
|.asg x i e,η=>Fl.of η (evX C x e η)<|Ad i
|.setI x i k e,η=>Fl.of η (evX C x e η)<|AX i (evX C x k) η
|.setS x i k e,η=>Fl.of η (evX C x e η)<|pQ i (evX C x k) η
|.revS i,η=>nxO η<|((rd η i).bind jt).map λw=>put η i w
|.apN i k l,η=>nxO η<|(kE (rd η i) (rd η k)<|rd η l).map λw=>put η i w
|.insN i k l,η=>nxO η<|(gX (rd η i) (rd η k)<|rd η l).map λw=>put η i w
|.exp x e,η=>Fl.of η (evX C x e η) kNx
|.app x i e,η=>Fl.of η (fG<|rd η i)<|uA (evX C x e) η<|uC i
|.ext x i e,η=>Fl.of η (fG<|rd η i)<|uA (evX C x e) η<|JX i
|.ret vs e,η=>Fl.of η (evE C e<|share vs η) kRt
|.ite x c a b,η=>Fl.of η (evT C x c η)<|kIf (evSs a)<|evSs b
|.forS vs ls k src tg body,η=>Fl.of η (evL C src<|eK vs ls η)<|yk vs k tg (evSs body) η
|.forU k src tg body,η=>Fl.of η (evL C src η)<|qi k tg<|evSs body
|.whl x c body,η=>jf (evT C x c) (evSs body) jb η
|.brk,η=>.bk η
|.pas,η=>.nx η
|.stop,_=>.no
|.raise c fld fk x e,η=>Fl.of η (evX C x e η)<|BV c fld fk
def evSs:U S->Env->Fl
|[],η=>.nx η
|s::r,η=>Fl.seq (evS s η)<|evSs r
end
end
def backs:U Y->Env->j (U W)
|[],_=>O []
|i::b,a=>(rd a i).bind λw=>(backs b a).bind λc=>O (w::c)
def uP (w:W)(b:U W):Res (W×U W):=.ok (w,b)
def Fl.out (b:U Y):Fl->Res (W×U W)
|.nx a=>(ofO<|backs b a).bind<|uP (.d,.non)
|.rt w a=>(ofO<|backs b a).bind<|uP w
|.ex t _=>.ex t
|_=>.no
def runF (C:Call)(f:Fn)(a:U W):Res (W×U W):=
 if a.length=f.ps then Fl.out f.io (evSs C f.body<|a.map O++Ky f.ns J) else .no
abbrev IK:=U Fn
def Ci (n:Y):U W->Res (W×U W)
|[(m,t)]=>if(lf m t==.d&&(decide (dp t<=n)&&decide (dp t<=64)))=Kh then .ok ((.d,.non),[]) else .no
|_=>.no
def By:U Y->U T->U T
|[],_=>[]
|n::b,a=>.lst (a.take n)::By b (a.drop n)
def tU:U T->j (U Y)
|[]=>O []
|.int (.ofNat n)::a=>(tU a).map (n::·)
|_::_=>J
def Hg:U W->Res (W×U W)
|[(_,.lst a),(m,.lst c)]=>(ofO<|tU a).bind λb=>.ok ((m.kid.up.up,.lst<|By b c),[])
|_=>.no
def callR (P:IK)(s r:Y):Y->Call
|0=>λ_ _=>.no
|n+1=>λf a=>if f=s then Ci n a else if f=r then Hg a else(ofO P[f]?).bind λd=>runF (callR P s r n) d a
abbrev zf:Fn:={ps:=0,ns:=0,io:=[],body:=[.stop]}
theorem Eh (C:Call)(i:Y)(a:Env):evE C (.var i) a=ret a ((rd a i).bind look):=rfl
theorem BU (C:Call)(i:Y)(a:Env):evE C (.mv i) a=ret (del a i) (rd a i):=rfl
theorem EF (C:Call)(t:T)(a:Env):evE C (.cst t) a=.ok ((.d,t),a):=rfl
theorem ED (C:Call)(a:U E)(b:Env):evE C (.tup a) b=(evL C a b).bind wt:=rfl
theorem DE (C:Call)(h:RN)(a:U E)(b:Env):evE C (.lst h a) b=(evL C a b).bind (xi h):=rfl
theorem Ej (C:Call)(o:Op)(h:RN)(a:U E)(b:Env):evE C (.op o h a) b=(evL C a b).bind (kOp o h):=rfl
theorem yh (C:Call)(a:E)(b:E)(c:Env):evE C (.and a b) c=(evE C a c).bind (rB<|evE C b):=rfl
theorem AF (C:Call)(a:E)(b:E)(c:Env):evE C (.or a b) c=(evE C a c).bind (kOr<|evE C b):=rfl
theorem xD (C:Call)(a:E)(b:Env):evE C (.not a) b=(evE C a b).bind rO:=rfl
theorem yA (C:Call)(c:E)(a:E)(b:E)(d:Env):evE C (.ifx c a b) d=(evE C c d).bind (onT (evE C a)<|evE C b):=rfl
theorem yV (C:Call)(o:Op)(q:Op)(a:E)(b:E)(c:E)(d:Env):evE C (.chain o q a b c) d=(evE C a d).bind (kC1 o q (evE C b)<|evE C c):=rfl
theorem x8 (C:Call)(f:Y)(a:U E)(b:Env):evE C (.call f a) b=(evA C a b).bind (mQ C f<|ios a):=rfl
theorem xU (C:Call)(h:RN)(k:Ik)(b:U E)(c:U Y)(a:E)(d:Env):evE C (.comp h k b c J a) d=(evL C b d).bind (fB h k c<|bJ<|evE C a):=rfl
theorem Ar (C:Call)(h:RN)(k:Ik)(b:U E)(d:U Y)(c:E)(a:E)(e:Env):evE C (.comp h k b d (O c) a) e=(evL C b e).bind (fB h k d<|cw (evE C c)<|evE C a):=rfl
theorem yQ (C:Call)(i:Y)(b:U E)(a:Env):evE C (.pop i b) a=(fG<|rd a i).bind (mn (evL C b) a<|qO i):=rfl
theorem va (C:Call)(a c:U Y)(e:E)(b:Env):evE C (.qx a c e) b=(evE C e<|eK a c b).bind (kX a b):=rfl
theorem vp (h:RN)(m n:Md)(a:U T)(i:Int):oSem .sl1 h [(m,.lst a),(n,.int i)]=newL h m.kid (cut a (O i) J):=rfl
theorem D9 (h:RN)(m n:Md)(a:U T)(k:Int):oSem .mul h [(m,.lst a),(n,.int k)]=if decide (k.natAbs<4611686018427387904)&&fits (a.length * k.toNat) then newL h .s (Ky k.toNat a).flatten else none:=rfl
theorem Bj (h:RN)(m:Md)(a:U T):oSem .any h [(m,.lst a)]=(boolsOf a).map λbs=>(.d,.bl<|bs.any id):=rfl
theorem HI (h:RN)(m n:Md)(i a:Int):oSem .min h [(m,.int i),(n,.int a)]=O (.d,.int<|if a<i then a else i):=rfl
theorem Hy (h:RN)(m n:Md)(i a:Int):oSem .max h [(m,.int i),(n,.int a)]=O (.d,.int<|if a>i then a else i):=rfl
theorem FH (h:RN)(m n:Md)(i a:Int):oSem .rng h [(m,.int i),(n,.int a)]=if decide (i.natAbs<4611686018427387904)&&decide (a.natAbs<4611686018427387904)&&fits (a-i).toNat then O (.d,.lst<|(Kq (a-i).toNat).map λ(k:Y)=>T.int<|i+k) else none:=rfl
theorem Hx (m:Md)(a:U T):bN .enm [(m,.lst a)]=O (eL .s 0 a):=rfl
theorem xT (m n:Md)(a b:U T):bN .zip [(m,.lst a),(n,.lst b)]=O (fX .s .s a b):=rfl
theorem zN (m n:Md)(a b:U T):bN .zip [(m,.tup a),(n,.tup b)]=O (fX .s .s a b):=rfl
def lkM:Md->Md
|.s=>.s|_=>.d
theorem Ii:lkM .s=.s:=rfl
theorem I9:lkM .d=.d:=rfl
theorem FP (m:Md)(i:Int):look (m,.int i)=O (lkM m,.int i):=by cases m<;>rfl
theorem Hm (m:Md)(b:RN):look (m,.bl b)=O (lkM m,.bl b):=by cases m<;>rfl
theorem Gn (m:Md)(x:Str):look (m,.str x)=O (lkM m,.str x):=by cases m<;>rfl
theorem Gf (m:Md):look (m,.non)=O (lkM m,.non):=by cases m<;>rfl
theorem nP (C:Call)(i:Y)(a:Env):evE C (.lenV i) a=ret a ((rd a i).bind λw=>oSem .len Kg [w]):=rfl
theorem oI (C:Call)(i:Y)(a:U E)(b:Env):evA C (.lenV i::a) b=(evE C (.lenV i) b).bind (c6<|evA C a):=rfl
theorem BZ (C:Call)(a:Env):evA C [] a=.ok ([],a):=rfl
theorem EE (C:Call)(i:Y)(a:U E)(b:Env):evA C (.io i::a) b=(evA C a b).bind (kIo i):=rfl
theorem qU (C:Call)(i:Y)(a:U E)(b:Env):evA C (.var i::a) b=(evE C (.var i) b).bind (c6<|evA C a):=rfl
theorem tq (C:Call)(i:Y)(a:U E)(b:Env):evA C (.mv i::a) b=(evE C (.mv i) b).bind (c6<|evA C a):=rfl
theorem sd (C:Call)(t:T)(a:U E)(b:Env):evA C (.cst t::a) b=(evE C (.cst t) b).bind (c6<|evA C a):=rfl
theorem rZ (C:Call)(l:U E)(a:U E)(b:Env):evA C (.tup l::a) b=(evE C (.tup l) b).bind (c6<|evA C a):=rfl
theorem v9 (C:Call)(o:Op)(h:RN)(l:U E)(a:U E)(b:Env):evA C (.op o h l::a) b=(evE C (.op o h l) b).bind (c6<|evA C a):=rfl
theorem oi (C:Call)(f:Y)(l:U E)(a:U E)(b:Env):evA C (.call f l::a) b=(evE C (.call f l) b).bind (c6<|evA C a):=rfl
theorem D4 {C:Call}{e:E}{a:U E}{b:Env}(c:∀i,e≠.io i):evA C (e::a) b=(evE C e b).bind (c6<|evA C a):=by
 cases e with
 |io i=>exact RM rfl (c i)
 |_=>rfl
theorem Ae (C:Call)(a:Env):evL C ([]) a=.ok ([],a):=rfl
theorem yW (C:Call)(e:E)(a:U E)(b:Env):evL C (e::a) b=(evE C e b).bind (c6<|evL C a):=rfl
theorem yH (C:Call)(x:X)(i:Y)(e:E)(a:Env):evS C (.asg x i e) a=Fl.of a (evX C x e a) (Ad i):=rfl
theorem zr (C:Call)(x:X)(i:Y)(k:E)(e:E)(a:Env):evS C (.setI x i k e) a=Fl.of a (evX C x e a) (AX i (evX C x k) a):=rfl
theorem zF (C:Call)(x:X)(e:E)(a:Env):evS C (.exp x e) a=Fl.of a (evX C x e a) kNx:=rfl
theorem AS (C:Call)(x:X)(i:Y)(e:E)(a:Env):evS C (.app x i e) a=Fl.of a (fG<|rd a i) (uA (evX C x e) a<|uC i):=rfl
theorem AE (C:Call)(b:U Y)(e:E)(a:Env):evS C (.ret b e) a=Fl.of a (evE C e<|share b a) kRt:=rfl
theorem xP (C:Call)(x:X)(c:E)(a:U S)(b:U S)(d:Env):evS C (.ite x c a b) d=Fl.of d (evT C x c d) (kIf (evSs C a)<|evSs C b):=rfl
theorem tM (C:Call)(k:Ik)(b:U E)(d:U Y)(a:U S)(c:Env):evS C (.forU k b d a) c=Fl.of c (evL C b c) (qi k d<|evSs C a):=rfl
theorem zR (C:Call)(d:U Y)(e:U Y)(k:Ik)(b:U E)(f:U Y)(a:U S)(c:Env):evS C (.forS d e k b f a) c=Fl.of c (evL C b<|eK d e c) (yk d k f (evSs C a) c):=rfl
theorem zV (C:Call)(x:X)(c:E)(a:U S)(b:Env):evS C (.whl x c a) b=jf (evT C x c) (evSs C a) jb b:=rfl
theorem su (C:Call)(a:Env):evSs C ([]) a=.nx a:=rfl
theorem vW (C:Call)(s:S)(r:U S)(a:Env):evSs C (s::r) a=Fl.seq (evS C s a) (evSs C r):=rfl
theorem xS (C:Call)(a:U Y)(c:U Y)(e:E)(b:Env):evX C (.q a c) e b=(evE C e<|eK a c b).bind (kX a b):=rfl
theorem yn (C:Call)(a:U Y)(e:E)(b:Env):evX C (.l a) e b=evE C e (share a b):=rfl
theorem zo (C:Call)(c:U Y)(b:U Y)(e:E)(a:Env):evT C (.q c b) e a=(evE C e<|eK c b a).bind (kT a):=rfl
theorem yG (C:Call)(a:U Y)(e:E)(b:Env):evT C (.l a) e b=(evE C e<|share a b).bind kT2:=rfl
theorem C2 {b c:Type}(a:b)(f:b->Res c):(Res.ok a).bind f=f a:=rfl
theorem Jk {b:Type}(c:Env)(a:b)(f:b->Fl):Fl.of c (.ok a) f=f a:=rfl
theorem CC (a:Env)(f:Env->Fl):Fl.seq (.nx a) f=f a:=rfl
theorem D5 (w:W)(a:Env)(f:Env->Fl):Fl.seq (.rt w a) f=.rt w a:=rfl
theorem B7 {b:Type}(f g:Env->Res b)(a:Env):onB (.bl Kh) f g a=f a:=rfl
theorem CJ {b:Type}(f g:Env->Res b)(a:Env):onB (.bl Kg) f g a=g a:=rfl
theorem Cs {c:Type}(f g:Env->Res c)(m:Md)(b:RN)(a:Env):onT f g ((m,.bl b),a)=onB (.bl b) f g a:=by cases b<;>rfl
theorem CS (f g:Env->Fl)(a:Env):onF Kh f g a=f a:=rfl
theorem DO (f g:Env->Fl)(a:Env):onF Kg f g a=g a:=rfl
theorem GR {b:Type}(a:b):ofO (O a)=.ok a:=rfl
theorem GH {c:Type}(b:Env)(a:c):ret b (O a)=.ok (a,b):=rfl
theorem Ha (o:j W)(a:Env):rd (o::a) 0=o:=rfl
theorem HR (o:j W)(a:Env)(i:Y):rd (o::a) (i+1)=rd a i:=rfl
theorem HQ (o w:j W)(a:Env):wr (o::a) 0 w=w::a:=rfl
theorem GB (o w:j W)(a:Env)(i:Y):wr (o::a) (i+1) w=o::wr a i w:=rfl
theorem yR (t:T):look (.s,t)=O (.s,t):=rfl
theorem HB (m:Md)(t:T):toS (O (m,t))=O (.s,t):=rfl
theorem u9 (a:Env):share [] a=a:=rfl
theorem uL (i:Y)(b:U Y)(a:Env):share (i::b) a=share b (wr a i<|toS<|rd a i):=rfl
theorem ui:ia []=[]:=rfl
theorem uU (o:j W)(a:Env):ia (o::a)=none::ia a:=rfl
theorem C4 (c b:U Y)(a:Env):eK c b a=iN b a (nY c a<|ia a):=rfl
theorem xE (a b:Env):nY [] a b=b:=rfl
theorem zX (i:Y)(b:U Y)(a c:Env):nY (i::b) a c=nY b a (wr c i<|toS<|rd a i):=rfl
theorem xo (a b:Env):iN [] a b=b:=rfl
theorem vn (i:Y)(b:U Y)(a c:Env):iN (i::b) a c=iN b a (wr c i<|lfO<|rd a i):=rfl
theorem Fw (m:Md)(i:Int):lfO (O (m,.int i))=O (.d,.int i):=rfl
theorem tI (b:U Y)(a:Env):after .d b a=a:=rfl
theorem sU (a:U Y)(b:Env):after .s a b=share a b:=rfl
theorem uk (m:Md)(a:U Y)(b:Env):after (.o m) a b=share a b:=rfl
theorem CA (m:Md)(i:Int):lf m (.int i)=.d:=rfl
theorem CZ (m:Md)(x:Str):lf m (.str x)=.d:=rfl
theorem CY (m:Md)(a:U T):lf m (.lst a)=m:=rfl
theorem DG (m:Md)(a:U T):lf m (.tup a)=m:=rfl
theorem Ei (t:T):lf .d t=.d:=by unfold lf;split<;>rfl
theorem BP (h:RN)(m n:Md)(i a:Int):oSem .add h [(m,.int i),(n,.int a)]=O (.d,.int<|i+a):=rfl
theorem uu (h:RN)(m n:Md)(a b:U T):oSem .add h [(m,.lst a),(n,.lst b)]=if fits (a.length+b.length) then newL h (m.kid.meet n.kid) (a++b) else none:=rfl
theorem CL (h:RN)(m n:Md)(x y:Str):oSem .add h [(m,.str x),(n,.str y)]=if fits (x.cps.size+y.cps.size) then O (.d,.str<|x++y) else none:=rfl
theorem Cv (h:RN)(m n:Md)(a b:U T):oSem .add h [(m,.tup a),(n,.tup b)]=if fits (a.length+b.length)&&!a.isEmpty then O (.s,.tup<|a++b) else none:=rfl
theorem EM (h:RN)(m n:Md)(i a:Int):oSem .sub h [(m,.int i),(n,.int a)]=O (.d,.int<|i-a):=rfl
theorem tH (h:RN)(m n:Md)(i a:Int):oSem .mul h [(m,.int i),(n,.int a)]=if(decide (i.natAbs<18446744073709551616)) || (decide (a.natAbs<18446744073709551616)) then O (.d,.int<|i * a) else none:=rfl
theorem vR (h:RN)(m n:Md)(i a:Int):oSem .fdiv h [(m,.int i),(n,.int a)]=if decide (0<a)&&decide (a<1073741824) then O (.d,.int<|i / a) else none:=rfl
theorem Bc (h:RN)(m n:Md)(i a:Int):oSem .mod h [(m,.int i),(n,.int a)]=if decide (0<a) then O (.d,.int<|i % a) else none:=rfl
theorem GL (h:RN)(m n:Md)(i a:Int):oSem .pow h [(m,.int i),(n,.int a)]=if decide (0<=a)&&decide (a<=1000000)&&decide (i.natAbs<18446744073709551616) then O (.d,.int<|i ^ a.toNat) else none:=rfl
theorem F9 (h:RN)(m:Md)(i:Int):oSem .neg h [(m,.int i)]=O (.d,.int (-i)):=rfl
theorem Eu (h:RN)(m n:Md)(i a:Int):oSem .eq h [(m,.int i),(n,.int a)]=O (.d,.bl<|i==a):=rfl
theorem BI (h:RN)(m n:Md)(x y:Str):oSem .eq h [(m,.str x),(n,.str y)]=O (.d,.bl<|x==y):=rfl
theorem EC (h:RN)(m n:Md)(i a:Int):oSem .ne h [(m,.int i),(n,.int a)]=O (.d,.bl<|!(i==a)):=rfl
theorem CM (h:RN)(m n:Md)(x y:Str):oSem .ne h [(m,.str x),(n,.str y)]=O (.d,.bl<|!(x==y)):=rfl
theorem IB (h:RN)(m n:Md)(i a:Int):oSem .lt h [(m,.int i),(n,.int a)]=O (.d,.bl<|decide (i<a)):=rfl
theorem Kc (h:RN)(m n:Md)(i a:Int):oSem .le h [(m,.int i),(n,.int a)]=O (.d,.bl<|decide (i<=a)):=rfl
theorem Ja (h:RN)(m n:Md)(i a:Int):oSem .gt h [(m,.int i),(n,.int a)]=O (.d,.bl<|decide (a<i)):=rfl
theorem Ji (h:RN)(m n:Md)(i a:Int):oSem .ge h [(m,.int i),(n,.int a)]=O (.d,.bl<|decide (a<=i)):=rfl
theorem Hb (h:RN)(m n:Md)(a:U T)(i:Int):oSem .ix h [(m,.lst a),(n,.int i)]=(atI a i).map λt=>(m.kid,t):=rfl
theorem GF (h:RN)(m n:Md)(a:U T)(i:Int):oSem .ix h [(m,.tup a),(n,.int i)]=(atI a i).map λt=>(m.kid,t):=rfl
theorem D3 (h:RN)(m:Md)(a:U T):oSem .len h [(m,.lst a)]=O (.d,.int a.length):=rfl
theorem BN (h:RN)(m:Md)(a:U T):oSem .len h [(m,.tup a)]=O (.d,.int a.length):=rfl
theorem E5 (h:RN)(m n:Md)(a:U Int)(i:Int):oSem .sl2 h [(m,.scr a),(n,.int i)]=O (.d,.lst<|(cut a J<|O i).map T.int):=rfl
theorem Fi (b:U R1)(h:RN)(m:Md)(a:T):oSem (.isI b) h [(m,a)]=if a.isH then J else O (.d,.bl<|b.any λc=>isOne c a):=rfl
theorem HU:T.isH .non=false:=rfl
theorem IM (b:RN):T.isH (.bl b)=false:=rfl
theorem Gh (i:Int):T.isH (.int i)=false:=rfl
theorem HX (x:Str):T.isH (.str x)=false:=rfl
theorem E2 (a:U T):T.isH (.tup a)=false:=rfl
theorem FU (a:U T):T.isH (.lst a)=false:=rfl
theorem yu (h:RN)(m:Md)(a:U T):oSem .list h [(m,.lst a)]=newL h m.kid a:=rfl
theorem yS (h:RN)(m n:Md)(a:T)(b:U T):oSem .isin h [(m,a),(n,.lst b)]=if flatT a&&b.all flatT then O (.d,.bl<|b.any λt=>eqT t a) else none:=rfl
theorem FZ (h:RN)(n:Md)(a:U<|Int ⊕ Str)(b:U T)(k:T):oSem .ixD h [(.s,.dct a b),(n,k)]=(keyT k).bind λq=>(lookD q a b).map λt=>(.s,t):=rfl
theorem lH (C:Call)(h:RN)(i t:Y)(c e:E)(a:Env):evE C (.compV h i t c e) a=(ofO<|vwT<|rd a i).bind (kV1 h i t (cw (evE C c)<|evE C e) a):=rfl
theorem oO (C:Call)(i:Y)(e:E)(a:Env):evE C (.popN i e) a=(fG<|rd a i).bind (i3 (evE C e) a<|ik i):=rfl
theorem nM (C:Call)(x:X)(i:Y)(k e:E)(a:Env):evS C (.setS x i k e) a=Fl.of a (evX C x e a) (pQ i (evX C x k) a):=rfl
theorem nL (C:Call)(i k l:Y)(a:Env):evS C (.insN i k l) a=nxO a ((gX (rd a i) (rd a k)<|rd a l).map λw=>put a i w):=rfl
theorem BQ (m n:Md)(b:U T)(a:Int)(t:T):kE (O (.d,.lst b)) (O (m,.int a)) (O (n,t))=(ixN b.length a).bind λq=>apU b q t b[q]?:=rfl
theorem pd (C:Call)(i:Y)(a:Env):evS C (.revS i) a=nxO a (((rd a i).bind jt).map λw=>put a i w):=rfl
theorem D7 (h:RN):oSem .dnew h []=O (.d,.dct [] []):=rfl
theorem CH (h:RN)(m:Md)(b:U T):oSem .maxZ h [(m,.lst b)]=(intsOf b).bind λa=>O (.d,.int<|if a.isEmpty then 0 else maxI a):=rfl
theorem DR (h:RN)(m:Md)(b:U T):oSem .max1 h [(m,.lst b)]=(intsOf b).bind λa=>if a.isEmpty then J else O (.d,.int<|maxI a):=rfl
theorem sE (h:RN)(m:Md)(b:U T):oSem .sorted h [(m,.lst b)]=(intsOf b).bind λa=>if decide (a.length<64) then O (.d,.lst<|(sortI a).map T.int) else none:=rfl
theorem mX (h:RN)(m:Md)(b:U T):oSem .sortedSet h [(m,.lst b)]=(intsOf b).bind λa=>if decide (a.length<64) then O (.d,.lst<|(sortI<|a.foldl addZ []).map T.int) else none:=rfl
theorem zp (h:RN)(m n:Md)(i a:Int):oSem .fdivN h [(m,.int i),(n,.int a)]=if(a != 0)&&decide (a.natAbs<18446744073709551616) then O (.d,.int<|i.fdiv a) else none:=rfl
theorem EG (h:RN)(m n:Md)(i a:Int):oSem .modN h [(m,.int i),(n,.int a)]=if a != 0 then O (.d,.int<|i.fmod a) else none:=rfl
theorem xl (h:RN)(m n:Md)(a b:RN):oSem .isnB h [(m,.bl a),(n,.bl b)]=O (.d,.bl<|!(a==b)):=rfl
theorem Be (m:Md)(a:U T):bN .sq2 [(m,.lst a)]=cq a:=rfl
theorem km (h:RN)(m:Md)(a:U T):oSem .tuple h [(m,.lst a)]=O (m.kid.up,.tup a):=rfl
theorem F3 (h:RN)(m:Md)(a:U T):oSem .sum h [(m,.lst a)]=(intsOf a).map λb=>(.d,.int b.sum):=rfl
theorem GS (h:RN)(m:Md)(a:U T):oSem .all h [(m,.lst a)]=(boolsOf a).map λbs=>(.d,.bl<|bs.all id):=rfl
theorem DY (m:Md)(a:U T):newL Kh m a=if leaves a then O (.d,.lst a) else none:=rfl
theorem Er (m:Md)(a:U T):newL Kg m a=O (m.up,.lst a):=rfl
theorem Dk (m:Md)(a:U T):bN .seq [(m,.lst a)]=O (a.map λt=>[(.s,t)]):=rfl
theorem Dh (m:Md)(a:U T):bN .seq [(m,.tup a)]=O (a.map λt=>[(.s,t)]):=rfl
theorem En (m n o:Md)(i a c:Int):bN .rng [(m,.int i),(n,.int a),(o,.int c)]=if decide (i.natAbs<4611686018427387904)&&decide (a.natAbs<4611686018427387904)&&decide (c=-1)&&fits (i-a).toNat then O ((Kq (i-a).toNat).map λ(k:Y)=>[(.d,.int<|i-k)]) else none:=rfl
theorem vL (m:Md)(n:Int):bN .rng [(m,.int n)]=if decide (n.natAbs<4611686018427387904)&&fits n.toNat then O ((Kq n.toNat).map λ(k:Y)=>[(.d,.int k)]) else none:=rfl
theorem GX {b c:Type}(f:b->c)(a:b):(O a).map f=O (f a):=rfl
theorem vH (b:RN):truth (.bl b)=O b:=rfl
theorem zw {b c:Type}(a:b)(f:b->j c):(O a).bind f=f a:=rfl
theorem zv:Md.s.kid=.s:=rfl
theorem AM:Md.d.kid=.d:=rfl
theorem xy (m:Md):(Md.o m).kid=m:=rfl
theorem Em:Md.s.up=.o .s:=rfl
theorem CT:Md.d.up=.d:=rfl
theorem tP (m:Md):Md.s.meet m=.s:=by cases m<;>rfl
theorem iV (m:Md):Md.d.meet m=m:=by cases m<;>rfl
theorem Ec (n:Md)(a:U T)(t:T):jr (.d,.lst a) (n,t)=if a.length<LIM then O ((lf n t).up,.lst<|a++[t]) else none:=by show(if _ then O ((Md.d.meet _).up,_) else J)=_;rw[iV]
theorem BR (m n:Md)(a:U T)(t:T):jr (.o m,.lst a) (n,t)=if a.length<LIM then O ((m.meet<|lf n t).up,.lst<|a++[t]) else none:=rfl
theorem BS (l n:Md)(b:U T)(t:T)(a:Int):de (.d,.lst b) (l,.int a) (n,t)=(ixN b.length a).map λk=>((lf n t).up,.lst<|b.set k t):=by show((ixN b.length a).map λk=>((Md.d.meet _).up,_))=_;rw[iV]
theorem Et (m l n:Md)(b:U T)(t:T)(a:Int):de (.o m,.lst b) (l,.int a) (n,t)=(ixN b.length a).map λk=>((m.meet<|lf n t).up,.lst<|b.set k t):=rfl
theorem BJ (m:Md)(a:U T):fG (O (m,.lst a))=.ok ():=rfl
theorem Ic (b a:Env):nxO b (O a)=.nx a:=rfl
theorem wH (a:Env):backs [] a=O []:=rfl
theorem vA (i:Y)(b:U Y)(a:Env):backs (i::b) a=(rd a i).bind λw=>(backs b a).bind λc=>O (w::c):=rfl
theorem Ex (a:U Y)(b:Env):Fl.out a (.nx b)=(ofO<|backs a b).bind (uP (.d,.non)):=rfl
theorem B6 (a:U Y)(w:W)(b:Env):Fl.out a (.rt w b)=(ofO<|backs a b).bind (uP w):=rfl
theorem x_run (C:Call)(f:Fn)(a:U W)(h:a.length=f.ps):runF C f a=Fl.out f.io (evSs C f.body<|a.map O++Ky f.ns J):=RJ h
theorem at0 {b:Type}(a:b)(l:U b):atI (a::l) 0=O a:=by simp[atI,ixN]
theorem atN {c:Type}{b:U c}{i:Int}{n:Y}{a:c}(d:i=n)(h:b[n]?=O a):atI b i=O a:=by subst d;have:=(LJ.mp h).1;rw[atI,ixN,RJ<|by lia,RJ<|by lia];exact h
theorem at1 {c:Type}(a b:c)(l:U c):atI (a::b::l) 1=O b:=atN (n:=1) rfl rfl
theorem at2 {d:Type}(a b c:d)(l:U d):atI (a::b::c::l) 2=O c:=atN (n:=2) rfl rfl
theorem at3 {e:Type}(a b c d:e)(l:U e):atI (a::b::c::d::l) 3=O d:=atN (n:=3) rfl rfl
theorem aI {k:Type}{d:U Y}{f:Env->Res (j W×Env)}{i:Env}{g:k->U W}(w:k->W):∀(e:U k) (a:U W),(∀x∈e,∃b c,bA d (g x) i=O b/\f b=.ok (O<|w x,c)/\ag d c=i) ->
 aA d f (e.map g) i a=.ok (a++e.map w,i)
|[],a,_=>by rw[Nh,Nh,La];rfl
|x::e,a,h=>by obtain⟨b,c,l,m,n⟩:=h x Ku;rw[K2,K2];show(ofO<|bA d (g x) i).bind _=_;rw[l];show(f b).bind _=_;rw[m];show aA d f (e.map g) (ag d c) (a++[w x])=_;rw[n,aI w e _ λy o=>h y<|Kw _ o,Ll];rfl
theorem pC {a:Type}(g:a->T)(b:U a):(b.map λx=>((Md.d,g x):W)).all okD=true:=by rw[List.all_map,K5];intro x _;rfl
end M

namespace MR
open L2 L3 M
open PySem (Addr Str sizeLine)
abbrev Fp:=RL->Prop
def ScrR (K:Kk)(H:Hp)(a:RL)(b:U Int):Prop:=(∃o,H a=O (.frz o<|.lst<|b.map V.int))\/SqL K (λ_=>J) a (b.map V.int)
theorem ScrR.sq {K:Kk}{H:Hp}{a:RL}{b:U Int}(h:ScrR K H a b):SqL K H a (b.map V.int):=by
 rcases h with⟨o,h⟩|((h|⟨o,h⟩)|h)
 .exact .inl (.inr ⟨o,h⟩)
 .cases h
 .cases h
 .exact .inr h
theorem ScrR.keep {K:Kk}{H b:Hp}{a:RL}{c:U Int}(s:∀a o u,H a=O (.frz o u)->b a=O (.frz o u))(h:ScrR K H a c):ScrR K b a c:=h.imp (λ⟨o,e⟩=>⟨o,s a o _ e⟩) id
def LstR (K:Kk)(Z:Fp)(H:Hp)(G:Fp)(a:RL)(b:U V):Md->Prop
|.s=>Z a/\H a=O (.lst b)
|_=>G a/\H a=O (.lst b)
def mkD (a:U<|Int ⊕ Str)(b:U V):U (Key×V):=a.zip b
def DctR (Z:Fp)(H:Hp)(G:Fp)(a:RL)(o:HO):Md->Prop
|.s=>Z a/\H a=O o
|_=>G a/\H a=O o
def dmd:Md->Md
|.d=>.d
|_=>.s
mutual
def Rep (K:Kk)(Z:Fp)(H:Hp):Md->T->V->Fp->Prop
|_,.non,v,_=>v=.non
|_,.bl b,v,_=>v=.bl b
|_,.int i,v,_=>v=.int i
|_,.str x,v,_=>v=.str x/\sOk x=Kh
|m,.tup ts,v,G=>∃a xs,v=.ref a/\SqT K H a xs/\xs.length<=LIM/\RepL K Z H m.kid ts xs G
|m,.lst ts,v,G=>∃a xs,v=.ref a/\xs.length<=LIM/\LstR K Z H G a xs m/\RepL K Z H m.kid ts xs (λb=>G b/\b≠a)
|m,.dct ks vs,v,G=>∃a xs,v=.ref a/\ks.length<=LIM/\DctR Z H G a (.dK<|mkD ks xs) m/\(ks.Nodup/\∀k∈ks,kOk k=Kh)/\vs.length=ks.length/\RepL K Z H (dmd m) vs xs (λ_=>RX)
|m,.ins c fs vs,v,_=>m≠.d/\∃a dx C xs,v=.ref a/\Z a/\Z dx/\H a=O (XO a C (O dx) Kg)/\H dx=O (.xd<|fs.zip xs)/\fs.length=vs.length/\XNm K c C/\RepL K Z H .s vs xs (λ_=>RX)
|_,.gone,_,_=>Sv
|_,.scr ns,v,_=>∃a,v=.ref a/\ns.length<=LIM/\ScrR K H a ns
def RepL (K:Kk)(Z:Fp)(H:Hp):Md->U T->U V->Fp->Prop
|_,[],xs,_=>xs=[]
|m,t::ts,xs,G=>∃x r G1 G2,xs=x::r/\(∀a,G1 a->G a)/\(∀a,G2 a->G a)/\(∀a,G1 a->¬G2 a)/\Rep K Z H m t x G1/\RepL K Z H m ts r G2
end
section
variable {K:Kk}{Z Z':Fp}{H H':Hp}{m:Md}{t:T}{ts:U T}{v:V}{xs:U V}{G G':Fp}
theorem LstR.mono {a:RL}(w:∀a,G a->G' a)(h:LstR K Z H G a xs m):LstR K Z H G' a xs m:=by
 cases m with
 |s=>exact h
 |d=>exact⟨w _ h.1,h.2⟩
 |o m=>exact⟨w _ h.1,h.2⟩
theorem DctR.mono {a:RL}{o:HO}(w:∀a,G a->G' a)(h:DctR Z H G a o m):DctR Z H G' a o m:=by
 cases m with
 |s=>exact h
 |d=>exact⟨w _ h.1,h.2⟩
 |o m=>exact⟨w _ h.1,h.2⟩
mutual
theorem Rep.mono:∀{m:Md} {t:T} {v:V} {G G':Fp},(∀a,G a->G' a)->Rep K Z H m t v G->Rep K Z H m t v G'
|_,.non,_,_,_,_,h=>h
|_,.bl _,_,_,_,_,h=>h
|_,.int _,_,_,_,_,h=>h
|_,.str _,_,_,_,_,h=>h
|m,.tup ts,v,G,G',w,⟨a,xs,e,q,l,r⟩=>⟨a,xs,e,q,l,RepL.mono w r⟩
|m,.lst ts,v,G,G',w,⟨a,xs,e,l,q,r⟩=>⟨a,xs,e,l,q.mono w,RepL.mono (λb hb=>⟨w b hb.1,hb.2⟩) r⟩
|m,.dct ks vs,v,G,G',w,⟨a,xs,e,l,q,n,hl,r⟩=>⟨a,xs,e,l,q.mono w,n,hl,r⟩
|_,.ins _ _ _,_,_,_,_,h=>h
|_,.gone,_,_,_,_,h=>h
|_,.scr _,_,_,_,_,h=>h
theorem RepL.mono:∀{m:Md} {ts:U T} {xs:U V} {G G':Fp},(∀a,G a->G' a)->RepL K Z H m ts xs G->RepL K Z H m ts xs G'
|_,[],_,_,_,_,h=>h
|m,t::ts,xs,G,G',w,⟨x,r,G1,G2,e,h1,h2,hd,p,q⟩=>⟨x,r,G1,G2,e,λa ha=>w a<|h1 a ha,λa ha=>w a<|h2 a ha,hd,p,q⟩
end
def Stay (Z:Fp)(H H':Hp):Prop:=(∀a o,Z a->H a=O o->H' a=O o)/\(∀a xs,Rd H a (.tup xs)->Rd H' a (.tup xs))/\∀a o u,H a=O (.frz o u)->H' a=O (.frz o u)
theorem Stay.sqt (s:Stay Z H H'){a:RL}(h:SqT K H a xs):SqT K H' a xs:=by
 rcases h with h|h
 .exact .inl (s.2.1 a xs h)
 .exact .inr h
theorem LstR.keep {a:RL}(s:Stay Z H H')(z:∀a,Z a->Z' a)(g:∀a o,G a->H a=O o->H' a=O o)(h:LstR K Z H G a xs m):LstR K Z' H' G a xs m:=by
 cases m with
 |s=>exact⟨z _ h.1,s.1 _ _ h.1 h.2⟩
 |d=>exact⟨h.1,g _ _ h.1 h.2⟩
 |o m=>exact⟨h.1,g _ _ h.1 h.2⟩
theorem DctR.keep {a:RL}{o:HO}(s:Stay Z H H')(z:∀a,Z a->Z' a)(g:∀a o,G a->H a=O o->H' a=O o)(h:DctR Z H G a o m):DctR Z' H' G a o m:=by
 cases m with
 |s=>exact⟨z _ h.1,s.1 _ _ h.1 h.2⟩
 |d=>exact⟨h.1,g _ _ h.1 h.2⟩
 |o m=>exact⟨h.1,g _ _ h.1 h.2⟩
mutual
theorem Rep.keep (s:Stay Z H H')(z:∀a,Z a->Z' a):∀{m:Md} {t:T} {v:V} {G:Fp},(∀a o,G a->H a=O o->H' a=O o)->Rep K Z H m t v G->Rep K Z' H' m t v G
|_,.non,_,_,_,h=>h
|_,.bl _,_,_,_,h=>h
|_,.int _,_,_,_,h=>h
|_,.str _,_,_,_,h=>h
|m,.tup ts,v,G,g,⟨a,xs,e,q,l,r⟩=>⟨a,xs,e,s.sqt q,l,RepL.keep s z g r⟩
|m,.lst ts,v,G,g,⟨a,xs,e,l,q,r⟩=>⟨a,xs,e,l,q.keep s z g,RepL.keep s z (λb o hb=>g b o hb.1) r⟩
|m,.dct ks vs,v,G,g,⟨a,xs,e,l,q,n,hl,r⟩=>⟨a,xs,e,l,q.keep s z g,n,hl,RepL.keep s z (λ_ _ hb=>hb.elim) r⟩
|_,.ins _ _ _,_,_,_,⟨ne,a,dx,C,xs,e,z1,z2,h1,h2,l,n,r⟩=>⟨ne,a,dx,C,xs,e,z _ z1,z _ z2,s.1 _ _ z1 h1,s.1 _ _ z2 h2,l,n,RepL.keep s z (λ_ _ hb=>hb.elim) r⟩
|_,.gone,_,_,_,h=>h
|_,.scr _,_,_,_,⟨a,e,l,q⟩=>⟨a,e,l,q.keep s.2.2⟩
theorem RepL.keep (s:Stay Z H H')(z:∀a,Z a->Z' a):∀{m:Md} {ts:U T} {xs:U V} {G:Fp},(∀a o,G a->H a=O o->H' a=O o)->RepL K Z H m ts xs G->RepL K Z' H' m ts xs G
|_,[],_,_,_,h=>h
|m,t::ts,xs,G,g,⟨x,r,G1,G2,e,h1,h2,hd,p,q⟩=>⟨x,r,G1,G2,e,h1,h2,hd,Rep.keep s z (λa o ha=>g a o<|h1 a ha) p,RepL.keep s z (λa o ha=>g a o<|h2 a ha) q⟩
end
theorem eE (Z:Fp)(H:Hp):Stay Z H H:=⟨λ_ _ _ h=>h,λ_ _ h=>h,λ_ _ _ h=>h⟩
theorem Rep.zmono (z:∀a,Z a->Z' a)(h:Rep K Z H m t v G):Rep K Z' H m t v G:=h.keep (eE Z H) z λ_ _ _ q=>q
theorem RepL.zmono (z:∀a,Z a->Z' a)(h:RepL K Z H m ts xs G):RepL K Z' H m ts xs G:=h.keep (eE Z H) z λ_ _ _ q=>q
theorem RepL.length:∀{ts:U T} {xs:U V} {G:Fp},RepL K Z H m ts xs G->xs.length=ts.length
|[],_,_,h=>by rw[show _=[] from h];rfl
|_::_,_,_,⟨x,r,a,b,e,_,_,_,_,q⟩=>by rw[e,Kz,Kz,RepL.length q]
theorem RepL.get:∀{ts:U T} {xs:U V} {G:Fp} {i:Y} {t:T},RepL K Z H m ts xs G->ts[i]?=O t->∃x,xs[i]?=O x/\Rep K Z H m t x G
|[],_,_,_,_,_,e=>by simp at e
|_::_,_,_,0,_,⟨x,r,a,b,e,c,_,_,p,_⟩,e2=>by rw[NP] at e2;cases e2;exact⟨x,by rw[e];rfl,p.mono c⟩
|_::_,_,_,i+1,_,⟨x,r,a,b,e,_,d,_,_,q⟩,e2=>by rw[LI] at e2;obtain⟨y,f,p⟩:=RepL.get q e2;exact⟨y,by rw[e,LI];exact f,p.mono d⟩
theorem RepL.append:∀{ts g:U T} {xs f:U V} {G1 G2 G:Fp},(∀a,G1 a->G a)->(∀a,G2 a->G a)->(∀a,G1 a->¬G2 a)->RepL K Z H m ts xs G1->RepL K Z H m g f G2->RepL K Z H m (ts++g) (xs++f) G
|[],g,xs,f,G1,G2,G,i,l,d,h,k=>by rw[show xs=[] from h];exact k.mono l
|t::ts,g,xs,f,G1,G2,G,i,l,d,⟨x,r,A,b,e,n,o,u,p,q⟩,k=>by rw[e];refine⟨x,r++f,A,λa=>b a\/G2 a,rfl,λa c=>i a<|n a c,λa c=>c.elim (λz=>i a<|o a z)<|l a,λa c s=>s.elim (u a c)<|d a<|n a c,p,?_⟩;exact RepL.append (λa z=>.inl z) (λa z=>.inr z) (λa c=>d a<|o a c) q k
theorem RepL.one {x:V}(p:Rep K Z H m t x G):RepL K Z H m [t] [x] G:=⟨x,[],G,λ_=>RX,rfl,λ_ h=>h,λ_ h=>h.elim,λ_ _ h=>h,p,rfl⟩
theorem RepL.take:∀{ts:U T} {xs:U V} {G:Fp} (n:Y),RepL K Z H m ts xs G->RepL K Z H m (ts.take n) (xs.take n) G
|[],_,_,n,h=>by rw[show _=[] from h,PJ,PJ];rfl
|_::_,_,_,0,h=>rfl
|_::_,_,_,n+1,⟨x,r,A,a,e,b,c,d,p,q⟩=>by rw[e];exact⟨x,r.take n,A,a,rfl,b,c,d,p,RepL.take n q⟩
theorem RepL.drop:∀{ts:U T} {xs:U V} {G:Fp} (n:Y),RepL K Z H m ts xs G->RepL K Z H m (ts.drop n) (xs.drop n) G
|[],_,_,n,h=>by rw[show _=[] from h,PH,PH];rfl
|_::_,_,_,0,h=>h
|_::_,_,_,n+1,⟨x,r,A,a,e,c,b,d,p,q⟩=>by rw[e];exact(RepL.drop n q).mono b
theorem Rep.leaf {m':Md}(c:∀a o u,H a=O (.frz o u)->H' a=O (.frz o u))(b:t.leaf=Kh)(h:Rep K Z H m t v G):Rep K Z' H' m' t v G':=by
 cases t with
 |non=>exact h
 |bl _=>exact h
 |int _=>exact h
 |str _=>exact h
 |scr _=>obtain⟨a,e,l,q⟩:=h;exact⟨a,e,l,q.keep c⟩
 |_=>cases b
theorem RepL.leaves {m':Md}(d:∀a o u,H a=O (.frz o u)->H' a=O (.frz o u)):∀{ts:U T} {xs:U V} {G G':Fp},leaves ts=Kh->RepL K Z H m ts xs G->RepL K Z' H' m' ts xs G'
|[],_,_,_,_,h=>h
|t::ts,_,_,G',f,⟨x,r,A,b,e,g,i,k,p,q⟩=>by have c:(t.leaf&&ts.all T.leaf)=true:=f;rw[KS] at c;exact⟨x,r,λ_=>RX,λ_=>RX,e,λ_ z=>z.elim,λ_ z=>z.elim,λ_ z=>z.elim,p.leaf d c.1,RepL.leaves d c.2 q⟩
noncomputable def no:Fp:=λ_=>RX
mutual
theorem Rep.sh:∀{m:Md} {t:T} {v:V} {G:Fp},Rep K Z H m t v G->Rep K (λa=>Z a\/G a) H .s t v no
|_,.non,_,_,h=>h
|_,.bl _,_,_,h=>h
|_,.int _,_,_,h=>h
|_,.str _,_,_,h=>h
|m,.tup ts,v,G,⟨a,xs,e,q,l,r⟩=>⟨a,xs,e,q,l,RepL.sh r⟩
| m,.lst ts,v,G,⟨a,xs,e,l,q,r⟩=>⟨a,xs,e,l,by
  cases m with
  |s=>exact⟨.inl q.1,q.2⟩
  |d=>exact⟨.inr q.1,q.2⟩
  |o m=>exact⟨.inr q.1,q.2⟩,(RepL.zmono (λb hb=>hb.elim .inl λz=>.inr z.1)<|RepL.sh r).mono λ_ z=>z.elim⟩
| m,.dct ks vs,v,G,⟨a,xs,e,l,q,n,hl,r⟩=>⟨a,xs,e,l,by
  cases m with
  |s=>exact⟨.inl q.1,q.2⟩
  |d=>exact⟨.inr q.1,q.2⟩
  |o m=>exact⟨.inr q.1,q.2⟩,n,hl,RepL.zmono (λb hb=>hb.elim .inl λz=>z.elim)<|RepL.sh r⟩
|_,.ins _ _ _,_,_,⟨ne,a,dx,C,xs,e,z1,z2,h1,h2,l,n,r⟩=>⟨(λz=>by cases z),a,dx,C,xs,e,.inl z1,.inl z2,h1,h2,l,n,RepL.zmono (λb hb=>hb.elim .inl λz=>z.elim)<|RepL.sh r⟩
|_,.gone,_,_,h=>h
|_,.scr _,_,_,h=>h
theorem RepL.sh:∀{m:Md} {ts:U T} {xs:U V} {G:Fp},RepL K Z H m ts xs G->RepL K (λa=>Z a\/G a) H .s ts xs no
|_,[],_,_,h=>h
|m,t::ts,xs,G,⟨x,r,G1,G2,e,h1,h2,hd,p,q⟩=>⟨x,r,no,no,e,λ_ z=>z,λ_ z=>z,λ_ z _=>z,Rep.zmono (λb hb=>hb.imp id (h1 b))<|Rep.sh p,RepL.zmono (λb hb=>hb.imp id (h2 b))<|RepL.sh q⟩
end
theorem J8:∀a:Md,a.le .d=Kh
|.s=>rfl | .d=>rfl | .o _=>rfl
theorem kd:∀a:Md,a.le a=Kh
|.s=>rfl | .d=>rfl | .o a=>kd a
theorem le_trans:∀{a b c:Md},a.le b=Kh->b.le c=Kh->a.le c=Kh
|.s,_,.s,_,_=>rfl
|.s,_,.d,_,_=>rfl
|.s,_,.o _,_,_=>rfl
|.o a,.o b,.o c,h,k=>le_trans (a:=a) (b:=b) (c:=c) h k
|.o a,.o b,.d,h,k=>rfl
|.o a,.d,.d,h,k=>rfl
|.d,.d,.d,_,_=>rfl
|.d,.s,_,h,_=>by cases h
|.d,.o _,_,h,_=>by cases h
|.o _,.s,_,h,_=>by cases h
|.o _,.o _,.s,_,k=>by cases k
|.o _,.d,.s,_,k=>by cases k
|.o _,.d,.o _,_,k=>by cases k
|.d,.d,.s,_,k=>by cases k
|.d,.d,.o _,_,k=>by cases k
theorem dh:∀a b:Md,(a.meet b).le a=Kh/\(a.meet b).le b=Kh
|.s,.s=>⟨rfl,rfl⟩
|.s,.d=>⟨rfl,rfl⟩
|.s,.o _=>⟨rfl,rfl⟩
|.d,.s=>⟨rfl,rfl⟩
|.d,.d=>⟨rfl,rfl⟩
|.d,.o b=>⟨rfl,kd b⟩
|.o _,.s=>⟨rfl,rfl⟩
|.o a,.d=>⟨kd a,rfl⟩
|.o a,.o b=>dh a b
theorem wM:∀{a b:Md},a.le b=Kh->a.kid.le b.kid=Kh
|.s,.s,_=>rfl
|.s,.d,_=>rfl
|.s,.o _,_=>by first|rfl|exact(by cases ‹Md›<;>rfl)
|.o a,.o b,h=>h
|.o a,.d,_=>J8 a
|.d,.d,_=>rfl
|.d,.s,h=>by cases h
|.d,.o _,h=>by cases h
|.o _,.s,h=>by cases h
theorem fP:∀a:Md,a.up.kid=a
|.s=>rfl | .d=>rfl | .o _=>rfl
theorem eC (a:Md):a.up≠.s:=by cases a<;>intro h<;>cases h
theorem LstR.own {a:RL}(b:m≠.s):LstR K Z H G a xs m ↔ G a/\H a=O (.lst xs):=by
 cases m with
 |s=>exact RM rfl b
 |d=>exact Iff.rfl
 |o m=>exact Iff.rfl
abbrev c7 (Z G G':Fp):Fp:=λa=>Z a\/(G a/\¬G' a)
mutual
theorem Rep.weak:∀{m m':Md} {t:T} {v:V} {G:Fp},m'.le m=Kh->Rep K Z H m t v G->∃G',(∀a,G' a->G a)/\Rep K (c7 Z G G') H m' t v G'
|m,m',.non,_,G,_,h=>⟨G,λ_ z=>z,h⟩
|m,m',.bl _,_,G,_,h=>⟨G,λ_ z=>z,h⟩
|m,m',.int _,_,G,_,h=>⟨G,λ_ z=>z,h⟩
|m,m',.str _,_,G,_,h=>⟨G,λ_ z=>z,h⟩
|m,m',.scr _,_,G,_,h=>⟨G,λ_ z=>z,h⟩
|m,m',.tup ts,v,G,hm,⟨a,xs,e,q,l,r⟩=>by obtain⟨G',h1,h2⟩:=RepL.weak (wM hm) r;exact⟨G',h1,a,xs,e,q,l,h2⟩
| m,m',.lst ts,v,G,hm,h=>by
 cases m' with
 |s=>exact⟨no,λ_ z=>z.elim,(Rep.sh h).zmono λa ha=>ha.imp id λz=>⟨z,λq=>q⟩⟩
 |d=>
  cases m with
  |s=>cases hm
  |o _=>cases hm
  |d=>exact⟨G,λ_ z=>z,h.zmono λ_ z=>.inl z⟩
 |o k=>
  have hne:m≠.s:=by rintro rfl;cases hm
  obtain⟨a,xs,e,l,q,r⟩:=h;rw[LstR.own hne] at q;obtain⟨G',h1,h2⟩:=RepL.weak (wM hm) r;refine⟨λb=>G' b\/b=a,λb hb=>hb.elim (λz=>(h1 b z).1) λz=>z ▸ q.1,a,xs,e,l,⟨.inr rfl,q.2⟩,?_⟩;refine(h2.zmono λb hb=>?_).mono λb hb=>⟨.inl hb,(h1 b hb).2⟩;rcases hb with z|⟨⟨z1,z2⟩,z3⟩
  .exact .inl z
  .exact .inr ⟨z1,λq=>q.elim z3 z2⟩
| m,m',.dct ks vs,v,G,hm,h=>by
 cases m' with
 |s=>exact⟨no,λ_ z=>z.elim,(Rep.sh h).zmono λa ha=>ha.imp id λz=>⟨z,λq=>q⟩⟩
 |d=>
  cases m with
  |s=>cases hm
  |o _=>cases hm
  |d=>exact⟨G,λ_ z=>z,h.zmono λ_ z=>.inl z⟩
 |o k=>
  obtain⟨a,xs,e,l,q,n,hl,r⟩:=h;cases m with
  |s=>cases hm
  |d=>exact⟨G,λ_ z=>z,a,xs,e,l,q,n,hl,RepL.zmono (λb hb=>hb.elim .inl λz=>z.elim)<|RepL.sh r⟩
  |o k'=>exact⟨G,λ_ z=>z,a,xs,e,l,q,n,hl,RepL.zmono (λb hb=>.inl hb) r⟩
|m,m',.ins _ _ _,v,G,hm,⟨ne,a,dx,C,xs,e,z1,z2,h1,h2,l,n,r⟩=>⟨G,λ_ z=>z,(λz=>ne<|by subst z;cases m<;>first|rfl|cases hm),a,dx,C,xs,e,.inl z1,.inl z2,h1,h2,l,n,RepL.zmono (λb hb=>.inl hb) r⟩
|m,m',.gone,_,G,_,h=>⟨G,λ_ z=>z,h⟩
theorem RepL.weak:∀{m m':Md} {ts:U T} {xs:U V} {G:Fp},m'.le m=Kh->RepL K Z H m ts xs G->∃G',(∀a,G' a->G a)/\RepL K (c7 Z G G') H m' ts xs G'
|m,m',[],_,G,_,h=>⟨G,λ_ z=>z,h⟩
|m,m',t::ts,xs,G,hm,⟨x,r,G1,G2,e,h1,h2,hd,p,q⟩=>by
 obtain⟨A,a1,a2⟩:=Rep.weak hm p;obtain⟨B,b1,b2⟩:=RepL.weak hm q;refine⟨λb=>A b\/B b,λb hb=>hb.elim (λz=>h1 b<|a1 b z) λz=>h2 b<|b1 b z,x,r,A,B,e,λ_ z=>.inl z,λ_ z=>.inr z,λb za zb=>hd b (a1 b za)<|b1 b zb,?_,?_⟩
 .refine a2.zmono λb hb=>hb.imp id λz=>⟨h1 b z.1,λq=>q.elim z.2 λw=>hd b z.1<|b1 b w⟩
 .refine b2.zmono λb hb=>hb.imp id λz=>⟨h2 b z.1,λq=>q.elim (λw=>hd b (a1 b w) z.1) z.2⟩
end
def RepW (K:Kk)(Z:Fp)(H:Hp):U W->U V->Fp->Prop
|[],xs,_=>xs=[]
|w::d,xs,G=>∃x r b c,xs=x::r/\(∀a,b a->G a)/\(∀a,c a->G a)/\(∀a,b a->¬c a)/\Rep K Z H w.1 w.2 x b/\RepW K Z H d r c
theorem RepW.length:∀{a:U W} {xs:U V} {G:Fp},RepW K Z H a xs G->xs.length=a.length
|[],_,_,h=>by rw[show _=[] from h];rfl
|_::_,_,_,⟨x,r,b,c,e,_,_,_,_,q⟩=>by rw[e,Kz,Kz,RepW.length q]
theorem RepW.mono:∀{c:U W} {xs:U V} {G G':Fp},(∀a,G a->G' a)->RepW K Z H c xs G->RepW K Z H c xs G'
|[],_,_,_,_,h=>h
|_::_,_,_,_,w,⟨x,r,d,f,e,g,i,k,p,q⟩=>⟨x,r,d,f,e,λa b=>w a<|g a b,λa b=>w a<|i a b,k,p,q⟩
theorem RepW.keep (s:Stay Z H H')(z:∀a,Z a->Z' a):∀{f:U W} {xs:U V} {G:Fp},(∀a o,G a->H a=O o->H' a=O o)->RepW K Z H f xs G->RepW K Z' H' f xs G
|[],_,_,_,h=>h
|_::_,_,_,g,⟨x,r,i,k,e,c,d,l,p,q⟩=>⟨x,r,i,k,e,c,d,l,p.keep s z λa o b=>g a o<|c a b,RepW.keep s z (λa o b=>g a o<|d a b) q⟩
theorem RepW.append:∀{s g:U W} {xs f:U V} {G1 G2 G:Fp},(∀a,G1 a->G a)->(∀a,G2 a->G a)->(∀a,G1 a->¬G2 a)->RepW K Z H s xs G1->RepW K Z H g f G2->RepW K Z H (s++g) (xs++f) G
|[],g,xs,f,G1,G2,G,i,l,d,h,k=>by rw[show xs=[] from h];exact k.mono l
|t::ts,g,xs,f,G1,G2,G,i,l,d,⟨x,r,A,b,e,n,o,w,p,q⟩,k=>by rw[e];refine⟨x,r++f,A,λa=>b a\/G2 a,rfl,λa c=>i a<|n a c,λa c=>c.elim (λz=>i a<|o a z)<|l a,λa c u=>u.elim (w a c)<|d a<|n a c,p,?_⟩;exact RepW.append (λa z=>.inl z) (λa z=>.inr z) (λa c=>d a<|o a c) q k
theorem RepW.one {w:W}{x:V}(p:Rep K Z H w.1 w.2 x G):RepW K Z H [w] [x] G:=⟨x,[],G,no,rfl,λ_ h=>h,λ_ h=>h.elim,λ_ _ h=>h,p,rfl⟩
theorem iC:∀{a:U W} {w:W},w∈a->(iM a).le (lf w.1 w.2)=Kh
|u::a,w,h=>by
 rcases KD.mp h with z|z
 .subst z;exact(dh _ _).1
 .exact le_trans (dh _ _).2 (iC z)
theorem Rep.lf (h:Rep K Z H m t v G):Rep K Z H (M.lf m t) t v G:=by
 unfold M.lf;split
 .rename_i a;exact h.leaf (λ_ _ _ q=>q) a
 .exact h
theorem RepW.to {N:Md}:∀{f:U W} {xs:U V} {G:Fp},(∀w∈f,N.le (M.lf w.1 w.2)=Kh)->RepW K Z H f xs G->∃G',(∀a,G' a->G a)/\RepL K (c7 Z G G') H N (aK f) xs G'
|[],_,G,_,h=>⟨G,λ_ z=>z,h⟩
|w::f,xs,G,o,⟨x,r,L,P,e,l,n,k,p,q⟩=>by
 obtain⟨A,g,s⟩:=Rep.weak (o w Ku) p.lf;obtain⟨c,i,y⟩:=RepW.to (λu D=>o u<|Kw _ D) q;refine⟨λb=>A b\/c b,λb d=>d.elim (λz=>l b<|g b z) λz=>n b<|i b z,x,r,A,c,e,λ_ z=>.inl z,λ_ z=>.inr z,λb F I=>k b (g b F)<|i b I,?_,?_⟩
 .refine s.zmono λb d=>d.imp id λz=>⟨l b z.1,λq=>q.elim z.2 λw=>k b z.1<|i b w⟩
 .refine y.zmono λb d=>d.imp id λz=>⟨n b z.1,λq=>q.elim (λw=>k b (g b w) z.1) z.2⟩
end
def OO:=U V ⊕ U (Key×V)
def OO.ho:OO->HO
|.inl b=>.lst b
|.inr a=>.dK a
def Own (Z:Fp)(H:Hp)(F:Fp):Prop:=∀a,F a->¬Z a/\∃b:OO,H a=O b.ho
theorem kz {b:U V}{a:OO}(e:O (HO.tup b)=O a.ho):RX:=by cases a<;>cases e
theorem eN {o:PySem.Obj}{u:HO}{a:OO}(e:O (HO.frz o u)=O a.ho):RX:=by cases a<;>cases e
structure Step (Z:Fp)(H:Hp)(F:Fp)(Z':Fp)(H':Hp)(F':Fp):Prop where
 keep:∀a o,H a=O o->¬F a->H' a=O o
 zm:∀a,Z a->Z' a
 zn:∀a,Z' a->Z a\/F a\/H a=J
 fn:∀a,F' a->F a\/H a=J
 al:∀a,H a≠J->H' a≠J
 za:(∀a,Z a->H a≠J)->∀a,Z' a->H' a≠J
section
variable {K:Kk}{Z Z1 Z2 Z':Fp}{H H1 H2 H':Hp}{F F1 F2 F' R G:Fp}
theorem Step.refl (Z:Fp)(H:Hp)(F:Fp):Step Z H F Z H F:=⟨λ_ _ h _=>h,λ_ h=>h,λ_ h=>.inl h,λ_ h=>.inl h,λ_ h=>h,λz=>z⟩
theorem Step.trans (s:Step Z H F Z1 H1 F1)(t:Step Z1 H1 F1 Z2 H2 F2):Step Z H F Z2 H2 F2 where
 keep:=λa o h n=>t.keep a o (s.keep a o h n) λq=>(s.fn a q).elim n λz=>by rw[h] at z;cases z
 zm:=λa h=>t.zm a<|s.zm a h
 zn:=λa h=>by
  rcases t.zn a h with q|q|q
  .exact s.zn a q
  .exact .inr (s.fn a q)
  .exact .inr (.inr (by
    cases e:H a with
    |none=>rfl
    |some o=>exact RM q<|s.al a<|by rw[e];simp))
 fn:=λa h=>by
  rcases t.fn a h with q|q
  .exact s.fn a q
  .exact .inr (by
    cases e:H a with
    |none=>rfl
    |some o=>exact RM q<|s.al a<|by rw[e];simp)
 al:=λa h=>t.al a<|s.al a h
 za:=λz=>t.za<|s.za z
theorem Step.frame (R:Fp)(s:Step Z H F Z' H' F'):Step Z H (λa=>F a\/R a) Z' H' (λa=>F' a\/R a) where
 keep:=λa o h n=>s.keep a o h λq=>n<|.inl q
 zm:=s.zm
 zn:=λa h=>(s.zn a h).imp id λq=>q.imp .inl id
 fn:=λa h=>h.elim (λq=>(s.fn a q).imp .inl id) λq=>.inl<|.inr q
 al:=s.al
 za:=s.za
theorem Step.mono (s:Step Z H F Z' H' F')(b:∀a,F a->F1 a)(c:∀a,F2 a->F' a):Step Z H F1 Z' H' F2 where
 keep:=λa o h n=>s.keep a o h λq=>n<|b a q
 zm:=s.zm
 zn:=λa h=>(s.zn a h).imp id λq=>q.imp (b a) id
 fn:=λa h=>(s.fn a<|c a h).imp (b a) id
 al:=s.al
 za:=s.za
theorem Own.stay (o:Own Z H F)(s:Step Z H F Z' H' F'):Stay Z H H':=by
 refine⟨λa u c h=>s.keep a u h λq=>(o a q).1 c,λa d h=>?_,λa u v h=>s.keep a _ h λq=>?_⟩
 .rcases h with h | ⟨u,h⟩
  .refine .inl (s.keep a _ h fun q=>?_);obtain⟨_,b,e⟩:=o a q;rw[h] at e;exact kz e
  .refine .inr ⟨u,s.keep a _ h fun q=>?_⟩;obtain⟨_,b,e⟩:=o a q;rw[h] at e;exact eN e
 .obtain ⟨_,b,e⟩:=o a q;rw[h] at e;exact eN e
theorem Rep.frame {m:Md}{t:T}{v:V}(o:Own Z H F)(s:Step Z H F Z' H' F')(d:∀a,G a->¬F a)(h:Rep K Z H m t v G):Rep K Z' H' m t v G:=h.keep (o.stay s) s.zm λa u b e=>s.keep a u e<|d a b
theorem RepW.frame {b:U W}{c:U V}(o:Own Z H F)(s:Step Z H F Z' H' F')(d:∀a,G a->¬F a)(h:RepW K Z H b c G):RepW K Z' H' b c G:=h.keep (o.stay s) s.zm λa u f e=>s.keep a u e<|d a f
theorem Own.frame (o:Own Z H G)(s:Step Z H F Z' H' F')(d:∀a,G a->¬F a):Own Z' H' G/\∀a,G a->¬F' a:=by
 refine⟨λa b=>?_,λa b q=>?_⟩
 .obtain ⟨c,f,e⟩:=o a b;refine⟨λq=>?_,f,s.keep a _ e (d a b)⟩;rcases s.zn a q with z|z|z
  .exact c z
  .exact d a b z
  .rw[e] at z;cases z
 .obtain ⟨c,f,e⟩:=o a b;rcases s.fn a q with z|z
  .exact d a b z
  .rw[e] at z;cases z
end
abbrev Fps:=Y->Fp
def tot (b:Fps):Fp:=λa=>∃i,b i a
structure Gd (Z:Fp)(H:Hp)(Fs:Fps):Prop where
 own:Own Z H (tot Fs)
 dis:∀i j a,Fs i a->Fs j a->i=j
 zal:∀a,Z a->H a≠J
structure Cf where
 sl:Y->j Y
 pv:Y->j V
def Im (K:Kk)(b:Cf)(Z:Fp)(H:Hp)(d:Env)(e:L2.St)(c:Fps):Prop:=
 ∀i m t,rd d i=O (m,t)->∃v,Rep K Z H m t v (c i)/\(∀a,b.sl i=O a->e[a]?=O (O v))/\∀u,b.pv i=O u->v=u
structure At (K:Kk)(sl:Cf)(σ:L2.St)(Z:Fp)(H:Hp)(Fs:Fps)(η:Env)(G:Fp):Prop where
 gd:Gd Z H Fs
 env:Im K sl Z H η σ Fs
 own:Own Z H G
 dis:∀a,G a->¬tot Fs a
 lk:∀i u j,sl.pv i=O u->sl.sl i=O j->σ[j]?=O (O u)
 ln:∀i j,sl.sl i=O j->j < σ.length
section
variable {K:Kk}{sl:Cf}{σ:L2.St}{Z Z':Fp}{H H':Hp}{Fs Fs':Fps}{η η':Env}{G G' R:Fp}
theorem At.frame (a:At K sl σ Z H Fs η R)(b:At K sl σ Z' H' Fs' η' G)(s:Step Z H (tot Fs) Z' H' λc=>tot Fs' c\/G c):
  At K sl σ Z' H' Fs' η' (λc=>R c\/G c)/\Step Z H (λc=>tot Fs c\/R c) Z' H' (λc=>tot Fs' c\/(R c\/G c))/\∀c,R c->¬G c:=by
 have o:=a.own.frame s a.dis;refine⟨⟨b.gd,b.env,λc d=>d.elim (o.1 c)<|b.own c,λc d=>d.elim (λz q=>o.2 c z<|.inl q)<|b.dis c,b.lk,b.ln⟩,(s.frame R).mono (λ_ z=>z) λc d=>?_,λc z q=>o.2 c z<|.inr q⟩;rcases d with z|z|z
 .exact .inl (.inl z)
 .exact .inr z
 .exact .inl (.inr z)
end
section
variable {K:Kk}{sl:Cf}{sf:Y->j Y}{C:Call}{σ:L2.St}{Z Z' Z1:Fp}{H H' H1:Hp}{Fs Fs' Fs1:Fps}{η η' η1:Env}{G G' R F:Fp}
theorem At.mono (a:At K sl σ Z H Fs η G)(h:∀c,G' c->G c):At K sl σ Z H Fs η G':=⟨a.gd,a.env,λc b=>a.own c<|h c b,λc b=>a.dis c<|h c b,a.lk,a.ln⟩
theorem At.bare (a:At K sl σ Z H Fs η G):At K sl σ Z H Fs η no:=a.mono λ_ z=>z.elim
def wE (K:Kk)(sl:Y->j Y)(C:Call)(e:E):TE:=λσ H Q=>∃b Z Fs η w η',At K ⟨sl,b⟩ σ Z H Fs η no/\evE C e η=.ok (w,η') /\
 ∀v Z' H' Fs' G,At K ⟨sl,b⟩ σ Z' H' Fs' η' G->Rep K Z' H' w.1 w.2 v G->Step Z H (tot Fs) Z' H' (λa=>tot Fs' a\/G a)->Q v H'
def wL (K:Kk)(sl:Y->j Y)(C:Call)(e:U E):TA:=λσ H Q=>∃b Z Fs η d η',At K ⟨sl,b⟩ σ Z H Fs η no/\evL C e η=.ok (d,η') /\
 ∀c Z' H' Fs' G,At K ⟨sl,b⟩ σ Z' H' Fs' η' G->RepW K Z' H' d c G->Step Z H (tot Fs) Z' H' (λa=>tot Fs' a\/G a)->Q c H'
theorem jo {e:E}{w:W}{Q:VK}(A:At K sl σ Z H Fs η R)(ev:evE C e η=.ok (w,η'))
  (k:∀ v Z' H' Fs' G,At K sl σ Z' H' Fs' η' (fun c=>R c\/G c)->Rep K Z' H' w.1 w.2 v G->(∀ c,R c->¬ G c)->Step Z H (tot Fs) Z' H' (fun a=>tot Fs' a\/G a) ->
   Step Z H (λc=>tot Fs c\/R c) Z' H' (λc=>tot Fs' c\/(R c\/G c))->Q v H'):wE K sl.sl C e σ H Q:=
 ⟨sl.pv,Z,Fs,η,w,η',A.bare,ev,fun v Z' H' Fs' G b r s=>by
  obtain⟨d,f,g⟩:=A.frame b s;exact k v Z' H' Fs' G d r g s f⟩
theorem IH {e:U E}{d:U W}{Q:U V->Hp->Prop}(A:At K sl σ Z H Fs η R)(ev:evL C e η=.ok (d,η'))
  (k:∀ f Z' H' Fs' G,At K sl σ Z' H' Fs' η' (fun c=>R c\/G c)->RepW K Z' H' d f G->(∀ c,R c->¬ G c)->Step Z H (tot Fs) Z' H' (fun a=>tot Fs' a\/G a) ->
   Step Z H (λc=>tot Fs c\/R c) Z' H' (λc=>tot Fs' c\/(R c\/G c))->Q f H'):wL K sl.sl C e σ H Q:=
 ⟨sl.pv,Z,Fs,η,d,η',A.bare,ev,fun v Z' H' Fs' G b r s=>by
  obtain⟨g,h,i⟩:=A.frame b s;exact k v Z' H' Fs' G g r i s h⟩
theorem aa {c d:Type}{r:Res c}{f:c->Res d}{b:d}(h:r.bind f=.ok b):∃a,r=.ok a/\f a=.ok b:=by
 cases r with
 |ok a=>exact⟨a,rfl,h⟩
 |ex t=>cases h
 |no=>cases h
theorem aF {c:Type}{η:Env}{o:j c}{b:c×Env}(h:ret η o=.ok b):∃a,o=O a/\b=(a,η):=by
 cases o with
 |none=>cases h
 |some a=>exact⟨a,rfl,by cases h;rfl⟩
theorem bZ {c:Type}{o:j c}{b:c}(h:ofO o=.ok b):o=O b:=by
 cases o with
 |none=>cases h
 |some a=>cases h;rfl
theorem aH {e:E}{a:U E}{c:U W}(h:evL C (e::a) η=.ok (c,η')):∃w η1 b,evE C e η=.ok (w,η1)/\evL C a η1=.ok (b,η')/\c=w::b:=by obtain⟨⟨w,η1⟩,d,f⟩:=aa<|show(evE C e η).bind (c6<|evL C a)=_ from h;obtain⟨⟨b,k⟩,g,i⟩:=aa<|show(evL C a η1).bind (pO w)=_ from f;cases i;exact⟨w,η1,b,d,g,rfl⟩
theorem jd {e:E}{b:U E}{c:U W}(l:∀i,e≠.io i)(h:evA C (e::b) η=.ok (c,η')):∃w η1 a,evE C e η=.ok (w,η1)/\evA C b η1=.ok (a,η')/\c=w::a:=by rw[D4 l] at h;obtain⟨⟨w,η1⟩,d,f⟩:=aa h;obtain⟨⟨a,m⟩,g,k⟩:=aa<|show(evA C b η1).bind (pO w)=_ from f;cases k;exact⟨w,η1,a,d,g,rfl⟩
theorem kD {i:Y}{b:U E}{c:U W}(h:evA C (.io i::b) η=.ok (c,η')):∃a η1 w,evA C b η=.ok (a,η1)/\rd η1 i=O w/\c=w::a/\η'=del η1 i:=by obtain⟨⟨a,η1⟩,d,e⟩:=aa<|show(evA C b η).bind (kIo i)=_ from h;obtain⟨w,f,g⟩:=aa<|show(ofO<|rd η1 i).bind (λw=>.ok (w::a,del η1 i))=_ from e;cases g;exact⟨a,η1,w,d,bZ f,rfl,rfl⟩
theorem HF (e:E):(∃i,e=.io i)\/∀i,e≠.io i:=by
 cases e with
 |io i=>exact .inl ⟨i,rfl⟩
 |_=>exact .inr λ_ z=>by cases z
theorem AV {e:E}{f:U E}(σ:L2.St)(H:Hp)(Q:U V->Hp->Prop)(h:wL K sf C (e::f) σ H Q):pI (wE K sf C e) (wL K sf C f) σ H Q:=by obtain⟨D,Z,Fs,η,L,η',A,ev,k⟩:=h;obtain⟨w,η1,I,p,r,rfl⟩:=aH ev;refine jo A p λx Z1 H1 Fs1 d c s _ u _=>?_;have a:=c.mono (G':=d) λ_ z=>.inr z;refine IH a r λg n m b l i t o v y=>?_;refine k (x::g) n m b _ i ⟨x,g,d,l,rfl,λ_ z=>.inl z,λ_ z=>.inr z,o,s.frame c.gd.own v a.dis,t⟩ ?_;exact u.trans y
theorem DN (σ:L2.St)(H:Hp)(Q:U V->Hp->Prop)(h:wL K sf C [] σ H Q):EB σ H Q:=by obtain⟨c,Z,Fs,η,d,η',A,ev,k⟩:=h;cases ev;exact k [] Z H Fs no A rfl ((Step.refl _ _ _).mono (λ_ z=>z) λa b=>b.elim id λz=>z.elim)
def Out (K:Kk)(Z:Fp)(H:Hp)(G:Fp)(w:W)(Q:VK):Prop:=∀v Z' H' G',Rep K Z' H' w.1 w.2 v G'->Own Z' H' G'->Step Z H G Z' H' G'->Q v H'
theorem At.op (A:At K sl σ Z H Fs η G)(o:Own Z' H' G')(s:Step Z H G Z' H' G'):At K sl σ Z' H' Fs η G'/\Step Z H (λc=>tot Fs c\/G c) Z' H' (λc=>tot Fs c\/G' c):=by
 have d:∀a,tot Fs a->¬G a:=λa h q=>A.dis a q h;have f:=A.gd.own.frame s d;refine⟨⟨⟨f.1,A.gd.dis,s.za A.gd.zal⟩,λi m t e=>?_,o,λa b q=>f.2 a q b,A.lk,A.ln⟩,?_⟩
 .obtain ⟨v,r,g⟩:=A.env i m t e;exact⟨v,r.frame A.own s λa b=>d a ⟨i,b⟩,g⟩
 .refine(s.frame<|tot Fs).mono (λ_ z=>z.symm) λ_ z=>z.symm
theorem cJ {w:W}{Q:VK}(A:At K sl σ Z1 H1 Fs1 η1 G)(s:Step Z H F Z1 H1 λa=>tot Fs1 a\/G a)
  (k:∀v Z' H' Fs' G,At K sl σ Z' H' Fs' η1 G->Rep K Z' H' w.1 w.2 v G->Step Z H F Z' H' (λa=>tot Fs' a\/G a)->Q v H'):Out K Z1 H1 G w Q:=λv Z' H' G' r o t=>by
 obtain⟨b,u⟩:=A.op o t;exact k v Z' H' Fs1 G' b r<|s.trans u
def Loc (K:Kk)(n:Y)(o:Op)(h:RN)(r:U V->Hp->VK->Prop):Prop:=∀(b:U W) (w:W) (c:U V) (Z:Fp) (H:Hp) (G:Fp) (Q:VK),b.length=n->oSem o h b=O w->RepW K Z H b c G->Own Z H G->(∀a,Z a->H a≠J)->Out K Z H G w Q->r c H Q
theorem dz {o:Op}{h:RN}{c:U E}{w:W}(e:evE C (.op o h c) η=.ok (w,η')):∃b,evL C c η=.ok (b,η')/\oSem o h b=O w:=by obtain⟨⟨b,η1⟩,d,f⟩:=aa<|show(evL C c η).bind (kOp o h)=_ from e;obtain⟨a,g,i⟩:=aF<|show ret η1 (oSem o h b)=_ from f;cases i;exact⟨b,d,g⟩
theorem gE:∀{a:U E} {η η':Env} {b:U W},evL C a η=.ok (b,η')->b.length=a.length
|[],_,_,_,h=>by cases h;rfl
|e::a,_,_,_,h=>by obtain⟨w,η1,d,_,c,rfl⟩:=aH h;rw[Kz,Kz,gE c]
theorem dH {n:Y}{o:Op}{h:RN}{b:U E}{r:U V->Hp->VK->Prop}(l:Loc K n o h r)(f:b.length=n)(σ:L2.St)(H:Hp)(Q:VK)(g:wE K sf C (.op o h b) σ H Q):tCB r (wL K sf C b) σ H Q:=by obtain⟨i,Z,Fs,η,w,η',A,ev,k⟩:=g;obtain⟨d,c,e⟩:=dz ev;exact⟨i,Z,Fs,η,d,η',A,c,λm Z' H' Fs' G a r s=>l d w m Z' H' G Q ((gE c).trans f) e r a.own a.gd.zal<|cJ a s k⟩
theorem DH {o:Op}{h:RN}{a:E}{r:V->Hp->VK->Prop}(l:Loc K 1 o h λi H Q=>∀x,i=[x]->r x H Q)(σ:L2.St)(H:Hp)(Q:VK)(f:wE K sf C (.op o h [a]) σ H Q):tUn r (wE K sf C a) σ H Q:=by obtain⟨g,Z,Fs,η,w,η',A,ev,k⟩:=f;obtain⟨n,d,e⟩:=dz ev;obtain⟨c,η1,m,e1,e2,rfl⟩:=aH d;cases e2;refine⟨g,Z,Fs,η,c,η',A,e1,λx Z' H' Fs' G b r s=>l [c] w [x] Z' H' G Q rfl e (RepW.one r) b.own b.gd.zal (cJ b s k) x rfl⟩
theorem aL {o:Op}{h:RN}{a b:E}{r:R2}(l:Loc K 2 o h λxs H Q=>∀x y,xs=[x,y]->r x y H Q)(σ:L2.St)(H:Hp)(Q:VK)(v:wE K sf C (.op o h [a,b]) σ H Q):tOp r (wE K sf C a) (wE K sf C b) σ H Q:=by obtain⟨pv,Z,Fs,η,w,η',A,ev,k⟩:=v;obtain⟨ws,t,u⟩:=dz ev;obtain⟨wa,η1,P,e1,e2,rfl⟩:=aH t;obtain⟨wb,η2,P,e3,s,rfl⟩:=aH e2;cases s;refine jo A e1 λx Z1 H1 Fs1 f e D _ L _=>?_;have c:=e.mono (G':=f) λ_ z=>.inr z;refine jo c e3 λy n m g i d I p M N=>?_;exact l [wa,wb] w [x,y] n m _ Q rfl u ⟨x,[y],f,i,rfl,λ_ z=>.inl z,λ_ z=>.inr z,p,D.frame e.gd.own M c.dis,RepW.one I⟩ d.own d.gd.zal (cJ d (L.trans N) k) x y rfl
theorem cI:Own Z H no:=λ_ z=>z.elim
theorem Step.drop:Step Z H G Z H no:=(Step.refl Z H G).mono (λ_ z=>z) λ_ z=>z.elim
section
variable {Q:VK}{m:Md}{ts:U T}{xs:U V}
theorem aN {i:Int}(k:Out K Z H G (m,.int i) Q):Q (.int i) H:=k _ Z H no rfl cI .drop
theorem bR {b:RN}(k:Out K Z H G (m,.bl b) Q):Q (.bl b) H:=k _ Z H no rfl cI .drop
theorem pj {x:Str}(k:Out K Z H G (m,.str x) Q)(h:sOk x=Kh):Q (.str x) H:=k _ Z H no ⟨rfl,h⟩ cI .drop
theorem fv {t:T}{v:V}(o:Own Z H G)(k:Out K Z H G (m,t) Q)(r:Rep K Z H m t v G):Q v H:=k v Z H G r o<|.refl _ _ _
theorem ly {p:RL}{o:HO}(hp:H p=J):Stay Z H (upd H p o):=by
 have b:∀{a u},H a=O u->a≠p:=λ{a u} e z=>by subst z;rw[hp] at e;cases e
 refine⟨λa u _ e=>?_,λa xs e=>?_,λa u v e=>?_⟩
 .rw[af<|b e];exact e
 .rcases e with e | ⟨u,e⟩
  .exact .inl (by rw[af<|b e];exact e)
  .exact .inr ⟨u,by rw[af<|b e];exact e⟩
 .rw[af<|b e];exact e
theorem iF {p:RL}{o:HO}(hp:H p=J)(k:Own Z H G)(f:∀a,G' a->G a\/a=p)(z:Fp)(g:∀a,Z a->z a)(b:∀a,z a->Z a\/G a):Step Z H G z (upd H p o) G':=by
 have i:∀{a u},H a=O u->a≠p:=λ{a u} e q=>by subst q;rw[hp] at e;cases e
 have d:∀a,H a≠J->upd H p o a≠none:=λa h=>by
  by_cases e:a=p
  .rw[e,av];simp
  .rw[af e];exact h
 refine⟨λa u e _=>by rw[af<|i e];exact e,g,λa h=>(b a h).imp id .inl,λa h=>(f a h).imp id λe=>by rw[e];exact hp,d,λq a h=>d a ?_⟩;rcases b a h with c|c
 .exact q a c
 .obtain ⟨_,xs,e⟩:=k a c;rw[e];simp
theorem bK {p:RL}(b:Own Z H G)(o:∀a,Z a->H a≠J)(c:∀a,G' a->G a)(g:xs.length<=LIM)(r:RepL K (c7 Z G G') H m.kid ts xs G')(i:m≠.s)(k:Out K Z H G (m,.lst ts) Q)(hp:H p=J):Q (.ref p) (upd H p<|.lst xs):=by
 have d:∀{a u},H a=O u->a≠p:=λ{a u} e q=>by subst q;rw[hp] at e;cases e
 have l:∀a,G' a->a≠p:=λa h=>by obtain⟨_,f,e⟩:=b a<|c a h;exact d e
 refine k _ (c7 Z G G') _ (λa=>G' a\/a=p) ⟨p,xs,rfl,g,(LstR.own i).mpr ⟨.inr rfl,av⟩,?_⟩ ?_<|iF hp b (λa h=>h.imp (c a) id) _ (λa h=>.inl h) λa h=>h.imp id Nd
 .refine(r.keep (ly hp) (λ_ z=>z) λa u _ e=>by rw[af<|d e];exact e).mono λa h=>⟨.inl h,l a h⟩
 .rintro a (h | h)
  .obtain ⟨n,f,e⟩:=b a<|c a h;exact⟨λz=>z.elim n λq=>q.2 h,f,by rw[af<|d e];exact e⟩
  .subst h;refine⟨λz=>z.elim (λq=>o a q hp) λq=>?_,.inl xs,av⟩;obtain⟨_,f,e⟩:=b a q.1;rw[hp] at e;cases e
theorem pw {p:RL}(d:Own Z H G)(b:∀a,G' a->G a)(f:xs.length<=LIM)(r:RepL K (c7 Z G G') H m.kid ts xs G')(k:Out K Z H G (m,.tup ts) Q)(hp:H p=J):Q (.ref p) (upd H p<|.tup xs):=by
 have c:∀{a u},H a=O u->a≠p:=λ{a u} e q=>by subst q;rw[hp] at e;cases e
 refine k _ (c7 Z G G') _ G' ⟨p,xs,rfl,.inl<|.inl av,f,?_⟩ ?_<|iF hp d (λa h=>.inl<|b a h) _ (λa h=>.inl h) λa h=>h.imp id Nd
 .exact r.keep (ly hp) (λ_ z=>z) λa u _ e=>by rw[af<|c e];exact e
 .intro a h;obtain⟨g,i,e⟩:=d a<|b a h;exact⟨λz=>z.elim g λq=>q.2 h,i,by rw[af<|c e];exact e⟩
theorem mW {v:V}{H':Hp}(i:Own Z H G)(g:∀a,G' a->G a)(l:xs.length<=LIM)(r:RepL K (c7 Z G G') H m.kid ts xs G')(k:Out K Z H G (m,.tup ts) Q)(same:∀b o,H b=O o->H' b=O o)(p:∃c,v=.ref c/\SqT K H' c xs):Q v H':=by
 obtain⟨c,rfl,n⟩:=p
 have f:∀a,H a≠J->H' a≠none:=λa h=>by
  cases e:H a with
  |none=>exact RM e h
  |some o=>rw[same a o e];simp
 refine k _ (c7 Z G G') _ G' ⟨c,xs,rfl,n,l,?_⟩ (λa h=>?_) ⟨λa o e _=>same a o e,λa h=>.inl h,λa h=>h.imp id λq=>.inl q.1,λa h=>.inl<|g a h,f,λq a h=>f a ?_⟩
 .refine r.keep ⟨fun a o _ e=>same a o e,fun a d e=>?_,fun a o u e=>same a _ e⟩ (fun _ z=>z) fun a u _ e=>same a u e;rcases e with e|⟨u,e⟩
  .exact .inl (same a _ e)
  .exact .inr ⟨u,same a _ e⟩
 .obtain ⟨s,d,e⟩:=i a<|g a h;exact⟨λz=>z.elim s λq=>q.2 h,d,same a _ e⟩
 .rcases h with h | h
  .exact q a h
  .obtain ⟨_,d,e⟩:=i a h.1;rw[e];simp
theorem dR {p:RL}{h:RN}{w:W}(g:Own Z H G)(i:∀a,Z a->H a≠J)(f:xs.length<=LIM)(r:∃G',(∀a,G' a->G a)/\RepL K (c7 Z G G') H m ts xs G')(b:newL h m ts=O w)(k:Out K Z H G w Q)(hp:H p=J):Q (.ref p) (upd H p<|.lst xs):=by
 obtain⟨G',l,r⟩:=r;unfold newL at b;split at b
 .split at b
  .rename_i c;cases b;refine bK (m:=.d) (G':=no) g i (λ_ z=>z.elim) f ?_ (by simp) k hp;exact r.leaves (λ_ _ _ e=>e) c
  .cases b
 .cases b;exact bK (m:=m.up) g i l f (by rw[fP];exact r) (eC m) k hp
end
end
section
variable {K:Kk}{h:RN}
theorem dN {d f:Type}{c:U d}{x y:f}(e:c.length=[x,y].length):∃a b,c=[a,b]:=by
 match c,e with
 |[a,b],_=>exact⟨a,b,rfl⟩
theorem FG {c d:Type}{b:U c}{x:d}(e:b.length=[x].length):∃a,b=[a]:=by
 match b,e with
 |[a],_=>exact⟨a,rfl⟩
theorem cc {Z:Fp}{H:Hp}{G:Fp}{u w:W}{x y:V}(r:RepW K Z H [u,w] [x,y] G):∃b c,(∀a,b a->G a)/\(∀a,c a->G a)/\(∀a,b a->¬c a)/\Rep K Z H u.1 u.2 x b/\Rep K Z H w.1 w.2 y c:=by obtain⟨A,t,b,c,e,k,l,d,p,D,v,i,n,e2,g,s,o,q,z⟩:=r;cases e;cases e2;exact⟨b,i,k,λa f=>l a<|g a f,λa f m=>d a f<|g a m,p,q⟩
theorem BD {Z:Fp}{H:Hp}{G:Fp}{w:W}{x:V}(r:RepW K Z H [w] [x] G):Rep K Z H w.1 w.2 x G:=by obtain⟨i,g,b,c,e,a,f,d,p,z⟩:=r;cases e;exact p.mono a
theorem bG {b:U W}{a:U V}{Z:Fp}{H:Hp}{G:Fp}{w:W}(c:b=[w])(r:RepW K Z H b a G):∃x,a=[x]/\Rep K Z H w.1 w.2 x G:=by subst c;obtain⟨x,hx⟩:=FG (x:=())<|show a.length=[()].length from r.length;subst hx;exact⟨x,rfl,BD r⟩
theorem fV {n:Y}(h:n<=LIM):n<sizeLine:=Oo h<|by decide
theorem bO {n:Y}(h:n<=LIM):n<=sizeLine:=NN<|fV h
theorem cB {n:Y}(h:fits n=Kh):n<=LIM:=R3 h
theorem vw {o:Op}{C:Int->Int->Prop}{g:Int->Int->T}(b:∀{u v w:W},oSem o h [u,v]=O w->∃m n i a,u=(m,.int i)/\v=(n,.int a)/\C i a/\w=(.d,g i a))(f:Int->Int->V)(p:∀{Z:Fp} {H:Hp} {G:Fp} {Q:VK} {i a:Int},Out K Z H G (.d,g i a) Q->Q (f i a) H):
  Loc K 2 o h λl H Q=>∀x y,l=[x,y]->rI C f x y H Q:=by
 intro I w l Z H G Q D e r F L k x y hx;subst hx;obtain⟨u,v,rfl⟩:=dN r.length.symm;obtain⟨m,n,i,a,rfl,rfl,c,rfl⟩:=b e;obtain⟨z,A,_,_,_,s,t⟩:=cc r;exact⟨i,a,s,t,c,p k⟩
theorem il {o:Op}{g:Int->Int->T}(b:∀{u v w:W},oSem o h [u,v]=O w->∃m n i a,u=(m,.int i)/\v=(n,.int a)/\w=(.d,g i a))(c:Int->Int->V)(l:∀{Z:Fp} {H:Hp} {G:Fp} {Q:VK} {i a:Int},Out K Z H G (.d,g i a) Q->Q (c i a) H):
  Loc K 2 o h λf H Q=>∀x y,f=[x,y]->rI0 c x y H Q:=by
 intro F w f Z H G Q A e r D I k x y hx;subst hx;obtain⟨u,v,rfl⟩:=dN r.length.symm;obtain⟨m,n,i,a,rfl,rfl,rfl⟩:=b e;obtain⟨t,z,_,_,_,p,s⟩:=cc r;exact⟨i,a,p,s,l k⟩
theorem yJ {u v w:W}(e:oSem .sub h [u,v]=O w):∃m n i c,u=(m,.int i)/\v=(n,.int c)/\w=(.d,.int<|i-c):=by obtain⟨m,a⟩:=u;obtain⟨n,b⟩:=v;cases a<;>first|(cases e;done)|(cases b<;>first|(cases e;exact⟨_,_,_,_,rfl,rfl,rfl⟩)|cases e)
theorem oE {u v w:W}(e:oSem .lt h [u,v]=O w):∃m n i c,u=(m,.int i)/\v=(n,.int c)/\w=(.d,.bl<|decide (i<c)):=by obtain⟨m,a⟩:=u;obtain⟨n,b⟩:=v;cases a<;>first|(cases e;done)|(cases b<;>first|(cases e;exact⟨_,_,_,_,rfl,rfl,rfl⟩)|cases e)
theorem nW {u v w:W}(e:oSem .le h [u,v]=O w):∃m n i c,u=(m,.int i)/\v=(n,.int c)/\w=(.d,.bl<|decide (i<=c)):=by obtain⟨m,a⟩:=u;obtain⟨n,b⟩:=v;cases a<;>first|(cases e;done)|(cases b<;>first|(cases e;exact⟨_,_,_,_,rfl,rfl,rfl⟩)|cases e)
theorem xj {u v w:W}(e:oSem .gt h [u,v]=O w):∃m n i c,u=(m,.int i)/\v=(n,.int c)/\w=(.d,.bl<|decide (c<i)):=by obtain⟨m,a⟩:=u;obtain⟨n,b⟩:=v;cases a<;>first|(cases e;done)|(cases b<;>first|(cases e;exact⟨_,_,_,_,rfl,rfl,rfl⟩)|cases e)
theorem wx {u v w:W}(e:oSem .ge h [u,v]=O w):∃m n i c,u=(m,.int i)/\v=(n,.int c)/\w=(.d,.bl<|decide (c<=i)):=by obtain⟨m,a⟩:=u;obtain⟨n,b⟩:=v;cases a<;>first|(cases e;done)|(cases b<;>first|(cases e;exact⟨_,_,_,_,rfl,rfl,rfl⟩)|cases e)
theorem uc {u v w:W}(e:oSem .fdiv h [u,v]=O w):∃m n i c,u=(m,.int i)/\v=(n,.int c)/\Dd i c/\w=(.d,.int<|i / c):=by
 obtain⟨m,a⟩:=u;obtain⟨n,b⟩:=v;cases a<;>first|(cases e;done)|(cases b<;>try (cases e;done))
 rename_i i c;rw[vR] at e;split at e
 .rename_i f;rw[KS,RP,RP] at f;cases e;exact⟨_,_,_,_,rfl,rfl,f,rfl⟩
 .cases e
theorem yp {u v w:W}(e:oSem .mod h [u,v]=O w):∃m n i c,u=(m,.int i)/\v=(n,.int c)/\(0<c)/\w=(.d,.int<|i % c):=by
 obtain⟨m,a⟩:=u;obtain⟨n,b⟩:=v;cases a<;>first|(cases e;done)|(cases b<;>try (cases e;done))
 rename_i i c;rw[Bc] at e;split at e
 .rename_i f;rw[RP] at f;cases e;exact⟨_,_,_,_,rfl,rfl,f,rfl⟩
 .cases e
theorem yt {u v w:W}(e:oSem .pow h [u,v]=O w):∃m n i c,u=(m,.int i)/\v=(n,.int c)/\C3 i c/\w=(.d,.int<|i ^ c.toNat):=by
 obtain⟨m,a⟩:=u;obtain⟨n,b⟩:=v;cases a<;>first|(cases e;done)|(cases b<;>try (cases e;done))
 rename_i i c;rw[GL] at e;split at e
 .rename_i f;rw[KS,KS,RP,RP,RP] at f;cases e;exact⟨_,_,_,_,rfl,rfl,⟨f.1.1,f.1.2,f.2⟩,rfl⟩
 .cases e
theorem xO:Loc K 2 .sub h λb H Q=>∀x y,b=[x,y]->rI0 (λi a=>.int<|i-a) x y H Q:=il yJ _ λk=>aN k
theorem wj:Loc K 2 .lt h λb H Q=>∀x y,b=[x,y]->rI0 (λi a=>.bl<|decide (i<a)) x y H Q:=il oE _ λk=>bR k
theorem vi:Loc K 2 .le h λb H Q=>∀x y,b=[x,y]->rI0 (λi a=>.bl<|decide (i<=a)) x y H Q:=il nW _ λk=>bR k
theorem uX:Loc K 2 .gt h λb H Q=>∀x y,b=[x,y]->rI0 (λi a=>.bl<|decide (a<i)) x y H Q:=il xj _ λk=>bR k
theorem tO:Loc K 2 .ge h λb H Q=>∀x y,b=[x,y]->rI0 (λi a=>.bl<|decide (a<=i)) x y H Q:=il wx _ λk=>bR k
theorem uo:Loc K 2 .fdiv h λb H Q=>∀x y,b=[x,y]->rI Dd (λi a=>.int<|i / a) x y H Q:=vw uc _ λk=>aN k
theorem AG:Loc K 2 .mod h λb H Q=>∀x y,b=[x,y]->rI (λ_ a=>0<a) (λi a=>.int<|i % a) x y H Q:=vw yp _ λk=>aN k
theorem yb:Loc K 2 .pow h λb H Q=>∀x y,b=[x,y]->rI C3 (λi a=>.int<|i ^ a.toNat) x y H Q:=vw yt _ λk=>aN k
theorem zT:Loc K 1 .neg h λb H Q=>∀x,b=[x]->rU (λi=>.int (-i)) x H Q:=by intro f w b Z H G Q c e r d g k x hx;subst hx;obtain⟨⟨m,a⟩,rfl⟩:=FG r.length.symm;cases a<;>first|(cases e;exact⟨_,BD r,aN k⟩)|cases e
theorem bc {Z:Fp}{H:Hp}{G:Fp}{m:Md}{c:U T}{v:V}(r:Rep K Z H m (.lst c) v G):∃a b,v=.ref a/\H a=O (.lst b)/\b.length<=LIM/\RepL K Z H m.kid c b G:=by obtain⟨a,b,e,l,q,p⟩:=r;exact⟨a,b,e,by cases m<;>exact q.2,l,p.mono λ_ z=>z.1⟩
theorem dk {Z:Fp}{H:Hp}{G:Fp}{m:Md}{c:U T}{v:V}(r:Rep K Z H m (.tup c) v G):∃a b,v=.ref a/\SqT K H a b/\b.length<=LIM/\RepL K Z H m.kid c b G:=r
theorem mL {Z:Fp}{H:Hp}{G g i:Fp}{m n:Md}{o p:U T}{t u:U V}(r:∀a,g a->G a)(s:∀a,i a->G a)(d:∀a,g a->¬i a)(y:RepL K Z H m o t g)(D:RepL K Z H n p u i):
  ∃f,(∀a,f a->G a)/\RepL K (c7 Z G f) H (m.meet n) (o++p) (t++u) f:=by
 obtain⟨A,k,v⟩:=RepL.weak (dh m n).1 y;obtain⟨c,l,x⟩:=RepL.weak (dh m n).2 D;refine⟨λb=>A b\/c b,λb e=>e.elim (λz=>r b<|k b z) λz=>s b<|l b z,RepL.append (λ_ z=>.inl z) (λ_ z=>.inr z) (λb F I=>d b (k b F)<|l b I) (v.zmono λb e=>?_)<|x.zmono λb e=>?_⟩
 .exact e.imp id λz=>⟨r b z.1,λq=>q.elim z.2 λw=>d b z.1<|l b w⟩
 .exact e.imp id λz=>⟨s b z.1,λq=>q.elim (λw=>d b (k b w) z.1) z.2⟩
theorem yU {p q:Str}(a:sOk p=Kh)(b:sOk q=Kh)(c:p.cps.size+q.cps.size<=LIM):sOk (p++q)=true:=by
 unfold sOk at *;rw[KS] at *;refine⟨?_,RI ?_⟩
 .show Array.all (p.cps++q.cps) _=Kh;rw[Array.all_append,KS];exact⟨a.1,b.1⟩
 .show (p.cps++q.cps).size<=LIM;rw[Array.size_append];exact c
theorem yg (rT:R2)(hT:∀{Z:Fp} {H:Hp} {G:Fp} {Q:VK} {a b:RL} {f o:U V} {D:U T},SqT K H a f->SqT K H b o->f≠[]->f.length+o.length<=LIM->Own Z H G->(∃F,(∀a,F a->G a)/\RepL K (c7 Z G F) H .s D (f++o) F)->Out K Z H G (.s,.tup D) Q->rT (.ref a) (.ref b) H Q):
  Loc K 2 .add h λf H Q=>∀x y,f=[x,y]->rI0 (λi c=>.int<|i+c) x y H Q\/(∃i c,x=.str i/\y=.str c/\i.length+c.length<=sizeLine/\Q (.str<|i++c) H)\/Gu x y H Q\/rT x y H Q:=by
 intro ws w f Z H G Q hn e r P za k x y hx;subst hx;obtain⟨⟨m,a⟩,⟨n,b⟩,rfl⟩:=dN r.length.symm;obtain⟨G1,G2,w1,w2,d,v,A⟩:=cc r;cases a<;>first|(cases e;done)|(cases b<;>try (cases e;done))
 .cases e;exact .inl ⟨_,_,v,A,aN k⟩
 .rename_i p q;rw[CL] at e;split at e
  .rename_i g;cases e;refine .inr<|.inl ⟨p,q,v.1,A.1,bO<|cB g,pj k ?_⟩;exact yU v.2 A.2<|cB g
  .cases e
 .rename_i D us;rw[Cv] at e;split at e
  .rename_i g;cases e;rw[KS] at g;obtain⟨a,f,rfl,N,hl,p⟩:=dk v;obtain⟨b,o,rfl,l,L,u⟩:=dk A;have t:=cB g.1;have e1:=p.length;have e2:=u.length;refine .inr (.inr (.inr (hT N l ?_ (by lia) P ?_ k)))
   .rintro rfl;cases D with
    |nil=>simp at g
    |cons _ _=>simp at e1
   .refine ⟨no,fun _ z=>z.elim,RepL.append (G1:=no) (G2:=no) (fun _ z=>z) (fun _ z=>z) (fun _ z _=>z) ((RepL.sh p).zmono fun b I=>?_) ((RepL.sh u).zmono fun b I=>?_)⟩
    .exact I.imp id λz=>⟨w1 b z,λq=>q⟩
    .exact I.imp id λz=>⟨w2 b z,λq=>q⟩
  .cases e
 .rename_i D us;rw[uu] at e;split at e
  .rename_i g;obtain⟨a,f,rfl,N,hl,p⟩:=bc v;obtain⟨b,o,rfl,l,L,u⟩:=bc A;have t:=cB g;have e1:=p.length;have e2:=u.length;have M:(f++o).length<=LIM:=by rw[KJ];lia
   refine .inr<|.inr<|.inl ⟨a,b,f,o,rfl,rfl,N,l,bO<|by lia,λq hq=>?_⟩;exact dR P za M (mL w1 w2 d p u) e k hq
  .cases e
theorem zS:Loc K 2 .mul h λl H Q=>∀x y,l=[x,y]->rI CMul (λi f=>.int<|i * f) x y H Q\/EY x y H Q:=by
 intro ws w l Z H G Q hn e r P za k x y hx;subst hx;obtain⟨⟨m,a⟩,⟨n,b⟩,rfl⟩:=dN r.length.symm;obtain⟨G1,G2,w1,w2,d,A,D⟩:=cc r;cases a<;>first|(cases e;done)|(cases b<;>try (cases e;done))
 .rename_i i f;rw[tH] at e;split at e
  .rename_i o;cases e;refine .inl ⟨i,f,A,D,?_,aN k⟩;rw[P0,RP,RP] at o;have u:(2:Int) ^ 64=18446744073709551616:=by decide
   unfold CMul;rw[u];lia
  .cases e
 .rename_i F f;have t:(if decide (f.natAbs<4611686018427387904)&&fits (F.length * f.toNat) then newL h .s (Ky f.toNat F).flatten else J)=O w:=e;split at t
  .rename_i o;rw[KS,RP] at o;obtain⟨a,l,rfl,M,hl,p⟩:=bc A;have g:=cB o.2;have e1:=p.length;have v:((Ky f.toNat l).flatten).length<=LIM:=by rw[List.length_flatten,Nj,List.sum_replicate_nat,e1,Of];exact g
   refine .inr ⟨a,f,l,rfl,D,M,by lia,by lia,bO<|by rw[e1];exact g,λq L=>?_⟩;refine dR P za v ⟨no,λ_ z=>z.elim,?_⟩ t k L;have ps:=(RepL.sh p).zmono (Z':=c7 Z G no) λb I=>I.imp id λz=>⟨w1 b z,λq=>q⟩;generalize f.toNat=c;induction c with
   |zero=>exact rfl
   |succ c N=>exact RepL.append (λ_ z=>z) (λ_ z=>z) (λ_ z _=>z) ps N
  .cases t
theorem sy {Z:Fp}{H:Hp}{G:Fp}{m:Md}{b:U T}{c:U V}{i:Int}{t:T}(p:RepL K Z H m b c G)(e:M.atI b i=O t):∃x,L2.atI c i=O x/\Rep K Z H m t x G:=by
 unfold M.atI at e;have d:M.ixN b.length i=L2.ixN c.length i:=by rw[p.length];rfl
 cases e1:M.ixN b.length i with
 |none=>rw[e1] at e;cases e
 |some a=>rw[e1] at e;obtain⟨x,hx,r⟩:=p.get<|show b[a]?=O t from e;refine⟨x,?_,r⟩;unfold L2.atI;rw[<- d,e1];exact hx
theorem Ah {x:Str}{c:Y}(h:sOk x=Kh)(d:c∈x.cps.toList):sOk ⟨#[c]⟩=true:=by
 unfold sOk at *;rw[KS] at *;refine⟨?_,rfl⟩;have a:=h.1;rw[Pp] at a;have b:=a c<|Array.mem_def.mpr d;rw[Pp];intro y e;have:y=c:=by simpa using e
 rw[this];exact b
theorem kq {x:Str}(h:sOk x=Kh):x.cps.size<=LIM:=by unfold sOk at h;rw[KS,RP] at h;exact h.2
theorem C6:Loc K 2 .ix h λl H Q=>∀x y,l=[x,y]->(∃p l i v,x=.ref p/\y=.int i/\(SqL K H p l\/SqT K H p l)/\L2.atI l i=O v/\Q v H)\/(∃z i c,x=.str z/\y=.int i/\z.length<=sizeLine/\L2.atI z.cps.toList i=O c/\Q (.str ⟨#[c]⟩) H):=by
 intro ws w l Z H G Q hn e r L za k x y hx;subst hx;obtain⟨⟨m,a⟩,⟨n,b⟩,rfl⟩:=dN r.length.symm;obtain⟨G1,G2,N,w2,d,s,D⟩:=cc r;obtain⟨i,rfl⟩:∃i,b=.int i:=by cases b<;>first|exact⟨_,rfl⟩|(cases e;done)|(cases a<;>cases e)
 cases a with
 | lst A =>
  obtain⟨a,l,rfl,u,P,p⟩:=bc s;have g:(M.atI A i).map (λt=>(m.kid,t))=O w:=e;cases e1:M.atI A i with
  |none=>rw[e1] at g;cases g
  |some t=>rw[e1] at g;cases g;obtain⟨v,F,I⟩:=sy p e1;exact .inl ⟨a,l,i,v,rfl,D,.inl<|.inl<|.inl u,F,fv L k<|I.mono N⟩
 | tup A =>
  obtain⟨a,l,rfl,u,P,p⟩:=dk s;have g:(M.atI A i).map (λt=>(m.kid,t))=O w:=e;cases e1:M.atI A i with
  |none=>rw[e1] at g;cases g
  |some t=>rw[e1] at g;cases g;obtain⟨v,F,I⟩:=sy p e1;exact .inl ⟨a,l,i,v,rfl,D,.inr u,F,fv L k<|I.mono N⟩
 | str z =>
  have g:(M.atI z.cps.toList i).map (λc=>((.d,.str ⟨#[c]⟩):W))=O w:=e;cases e1:M.atI z.cps.toList i with
  |none=>rw[e1] at g;cases g
  |some c=>
   rw[e1] at g;cases g;refine .inr ⟨z,i,c,s.1,D,bO<|kq s.2,e1,pj k<|Ah s.2 ?_⟩;unfold M.atI at e1;cases e2:M.ixN z.cps.toList.length i with
   |none=>rw[e2] at e1;cases e1
   |some f=>rw[e2] at e1;exact L0 e1
 | scr o =>
  obtain⟨a,rfl,hL,u⟩:=s;have g:(M.atI o i).map (λn=>((.d,.int n):W))=O w:=e;cases e1:M.atI o i with
  |none=>rw[e1] at g;cases g
  | some n =>
   rw[e1] at g;cases g;refine .inl ⟨a,_,i,.int n,rfl,D,.inl u.sq,?_,aN k⟩;unfold M.atI at e1;unfold L2.atI;rw[Kr];cases e2:M.ixN o.length i with
   |none=>rw[e2] at e1;cases e1
   |some f=>rw[e2] at e1;rw[show L2.ixN o.length i=O f from e2];show(o.map V.int)[f]?=_;rw[KY,show o[f]?=O n from e1];rfl
 |_=>cases e
theorem y8:Loc K 1 .len h λb H Q=>∃x n,b=[x]/\(match x with
  |.str y=>y.length<=sizeLine/\n=y.length
  |.byt y=>y.size<=sizeLine/\n=y.size
  |.ref p=>(∃b,SqL K H p b/\n=b.length)\/∃b,SqT K H p b/\n=b.length
  |_=>RX)/\Q (.int (n:Y)) H:=by
 intro o w b Z H G Q i e r t u k
 match o,i with
 | [(m,a)],_ =>
  obtain⟨x,rfl,d⟩:=bG rfl r;cases a with
  |lst f=>obtain⟨a,b,hx,c,g,p⟩:=bc d;cases e;refine⟨x,f.length,rfl,?_,aN k⟩;rw[show x=.ref a from hx];exact .inl ⟨b,.inl<|.inl c,p.length.symm⟩
  |tup f=>obtain⟨a,b,hx,c,g,p⟩:=dk d;cases e;refine⟨x,f.length,rfl,?_,aN k⟩;rw[show x=.ref a from hx];exact .inr ⟨b,c,p.length.symm⟩
  |str z=>cases e;refine⟨x,z.length,rfl,?_,aN k⟩;rw[show x=.str z from d.1];exact⟨bO<|kq d.2,rfl⟩
  |scr l=>obtain⟨a,hx,s,c⟩:=d;cases e;refine⟨x,l.length,rfl,?_,aN k⟩;rw[show x=.ref a from hx];exact .inl ⟨_,c.sq,by rw[Kr]⟩
  |_=>cases e
theorem fR {Z:Fp}{H:Hp}{G:Fp}{m:Md}:∀a:U Int,RepL K Z H m (a.map T.int) (a.map V.int) G
|[]=>rfl
|n::a=>⟨.int n,a.map V.int,no,no,rfl,λ_ z=>z.elim,λ_ z=>z.elim,λ_ z=>z.elim,rfl,fR a⟩
theorem ue:Loc K 1 .list h λb H Q=>∃p n,b=[.ref p]/\(SqL K H p n\/SqT K H p n)/\∀l,H l=J->Q (.ref l) (upd H l<|.lst n):=by
 intro y w b Z H G Q t e r g o k
 match y,t with
 | [(m,a)],_ =>
  obtain⟨x,rfl,i⟩:=bG rfl r;cases a with
  |lst v=>obtain⟨a,b,hx,d,f,p⟩:=bc i;refine⟨a,b,by rw[hx],.inl<|.inl<|.inl d,λq c=>dR g o f ⟨G,λ_ z=>z,p.zmono λ_ z=>.inl z⟩ e k c⟩
  |tup v=>obtain⟨a,b,hx,d,f,p⟩:=dk i;refine⟨a,b,by rw[hx],.inr d,λq c=>dR g o f ⟨G,λ_ z=>z,p.zmono λ_ z=>.inl z⟩ e k c⟩
  |scr u=>obtain⟨a,hx,s,d⟩:=i;cases e;refine⟨a,_,by rw[hx],.inl d.sq,λq c=>bK (G':=no) g o (λ_ z=>z.elim) (by rw[Kr];exact s) (fR u) (by simp) k c⟩
  |_=>cases e
theorem dW {Z:Fp}{H:Hp}{G:Fp}{m:Md}:∀{a:U T} {b:U Int} {c:U V},intsOf a=O b->RepL K Z H m a c G->c=b.map V.int:=by
 intro a;induction a generalizing G with
 |nil=>intro b c e r;cases e;exact r
 | cons t a d =>
  intro b c e r;obtain⟨x,l,g,k,rfl,_,_,_,p,q⟩:=r;cases t with
  | int i =>
   cases e1:intsOf a with
   |none=>simp[intsOf,e1] at e
   |some f=>
    have:b=i::f:=by simpa[intsOf,e1] using e.symm
    subst this;rw[K2,<- d e1 q,show x=.int i from p]
  |_=>cases e
theorem jJ {Z:Fp}{H:Hp}{G:Fp}{m:Md}:∀{a:U T} {b:U RN} {c:U V},boolsOf a=O b->RepL K Z H m a c G->c=b.map V.bl:=by
 intro a;induction a generalizing G with
 |nil=>intro b c e r;cases e;exact r
 | cons t a d =>
  intro b c e r;obtain⟨x,l,g,k,rfl,_,_,_,p,q⟩:=r;cases t with
  | bl i =>
   cases e1:boolsOf a with
   |none=>simp[boolsOf,e1] at e
   |some f=>
    have:b=i::f:=by simpa[boolsOf,e1] using e.symm
    subst this;rw[K2,<- d e1 q,show x=.bl i from p]
  |_=>cases e
theorem Ax:Loc K 1 .sum h λf H Q=>∃(a:RL) (b:U Int),f=[.ref a]/\SqL K H a (b.map V.int)/\Q (.int b.sum) H:=by
 intro o w f Z H G Q l e r t u k
 match o,l with
 | [(m,a)],_ =>
  obtain⟨x,rfl,n⟩:=bG rfl r;cases a with
  | lst i =>
   obtain⟨a,f,hx,g,s,p⟩:=bc n;have c:(intsOf i).map (λb=>((.d,.int b.sum):W))=O w:=e;cases e1:intsOf i with
   |none=>rw[e1] at c;cases c
   |some b=>rw[e1] at c;cases c;rw[dW e1 p] at g;exact⟨a,b,by rw[hx],.inl<|.inl g,aN k⟩
  |_=>cases e
theorem zL:Loc K 1 .all h λf H Q=>∃(a:RL) (bs:U RN),f=[.ref a]/\SqL K H a (bs.map V.bl)/\Q (.bl<|bs.all id) H:=by
 intro o w f Z H G Q l e r t u k
 match o,l with
 | [(m,a)],_ =>
  obtain⟨x,rfl,n⟩:=bG rfl r;cases a with
  | lst i =>
   obtain⟨a,f,hx,g,s,p⟩:=bc n;have b:(boolsOf i).map (λc=>((.d,.bl (c.all id)):W))=O w:=e;cases e1:boolsOf i with
   |none=>rw[e1] at b;cases b
   |some c=>rw[e1] at b;cases b;rw[jJ e1 p] at g;exact⟨a,c,by rw[hx],.inl<|.inl g,bR k⟩
  |_=>cases e
theorem yq:Loc K 2 .max h λd H Q=>∃i c,d=[.int i,.int c]/\Q (.int<|if c>i then c else i) H:=by
 intro o w d Z H G Q f e r t u k
 match o,f with
 |[(m,a),(n,b)],_=>obtain⟨x,y,hx⟩:∃x y,d=[x,y]:=dN (x:=()) (y:=())<|show d.length=[(),()].length from r.length;subst hx;obtain⟨p,s,_,_,_,g,l⟩:=cc r;cases a<;>first|(cases e;done)|(cases b<;>first|(cases e;exact⟨_,_,by rw[show x=_ from g,show y=_ from l],aN k⟩)|cases e)
theorem xB:Loc K 2 .min h λd H Q=>∃i c,d=[.int i,.int c]/\Q (.int<|if c<i then c else i) H:=by
 intro o w d Z H G Q f e r t u k
 match o,f with
 |[(m,a),(n,b)],_=>obtain⟨x,y,hx⟩:∃x y,d=[x,y]:=dN (x:=()) (y:=())<|show d.length=[(),()].length from r.length;subst hx;obtain⟨p,s,_,_,_,g,l⟩:=cc r;cases a<;>first|(cases e;done)|(cases b<;>first|(cases e;exact⟨_,_,by rw[show x=_ from g,show y=_ from l],aN k⟩)|cases e)
end
section
variable {K:Kk}{sl:Cf}{sf:Y->j Y}{C:Call}{σ:L2.St}{Z Z' Z1:Fp}{H H' H1:Hp}{Fs Fs' Fs1:Fps}{η η' η1:Env}{G G' R F:Fp}
mutual
theorem Rep.sany:∀{t:T} {v:V} {G G':Fp},Rep K Z H .s t v G->Rep K Z H .s t v G'
|.non,_,_,_,h=>h
|.bl _,_,_,_,h=>h
|.int _,_,_,_,h=>h
|.str _,_,_,_,h=>h
|.scr _,_,_,_,h=>h
|.tup ts,_,_,_,⟨a,xs,e,q,l,r⟩=>⟨a,xs,e,q,l,RepL.sany r⟩
|.lst ts,_,_,_,⟨a,xs,e,l,q,r⟩=>⟨a,xs,e,l,q,RepL.sany r⟩
|.dct _ _,_,_,_,⟨a,xs,e,l,q,n,hl,r⟩=>⟨a,xs,e,l,q,n,hl,r⟩
|.ins _ _ _,_,_,_,h=>h
|.gone,_,_,_,h=>h
theorem RepL.sany:∀{ts:U T} {xs:U V} {G G':Fp},RepL K Z H .s ts xs G->RepL K Z H .s ts xs G'
|[],_,_,_,h=>h
|t::ts,xs,_,_,⟨x,r,G1,G2,e,h1,h2,hd,p,q⟩=>⟨x,r,no,no,e,λ_ z=>z.elim,λ_ z=>z.elim,λ_ z=>z.elim,Rep.sany p,RepL.sany q⟩
end
theorem bz:∀(η:Env) (i a:Y) (o:j W),rd (wr η i o) a=if a=i/\i < η.length then o else rd η a
|[],i,a,o=>by simp[wr,rd]
|p::η,0,0,o=>by simp[wr,rd]
|p::η,0,a+1,o=>by simp[wr,rd]
|p::η,i+1,0,o=>by simp[wr,rd]
|p::η,i+1,a+1,o=>by show rd (wr η i o) a=_;rw[bz η i a o];simp[rd]
theorem dF:∀{η:Env} {i:Y} {w:W},rd η i=O w->i < η.length
|[],_,_,h=>by cases h
|_::_,0,_,_=>by simp
|_::η,i+1,_,h=>by have:=dF (η:=η) (i:=i) h;simp;exact this
theorem fW (h:∀a,F a->G a):Step Z H G Z H F:=(Step.refl Z H G).mono (λ_ z=>z) h
theorem C0 {i b:Y}(g:sf i=O b)(σ:L2.St)(H:Hp)(Q:VK)(h:wE K sf C (.var i) σ H Q):lQ b σ H Q:=by
 obtain⟨n,Z,Fs,η,w,η',A,ev,k⟩:=h;obtain⟨p,e1,e2⟩:=aF<|show ret η ((rd η i).bind look)=_ from ev;cases e2;cases e3:rd η i with
 |none=>rw[e3] at e1;cases e1
 | some u =>
  rw[e3] at e1;obtain⟨m,t⟩:=u;obtain⟨v,r,l⟩:=A.env i m t e3;refine⟨v,l.1 b g,k v Z H Fs no A ?_<|fW λa f=>f.elim id λz=>z.elim⟩;cases m with
  |s=>cases e1;exact r.sany
  |d=>
   have c:(if t.leaf=Kh then O (Md.d,t) else J)=O w:=e1;split at c
   .rename_i e;cases c;exact r.leaf (λ_ _ _ q=>q) e
   .cases c
  |o m=>
   have c:(if t.leaf=Kh then O (Md.d,t) else J)=O w:=e1;split at c
   .rename_i e;cases c;exact r.leaf (λ_ _ _ q=>q) e
   .cases c
def kg (Fs:Fps)(i:Y):Fps:=λb a=>b≠i/\Fs b a
theorem CB {e:E}{i b:Y}(p:∀η,evE C e η=ret (del η i) (rd η i))(s:sf i=O b)(σ:L2.St)(H:Hp)(Q:VK)(h:wE K sf C e σ H Q):lQ b σ H Q:=by
 obtain⟨M,Z,Fs,η,w,η',A,ev,k⟩:=h;rw[p] at ev;obtain⟨N,e1,e2⟩:=aF ev;cases e2;obtain⟨m,t⟩:=w;obtain⟨v,r,u⟩:=A.env i m t e1;refine⟨v,u.1 b s,k v Z H (kg Fs i) (Fs i) ⟨⟨λa ⟨l,f,c⟩=>A.gd.own a ⟨l,c⟩,λl x a f c=>A.gd.dis l x a f.2 c.2,A.gd.zal⟩,λl y I e=>?_,λa d=>A.gd.own a ⟨i,d⟩,λa d ⟨l,f,c⟩=>f<|A.gd.dis l i a c d,A.lk,A.ln⟩ r<|fW λa d=>d.elim (λ⟨l,f,c⟩=>⟨l,c⟩) λz=>⟨i,z⟩⟩;rw[bz] at e;split at e
 .cases e
 .rename_i n;obtain⟨L,D,o⟩:=A.env l y I e;have g:l≠i:=λz=>n ⟨z,dF e1⟩;exact⟨L,D.mono λa d=>⟨g,d⟩,o⟩
theorem kS {t:T}{v:V}(c:∀{Z:Fp} {H:Hp},Rep K Z H .d t v no)(σ:L2.St)(H:Hp)(Q:VK)(h:wE K sf C (.cst t) σ H Q):tC v σ H Q:=by obtain⟨e,Z,Fs,η,w,η',A,ev,k⟩:=h;cases ev;exact k v Z H Fs no A c<|fW λa b=>b.elim id λz=>z.elim
theorem BK {b:U E}(l:b.length<=LIM)(σ:L2.St)(H:Hp)(Q:VK)(h:wE K sf C (.tup b) σ H Q):Ht (wL K sf C b) σ H Q:=by
 obtain⟨o,Z,Fs,η,w,η',A,ev,k⟩:=h;obtain⟨⟨e,η1⟩,c,i⟩:=aa<|show(evL C b η).bind wt=_ from ev;cases i;refine⟨o,Z,Fs,η,e,_,A,c,λt Z' H' Fs' G a r s=>?_⟩;have d:t.length<=LIM:=by rw[r.length,gE c];exact l
 obtain⟨G',f,g⟩:=RepW.to (λu n=>iC n) r;refine⟨bO d,λp hp=>pw (m:=(iM e).up) a.own f d (by rw[fP];exact g) (cJ a s k) hp⟩
theorem DJ {b:RN}{c:U E}(t:c.length<=LIM)(σ:L2.St)(H:Hp)(Q:VK)(h:wE K sf C (.lst b c) σ H Q):FY (wL K sf C c) σ H Q:=by
 obtain⟨v,Z,Fs,η,w,η',A,ev,k⟩:=h;obtain⟨⟨l,η1⟩,g,n⟩:=aa<|show(evL C c η).bind (xi b)=_ from ev;cases n;refine⟨v,Z,Fs,η,l,_,A,g,λx Z' H' Fs' G a r s=>?_⟩;have f:x.length<=LIM:=by rw[r.length,gE g];exact t
 refine⟨bO f,λp hp=>?_⟩;cases b with
 |true=>obtain⟨G',d,e⟩:=RepW.to (λu i=>iC i) r;exact bK (m:=(iM l).up) a.own a.gd.zal d f (by rw[fP];exact e) (eC _) (cJ a s k) hp
 |false=>obtain⟨G',d,e⟩:=RepW.to (N:=.s) (λu i=>by cases lf u.1 u.2<;>rfl) r;exact bK (m:=.o .s) a.own a.gd.zal d f e (by simp) (cJ a s k) hp
def wT (K:Kk)(sl:Y->j Y)(C:Call)(e:E):TT:=λσ H Q=>∃a Z Fs η w η' b,At K ⟨sl,a⟩ σ Z H Fs η no/\evE C e η=.ok (w,η')/\truth w.2=O b /\
 ∀Z' H' Fs',At K ⟨sl,a⟩ σ Z' H' Fs' η' no->Step Z H (tot Fs) Z' H' (tot Fs')->Q b H'
def TrV (K:Kk)(x:V)(H:Hp)(k:RN):Prop:=
 match x with
 |.non=>k=Kg
 |.bl b=>k=b
 |.int i=>k=(i != 0)
 |.str y=>y.length<=sizeLine/\k=((y.length:Int) != 0)
 |.ref p=>(∃a,SqL K H p a/\k=!a.isEmpty)\/(∃a,SqT K H p a/\k=!a.isEmpty)
 |_=>RX
theorem ee {c d:Type}{a:U c}{b:U d}(h:a.length=b.length):a.isEmpty=b.isEmpty:=by cases a<;>cases b<;>first|rfl|simp at h
theorem fS {m:Md}{t:T}{v:V}{b:RN}(e:truth t=O b)(r:Rep K Z H m t v G):TrV K v H b:=by
 cases t with
 |non=>cases e;rw[show v=_ from r];rfl
 |bl c=>cases e;rw[show v=_ from r];rfl
 |int i=>cases e;rw[show v=_ from r];rfl
 |str x=>
  cases e;rw[show v=_ from r.1];refine⟨bO<|kq r.2,?_⟩;show(x.cps.size != 0)=(((x.cps.size:Y):Int) != 0);cases x.cps.size with
  |zero=>rfl
  |succ n=>simp;lia
 |tup h=>obtain⟨a,f,rfl,d,g,p⟩:=dk r;cases e;exact .inr ⟨f,d,by rw[ee p.length]⟩
 |lst h=>obtain⟨a,f,rfl,d,g,p⟩:=bc r;cases e;exact .inl ⟨f,.inl<|.inl d,by rw[ee p.length]⟩
 |scr l=>obtain⟨a,rfl,k,d⟩:=r;cases e;exact .inl ⟨_,d.sq,by rw[ee<|Kr ..]⟩
 |dct _ _=>cases e
 |ins _ _ _=>cases e
 |gone=>cases e
theorem mj {e:E}{w:W}{b:RN}{Q:RN->Hp->Prop}(A:At K sl σ Z H Fs η no)(ev:evE C e η=.ok (w,η'))(a:truth w.2=O b)(k:∀Z' H' Fs',At K sl σ Z' H' Fs' η' no->Step Z H (tot Fs) Z' H' (tot Fs')->Q b H'):wT K sl.sl C e σ H Q:=⟨sl.pv,Z,Fs,η,w,η',b,A,ev,a,k⟩
theorem bx {a:Type}{f g:Env->Res a}{p:W×Env}{r:a}(h:onT f g p=.ok r):∃b,truth p.1.2=O b/\(if b=Kh then f p.2 else g p.2)=.ok r:=by
 unfold onT at h;split at h
 .rename_i e;exact⟨Kh,e,h⟩
 .rename_i e;exact⟨Kg,e,h⟩
 .cases h
theorem Ef {e:E}(σ:L2.St)(H:Hp)(Q:RN->Hp->Prop)(h:wT K sf C (.not e) σ H Q):HK (wT K sf C e) σ H Q:=by
 obtain⟨i,Z,Fs,η,w,η',b,A,ev,g,k⟩:=h;obtain⟨⟨u,η1⟩,a,f⟩:=aa<|show(evE C e η).bind rO=_ from ev;obtain⟨l,e1,e2⟩:=aF<|show ret η1 ((truth u.2).map λb=>((.d,.bl<|!b):W))=_ from f;cases e2;cases e3:truth u.2 with
 |none=>rw[e3] at e1;cases e1
 |some c=>
  rw[e3] at e1;cases e1;have:b=!c:=by cases g;rfl
  subst this;exact mj A a e3 k
theorem CU {a b:E}(σ:L2.St)(H:Hp)(Q:RN->Hp->Prop)(h:wT K sf C (.and a b) σ H Q):GK (wT K sf C a) (wT K sf C b) σ H Q:=by
 obtain⟨v,Z,Fs,η,w,η',c,A,ev,l,k⟩:=h;obtain⟨⟨u,η1⟩,r,s⟩:=aa<|show(evE C a η).bind (rB<|evE C b)=_ from ev;obtain⟨d,i,e⟩:=bx<|show onT (evE C b) (okW u) (u,η1)=_ from s;refine mj A r i λZ1 H1 Fs1 g m=>?_;cases d with
 |true=>rw[RJ rfl] at e ⊢;exact mj g e l λp o f n t=>k p o f n<|m.trans t
 |false=>rw[RK KH] at e ⊢;cases e;cases(i.symm.trans l);exact k Z1 H1 Fs1 g m
theorem FT {a b:E}(σ:L2.St)(H:Hp)(Q:RN->Hp->Prop)(h:wT K sf C (.or a b) σ H Q):tOr (wT K sf C a) (wT K sf C b) σ H Q:=by
 obtain⟨v,Z,Fs,η,w,η',c,A,ev,l,k⟩:=h;obtain⟨⟨u,η1⟩,r,s⟩:=aa<|show(evE C a η).bind (kOr<|evE C b)=_ from ev;obtain⟨d,i,e⟩:=bx<|show onT (okW u) (evE C b) (u,η1)=_ from s;refine mj A r i λZ1 H1 Fs1 g m=>?_;cases d with
 |false=>rw[RK KH] at e ⊢;exact mj g e l λp o f n t=>k p o f n<|m.trans t
 |true=>rw[RJ rfl] at e ⊢;cases e;cases(i.symm.trans l);exact k Z1 H1 Fs1 g m
theorem Dp {c a b:E}(σ:L2.St)(H:Hp)(Q:VK)(h:wE K sf C (.ifx c a b) σ H Q):tIf (wT K sf C c) (wE K sf C a) (wE K sf C b) σ H Q:=by
 obtain⟨i,Z,Fs,η,w,η',A,ev,k⟩:=h;obtain⟨⟨u,η1⟩,m,n⟩:=aa<|show(evE C c η).bind (onT (evE C a)<|evE C b)=_ from ev;obtain⟨d,o,f⟩:=bx n;refine mj A m o λZ1 H1 Fs1 g l=>?_;cases d with
 |true=>rw[RJ rfl] at f ⊢;exact⟨i,Z1,Fs1,η1,w,η',g,f,λv Z' H' Fs' G e r s=>k v Z' H' Fs' G e r<|l.trans s⟩
 |false=>rw[RK KH] at f ⊢;exact⟨i,Z1,Fs1,η1,w,η',g,f,λv Z' H' Fs' G e r s=>k v Z' H' Fs' G e r<|l.trans s⟩
theorem DW {e:E}(σ:L2.St)(H:Hp)(Q:VK)(h:wE K sf C (.not e) σ H Q):wE K sf C e σ H λx H1=>∃k,TrV K x H1 k/\Q (.bl<|!k) H1:=by
 obtain⟨m,Z,Fs,η,w,η',A,ev,k⟩:=h;obtain⟨⟨u,η1⟩,g,i⟩:=aa<|show(evE C e η).bind rO=_ from ev;obtain⟨n,e1,e2⟩:=aF<|show ret η1 ((truth u.2).map λb=>((.d,.bl<|!b):W))=_ from i;cases e2;cases e3:truth u.2 with
 |none=>rw[e3] at e1;cases e1
 |some c=>rw[e3] at e1;cases e1;exact⟨m,Z,Fs,η,u,_,A,g,λv Z' H' Fs' G f r s=>⟨c,fS e3 r,k _ Z' H' Fs' no f.bare rfl (s.mono (λ_ z=>z) λa l=>l.elim .inl λz=>z.elim)⟩⟩
theorem Ck {a b:E}(σ:L2.St)(H:Hp)(Q:VK)(h:wE K sf C (.and a b) σ H Q):wE K sf C a σ H λx H1=>∃k,TrV K x H1 k/\if k=Kh then wE K sf C b σ H1 Q else Q x H1:=by
 obtain⟨f,Z,Fs,η,w,η',A,ev,k⟩:=h;obtain⟨⟨u,η1⟩,i,l⟩:=aa<|show(evE C a η).bind (rB<|evE C b)=_ from ev;obtain⟨d,m,e⟩:=bx<|show onT (evE C b) (okW u) (u,η1)=_ from l;refine⟨f,Z,Fs,η,u,η1,A,i,λv Z1 H1 Fs1 G c r s=>⟨d,fS m r,?_⟩⟩;cases d with
 |true=>rw[RJ rfl] at e ⊢;exact⟨f,Z1,Fs1,η1,w,η',c.bare,e,λp Z' H' Fs' G' g n o=>k p Z' H' Fs' G' g n<|(s.mono (λ_ z=>z) λ_ z=>.inl z).trans o⟩
 |false=>rw[RK KH] at e ⊢;cases e;exact k v Z1 H1 Fs1 G c r s
end
section
variable {K:Kk}{sl:Cf}{sf:Y->j Y}{C:Call}{σ:L2.St}{Z Z' Z1:Fp}{H H' H1:Hp}{Fs Fs' Fs1:Fps}{η η' η1:Env}{G G' R F:Fp}
structure Wk (K:Kk)(J:It)(Z:Fp)(H0:Hp)(ts:U (U W)):Prop where
 go:∀H i,Stay Z H0 H->i<ts.length->J.go i H
 stop:∀H i,Stay Z H0 H->ts.length<=i->J.stop i H
 len:ts.length<=LIM
def rM (K:Kk)(a:It)(Z:Fp)(c:Hp)(b:U<|U W):Prop:=
 ∀H i x H',Stay Z c H->i<b.length->a.yld i H x H'->H'=H/\∃w,b[i]?=O [w]/\Rep K Z H w.1 w.2 x no
def JU (K:Kk)(a:It)(Z:Fp)(d:Hp)(c:U<|U W):Prop:=
 ∀H i x H',Stay Z d H->i<c.length->a.yld i H x H'->∃p y z u w,x=.ref p/\(∀b o,H b=O o->H' b=O o)/\SqT K H' p [y,z]/\c[i]?=O [u,w]/\Rep K Z H u.1 u.2 y no/\Rep K Z H w.1 w.2 z no
theorem mK (same:∀b o,H b=O o->H' b=O o):Stay Z H H':=by
 refine⟨λa o _ e=>same a o e,λa c e=>?_,λa o u e=>same a _ e⟩;rcases e with e|⟨u,e⟩
 .exact .inl (same a _ e)
 .exact .inr ⟨u,same a _ e⟩
theorem hW (same:∀a o,H a=O o->H' a=O o):Step Z H G Z H' G:=by
 have b:∀a,H a≠J->H' a≠none:=λa h=>by
  cases e:H a with
  |none=>exact RM e h
  |some o=>rw[same a o e];simp
 exact⟨λa o h _=>same a o h,λ_ h=>h,λ_ h=>.inl h,λ_ h=>.inl h,b,λz a h=>b a<|z a h⟩
theorem ux {p:RL}{o:HO}(hp:H p=J):∀b u,H b=O u->upd H p o b=O u:=λa u e=>by
 have:a≠p:=λq=>by subst q;rw[hp] at e;cases e
 rw[af this];exact e
def Yld (K:Kk)(a:It)(Z:Fp)(b:Hp)(c:U<|U W):Y->Prop
|1=>rM K a Z b c
|2=>JU K a Z b c
|_=>RX
def wI (K:Kk)(sl:Y->j Y)(C:Call)(n:Y)(k:Ik)(b:U E):TI:=λσ H R=>∃d Z Fs η e η' c,At K ⟨sl,d⟩ σ Z H Fs η no/\evL C b η=.ok (e,η')/\bN k e=O c /\
 ∀a Z' H' Fs',At K ⟨sl,d⟩ σ Z' H' Fs' η' no->Step Z H (tot Fs) Z' H' (tot Fs')->Wk K a Z' H' c->Yld K a Z' H' c n->R a H'
theorem At.freeze (A:At K sl σ Z H Fs η G):At K sl σ (λa=>Z a\/G a) H Fs η no:=by
 refine⟨⟨λa b=>⟨λz=>z.elim (A.gd.own a b).1 λq=>A.dis a q b,(A.gd.own a b).2⟩,A.gd.dis,λa h=>h.elim (A.gd.zal a) λq=>?_⟩,λi m t e=>?_,cI,λ_ z=>z.elim,A.lk,A.ln⟩
 .obtain ⟨_,c,e⟩:=A.own a q;rw[e];simp
 .obtain ⟨v,r,h⟩:=A.env i m t e;exact⟨v,r.zmono λa h=>.inl h,h⟩
theorem ba (o:Own Z' H' G)(s:Step Z H F Z' H' λa=>F' a\/G a):Step Z H F (λa=>Z' a\/G a) H' F' where
 keep:=s.keep
 zm:=λa h=>.inl<|s.zm a h
 zn:=λa h=>h.elim (s.zn a) λq=>.inr<|s.fn a<|.inr q
 fn:=λa h=>s.fn a<|.inl h
 al:=s.al
 za:=λz a h=>h.elim (s.za z a) λq=>by obtain⟨_,b,e⟩:=o a q;rw[e];simp
theorem bY {a:RL}{c:U V}{b:Hp}(s:Stay Z b H)(d:Z a)(h:b a=O (.lst c)):SqL K H a c:=.inl<|.inl<|s.1 a _ d h
theorem yc {a:RL}{c:U V}{b:U T}(k:c.length<=LIM)(f:Z a)(h:H a=O (.lst c))(r:RepL K Z H .s b c no):Wk K (Itl K a) Z H (b.map λt=>[(.s,t)])/\rM K (Itl K a) Z H (b.map λt=>[(.s,t)]):=by
 have l:=r.length;refine⟨⟨λH' i s d=>?_,λH' i s d=>?_,by rw[Kr];lia⟩,λH' i x g s d y=>?_⟩
 .rw [Kr] at d;exact⟨c,c[i]'(by lia),bY s f h,by simp⟩
 .rw [Kr] at d;exact⟨c,bY s f h,by lia⟩
 .rw [Kr] at d;obtain⟨rfl,y⟩:=y;have hx:=y c<|bY s f h;obtain⟨m,e,rx⟩:=r.get (show b[i]?=O b[i] by simp);rw[hx] at e;cases e;refine⟨rfl,(.s,b[i]),by rw[KY,show b[i]?=O b[i] by simp];rfl,rx.keep s (λ_ z=>z) λ_ _ z=>z.elim⟩
theorem Cw {a:RL}{c:U V}{b:U T}(g:c.length<=LIM)(h:SqT K H a c)(r:RepL K Z H .s b c no):Wk K (Itt K a) Z H (b.map λt=>[(.s,t)])/\rM K (Itt K a) Z H (b.map λt=>[(.s,t)]):=by
 have k:=r.length;refine⟨⟨λH' i s d=>?_,λH' i s d=>?_,by rw[Kr];lia⟩,λH' i x f s d y=>?_⟩
 .rw [Kr] at d;exact⟨c,c[i]'(by lia),s.sqt h,by simp⟩
 .rw [Kr] at d;exact⟨c,s.sqt h,by lia⟩
 .rw [Kr] at d;obtain⟨rfl,y⟩:=y;have hx:=y c<|s.sqt h;obtain⟨l,e,rx⟩:=r.get (show b[i]?=O b[i] by simp);rw[hx] at e;cases e;refine⟨rfl,(.s,b[i]),by rw[KY,show b[i]?=O b[i] by simp];rfl,rx.keep s (λ_ z=>z) λ_ _ z=>z.elim⟩
theorem Cd {lo:Int}{n:Y}(c:n<=LIM):Wk K (Itr lo n) Z H ((Kq n).map λ(k:Y)=>[(.d,.int<|lo+k)])/\rM K (Itr lo n) Z H ((Kq n).map λ(k:Y)=>[(.d,.int<|lo+k)]):=by refine⟨⟨λH' i s a=>by show i<n;simpa using a,λH' i s a=>by show n<=i;simpa using a,by simpa using c⟩,λH' i x b s a y=>?_⟩;obtain⟨rfl,rfl⟩:=y;refine⟨rfl,(.d,.int<|lo+i),?_,rfl⟩;rw[Kr,K9] at a;rw[KY,LZ a];rfl
theorem oH {a:RL}{c:U Int}{b:Hp}(s:Stay Z b H)(h:ScrR K b a c):SqL K H a (c.map V.int):=(h.keep s.2.2).sq
theorem CF {a:RL}{b:U Int}(f:b.length<=LIM)(h:ScrR K H a b):Wk K (Itl K a) Z H (b.map λn=>[(.d,.int n)])/\rM K (Itl K a) Z H (b.map λn=>[(.d,.int n)]):=by
 refine⟨⟨λH' i s c=>?_,λH' i s c=>?_,by rw[Kr];exact f⟩,λH' i x e s c y=>?_⟩
 .rw [Kr] at c;exact⟨_,(b.map V.int)[i]'(by rw[Kr];exact c),oH s h,by simp⟩
 .rw [Kr] at c;exact⟨_,oH s h,by rw[Kr];exact c⟩
 .rw [Kr] at c;obtain⟨rfl,y⟩:=y;have hx:=y _<|oH s h;refine⟨rfl,(.d,.int b[i]),by rw[KY,show b[i]?=O b[i] by simp];rfl,?_⟩;rw[KY,show b[i]?=O b[i] by simp] at hx;exact(K8 hx).symm
theorem Co {e:E}(σ:L2.St)(H:Hp)(R:It->Hp->Prop)(h:wI K sf C 1 .seq [e] σ H R):l6 K (wE K sf C e) σ H R\/Fc K (wE K sf C e) σ H R:=by
 obtain⟨g,Z,Fs,η,x,η',u,A,ev,f,k⟩:=h;obtain⟨⟨m,a⟩,η1,w,e1,e2,rfl⟩:=aH ev;cases e2;cases a with
 |lst i=>cases f;refine .inl ⟨g,Z,Fs,η,_,_,A,e1,λv Z' H' Fs' G b r s=>?_⟩;obtain⟨a,n,rfl,l,q,p⟩:=Rep.sh r;obtain⟨c,d⟩:=yc l q.1 q.2 p.sany;exact⟨a,rfl,⟨n,.inl<|.inl q.2⟩,k _ _ H' Fs' b.freeze (ba b.own s) c d⟩
 |tup i=>cases f;refine .inr ⟨g,Z,Fs,η,_,_,A,e1,λv Z' H' Fs' G b r s=>?_⟩;obtain⟨a,n,rfl,q,l,p⟩:=Rep.sh r;obtain⟨c,d⟩:=Cw l q p.sany;exact⟨a,rfl,⟨n,q⟩,k _ _ H' Fs' b.freeze (ba b.own s) c d⟩
 |scr t=>cases f;refine .inl ⟨g,Z,Fs,η,_,_,A,e1,λv Z' H' Fs' G b r s=>?_⟩;obtain⟨a,rfl,o,q⟩:=r;obtain⟨c,d⟩:=CF (Z:=λa=>Z' a\/G a) o q;exact⟨a,rfl,⟨_,q.sq⟩,k _ _ H' Fs' b.freeze (ba b.own s) c d⟩
 |_=>cases f
theorem p62:(2:Int) ^ 62=4611686018427387904:=by decide
theorem xN {e:E}(σ:L2.St)(H:Hp)(R:It->Hp->Prop)(h:wI K sf C 1 .rng [e] σ H R):AZ (wL K sf C [e]) σ H R:=by
 obtain⟨l,Z,Fs,η,p,η',t,A,ev,c,k⟩:=h;refine⟨l,Z,Fs,η,p,η',A,ev,λv Z' H' Fs' G b r s=>?_⟩;obtain⟨⟨m,a⟩,η1,u,e1,e2,rfl⟩:=aH ev;cases e2;obtain⟨x,rfl,o⟩:=bG rfl r;cases a with
 | int n =>
  rw[vL] at c;split at c
  .rename_i d;rw[KS,RP] at d;cases c;refine⟨n,by rw[show x=_ from o],by rw[p62];lia,by rw[p62];lia,?_⟩;obtain⟨f,g⟩:=Cd (K:=K) (Z:=λa=>Z' a\/G a) (H:=H') (lo:=0) (n:=n.toNat) (cB d.2);have i:∀k:Y,(0:Int)+(k:Int)=k:=λk=>by lia
   simp only[i] at f g;exact k _ _ H' Fs' b.freeze (ba b.own s) f g
  .cases c
 |_=>cases c
theorem Bs {m:Md}{t:T}{v:V}{c:U T}(e:elems (m,t)=O c)(r:Rep K Z H m t v G):∃k a b,v=.ref a/\b.length<=LIM/\RepL K (λa=>Z a\/G a) H .s c b no/\∀H',Stay (λa=>Z a\/G a) H H'->Sq K H' k a b:=by
 cases t with
 |lst d=>cases e;obtain⟨a,b,rfl,l,q,p⟩:=Rep.sh r;exact⟨Kg,a,b,rfl,l,p.sany,λH' s=>bY s q.1 q.2⟩
 |tup d=>cases e;obtain⟨a,b,rfl,q,l,p⟩:=Rep.sh r;exact⟨Kh,a,b,rfl,l,p.sany,λH' s=>s.sqt q⟩
 |_=>cases e
theorem l8 {m n:Md}:∀{ts us:U T} {i:Y} {t u:T},ts[i]?=O t->us[i]?=O u->(fX m n ts us)[i]?=O [(m,t),(n,u)]
|t::ts,u::us,0,_,_,h,a=>by cases h;cases a;rfl
|t::ts,u::us,i+1,_,_,h,a=>l8 (ts:=ts) (us:=us) (i:=i) h a
|[],_,_,_,_,h,_=>by simp at h
|_::_,[],_,_,_,_,a=>by simp at a
theorem dY {m n:Md}:∀{a b:U T},(fX m n a b).length=min a.length b.length
|[],_=>by simp[fX]
|_::_,[]=>by simp[fX]
|t::a,u::b=>by show(fX m n a b).length+1=_;rw[dY];simp
theorem C8 {e e':E}(σ:L2.St)(H:Hp)(R:It->Hp->Prop)(h:wI K sf C 2 .zip [e,e'] σ H R):HM K (wL K sf C [e,e']) σ H R:=by
 obtain⟨pv,Z,Fs,η,ws,η',ts,A,ev,ht,k⟩:=h;refine⟨pv,Z,Fs,η,ws,η',A,ev,λvs Z' H' Fs' G d r s=>?_⟩;obtain⟨⟨m,a⟩,η1,us,e1,e2,rfl⟩:=aH ev;obtain⟨⟨n,b⟩,η2,us,e3,e4,rfl⟩:=aH e2;cases e4;obtain⟨x,y,hx⟩:∃x y,vs=[x,y]:=dN (x:=()) (y:=())<|show vs.length=[(),()].length from r.length;subst hx;obtain⟨G1,G2,g1,g2,_,r1,r2⟩:=cc r;have f:((elems (m,a)).bind λts=>(elems (n,b)).bind λus=>O (fX .s .s ts us))=O ts:=ht;cases L:elems (m,a) with
 |none=>rw[L] at f;cases f
 | some M =>
  cases P:elems (n,b) with
  |none=>rw[L,P] at f;cases f
  | some N =>
   rw[L,P] at f;cases f;obtain⟨k1,a1,u,rfl,L1,p1,q1⟩:=Bs L r1;obtain⟨k2,a2,v,rfl,L2',p2,q2⟩:=Bs P r2;have z1:∀c,(Z' c\/G1 c)->(Z' c\/G c):=λc h=>h.imp id (g1 c);have z2:∀c,(Z' c\/G2 c)->(Z' c\/G c):=λc h=>h.imp id (g2 c);have l:∀g,Stay (λc=>Z' c\/G c) H' g->Sq K g k1 a1 u:=λg s=>q1 g ⟨λc o Q=>s.1 c o<|z1 c Q,s.2⟩;have t:∀g,Stay (λc=>Z' c\/G c) H' g->Sq K g k2 a2 v:=λg s=>q2 g ⟨λc o Q=>s.1 c o<|z2 c Q,s.2⟩;have l1:=p1.length;have l2:=p2.length;refine⟨k1,k2,a1,a2,rfl,⟨u,l _<|eE _ _⟩,⟨v,t _<|eE _ _⟩,k _ _ H' Fs' d.freeze (ba d.own s) ⟨λg i s w=>?_,λg i s w=>?_,by rw[dY];lia⟩ λg i x H1 s w y=>?_⟩
   .rw [dY] at w;exact⟨u,v,u[i]'(by lia),v[i]'(by lia),l _ s,t _ s,by simp,by simp⟩
   .rw [dY] at w;exact⟨u,v,l _ s,t _ s,by lia⟩
   .rw [dY] at w;obtain⟨p,x1,y1,rfl,hp,rfl,hx,hy⟩:=y;have hi1:i<M.length:=by lia
    have hi2:i<N.length:=by lia
    obtain⟨x',D,rx⟩:=p1.get (show M[i]?=O M[i] by simp);obtain⟨y',I,ry⟩:=p2.get (show N[i]?=O N[i] by simp);rw[hx u<|l _ s] at D;cases D;rw[hy v<|t _ s] at I;cases I;exact⟨p,x1,y1,(.s,M[i]),(.s,N[i]),rfl,ux hp,.inl<|.inl av,l8 (by simp)<|by simp,(rx.zmono z1).keep s (λ_ z=>z) λ_ _ z=>z.elim,(ry.zmono z2).keep s (λ_ z=>z) λ_ _ z=>z.elim⟩
theorem jX {m:Md}:∀{ts:U T} {n i:Y} {t:T},ts[i]?=O t->(eL m n ts)[i]?=O [(.d,.int ((n+i:Y):Int)),(m,t)]
|t::ts,n,0,_,h=>by cases h;rfl
|t::ts,n,i+1,_,h=>by have:=jX (m:=m) (ts:=ts) (n:=n+1) (i:=i) h;rw[show n+1+i=n+(i+1) by lia] at this;exact this
|[],_,_,_,h=>by simp at h
theorem df {m:Md}:∀{a:U T} {n:Y},(eL m n a).length=a.length
|[],_=>rfl
|t::a,n=>by show(eL m (n+1) a).length+1=a.length+1;rw[df]
theorem BY {e:E}(σ:L2.St)(H:Hp)(R:It->Hp->Prop)(h:wI K sf C 2 .enm [e] σ H R):Bl K (wL K sf C [e]) σ H R:=by
 obtain⟨v,Z,Fs,η,D,η',M,A,ev,t,k⟩:=h;refine⟨v,Z,Fs,η,D,η',A,ev,λP Z' H' Fs' G b r s=>?_⟩;obtain⟨⟨m,a⟩,η1,N,e1,e2,rfl⟩:=aH ev;cases e2;obtain⟨x,rfl,w⟩:=bG rfl r;obtain⟨g,rfl⟩:∃g,a=.lst g:=by cases a<;>first|exact⟨_,rfl⟩|cases t
 cases t;obtain⟨a,n,rfl,l,q,p⟩:=Rep.sh w;have L:=p.length;refine⟨a,rfl,⟨n,.inl<|.inl q.2⟩,k _ _ H' Fs' b.freeze (ba b.own s) ⟨λo i s c=>?_,λo i s c=>?_,by rw[df];lia⟩ λo i x H1 s c y=>?_⟩
 .rw [df] at c;exact⟨n,n[i]'(by lia),bY s q.1 q.2,by simp⟩
 .rw [df] at c;exact⟨n,bY s q.1 q.2,by lia⟩
 .rw [df] at c;obtain⟨u,I,rfl,hp,rfl,hx⟩:=y;obtain⟨Q,f,rx⟩:=p.get (show g[i]?=O g[i] by simp);rw[hx n<|bY s q.1 q.2] at f;cases f;refine⟨u,.int i,I,(.d,.int ((0+i:Y):Int)),(.s,g[i]),rfl,ux hp,.inl<|.inl av,jX<|by simp,?_,rx.sany.keep s (λ_ z=>z) λ_ _ z=>z.elim⟩;show V.int (i:Int)=V.int ((0+i:Y):Int);rw[MU]
theorem iu:∀{ts:U T} {ps:U<|U W} {i:Y} {t:T},cq ts=O ps->ts[i]?=O t->∃x y,t=.tup [x,y]/\ps[i]?=O [(.s,x),(.s,y)]
|[],_,_,_,_,h=>by simp at h
| u::ts,ps,i,t,e,h=>by
 match u,e with
 | .tup [x,y],e =>
  have a:(cq ts).map ([(.s,x),(.s,y)]::·)=O ps:=e;cases e1:cq ts with
  |none=>rw[e1] at a;cases a
  |some b=>
   rw[e1] at a;cases a;cases i with
   |zero=>cases h;exact⟨x,y,rfl,rfl⟩
   |succ i=>exact iu (ts:=ts) (ps:=b) (i:=i) e1 h
theorem gZ:∀{a:U T} {c:U<|U W},cq a=O c->c.length=a.length
|[],_,e=>by cases e;rfl
| u::a,c,e=>by
 match u,e with
 | .tup [x,y],e =>
  have b:(cq a).map ([(.s,x),(.s,y)]::·)=O c:=e;cases e1:cq a with
  |none=>rw[e1] at b;cases b
  |some d=>rw[e1] at b;cases b;rw[Kz,Kz,gZ e1]
theorem Cz {e:E}(σ:L2.St)(H:Hp)(R:It->Hp->Prop)(h:wI K sf C 2 .sq2 [e] σ H R):l6 K (wE K sf C e) σ H R:=by
 obtain⟨pv,Z,Fs,η,ws,η',ts,A,ev,L,k⟩:=h;obtain⟨⟨m,a⟩,η1,us,e1,e2,rfl⟩:=aH ev;cases e2;obtain⟨f,rfl⟩:∃f,a=.lst f:=by cases a<;>first|exact⟨_,rfl⟩|cases L
 have g:cq f=O ts:=L;have I:=gZ g;refine⟨pv,Z,Fs,η,_,_,A,e1,λv Z' H' Fs' G b r s=>?_⟩;obtain⟨a,o,rfl,l,q,p⟩:=Rep.sh r;have hl:=p.length;refine⟨a,rfl,⟨o,.inl<|.inl q.2⟩,k _ _ H' Fs' b.freeze (ba b.own s) ⟨λt i s D=>?_,λt i s D=>?_,by lia⟩ λt i x H1 s D y=>?_⟩
 .exact⟨o,o[i]'(by lia),bY s q.1 q.2,by simp⟩
 .exact⟨o,bY s q.1 q.2,by lia⟩
 .obtain ⟨rfl,y⟩:=y;have hx:=y o (bY s q.1 q.2);have hi':i<f.length:=by lia
  obtain⟨x',n,rx⟩:=p.get (show f[i]?=O f[i] by simp);rw[hx] at n;cases n;obtain⟨u,w,M,N⟩:=iu g (show f[i]?=O f[i] by simp);rw[M] at rx;obtain⟨c,ys,rfl,hq,_,y1,r1,G1,G2,rfl,P,Q,d,p1,y2,r2,G3,G4,e2,g3,g4,d2,p2,q2⟩:=rx;cases e2;obtain rfl:r2=[]:=q2;refine⟨c,y1,y2,(.s,u),(.s,w),rfl,λ_ _ e=>e,s.sqt hq,N,(p1.mono (G':=no) λa h=>(P a h).1).sany.keep s (λ_ z=>z) λ_ _ z=>z.elim,(p2.mono (G':=no) λa h=>(Q a<|g3 a h).1).sany.keep s (λ_ z=>z) λ_ _ z=>z.elim⟩
end
section
variable {K:Kk}{sl:Cf}{sf sg:Y->j Y}{C:Call}{σ σ2:L2.St}{Z Z' Z1:Fp}{H H' H1:Hp}{Fs Fs' Fs1:Fps}{η η' η1:Env}{G G' R F:Fp}{tg is:U Y}{pv val:Y->j V}
theorem aC:∀(tg:U Y) (η:Env) (i:Y),rd (ag tg η) i=if i∈tg then J else rd η i
|[],η,i=>by simp[ag]
| t::tg,η,i=>by
 show rd (ag tg<|wr η t J) i=_;rw[aC tg,bz];by_cases a:i∈tg
 .simp[a]
 .by_cases b:i=t
  .subst b;rw[RK a,RJ Ku];split
   .rfl
   .rename_i c;cases e:rd η i with
    |none=>rfl
    |some w=>exact RM ⟨rfl,dF e⟩ c
  .rw[RK a,RK (show¬i∈t::tg by simp[a,b]),RK<|show¬(i=t/\t < η.length) fromλh=>b h.1]
def Nn (η η':Env):Prop:=∀i,rd η i=J->rd η' i=J
theorem Nn.refl (η:Env):Nn η η:=λ_ h=>h
theorem Nn.trans {a b c:Env}(h:Nn a b)(k:Nn b c):Nn a c:=λi e=>k i<|h i e
theorem kJ (η:Env)(a:Y):Nn η (del η a):=λi e=>by
 rw[bz];split
 .rfl
 .exact e
theorem sv {η:Env}{a:Y}{w:W}(h:rd η a≠J):Nn η (put η a w):=λi e=>by
 rw[bz];split
 .rename_i b;rw[<- b.1] at h;exact RM e h
 .exact e
theorem j9:∀{is:U Y} {c:U W} {b η:Env},(∀i∈is,rd b i≠J)->Nn b η->Nn b (putAll is c η)
|[],_,_,_,_,h=>h
|_::_,[],_,_,_,h=>h
|i::is,w::c,b,η,d,h=>by
 show Nn b<|putAll is c<|put η i w;refine j9 (λa g=>d a<|Kw _ g) λa e=>?_;rw[bz];split
 .rename_i f;rw[f.1] at e;exact RM e<|d i Ku
 .exact h a e
theorem ff {f:Env->Res (j W×Env)}(m:∀{η o η'},f η=.ok (o,η')->Nn η η'):∀{k:U<|U W} {η η':Env} {c l:U W},(∀i∈tg,rd η i=J)->aA tg f k η c=.ok (l,η')->Nn η η'
|[],η,η',c,l,_,h=>by cases h;exact Nn.refl _
| t::k,η,η',c,l,A,h=>by
 obtain⟨η1,n,r⟩:=aa<|show(ofO<|bA tg t η).bind (λη1=>(f η1).bind λp=>aA tg f k (ag tg p.2)<|c++p.1.toList)=_ from h;obtain⟨⟨o,g⟩,s,u⟩:=aa r
 have v:∀{tg:U Y} {t:U W} {η η1:Env},bA tg t η=O η1->∀i,i ∉ tg->rd η1 i=rd η i:=λ{tg}=>by
  induction tg with
  |nil=>intro t η η1 h i d;cases t with
   |nil=>cases h;rfl
   |cons _ _=>cases h
  | cons a tg y=>intro t η η1 h i d; cases t with
   |nil=>cases h
   |cons w t=>have:=y (show bA tg t (put η a w)=O η1 from h) i λz=>d<|Kw _ z;rw[this,bz,RK λz=>d<|by rw[z.1];exact Ku]
 have e1:=v<|bZ n
 have x:∀i,rd η i=J->rd (ag tg g) i=none:=λi e=>by
  rw[aC];split
  .rfl
  .rename_i d;exact m s i<|by rw[e1 i d];exact e
 exact Nn.trans (b:=ag tg g) x<|ff m (λi d=>by rw[aC,RJ d]) u
def eX (sf sg:Y->j Y)(tg:U Y)(is:U Y):Prop:=
 ∀i a,sg i=O a->(∃k:Y,tg[k]?=O i/\a=k)\/(i ∉ tg/\∃(k b:Y),a=tg.length+k/\is[k]?=O b/\sf i=O b)
theorem At.pin (A:At K ⟨sf,pv⟩ σ Z H Fs η G):∃val,(∀i u,pv i=O u->val i=O u)/\At K ⟨sf,val⟩ σ Z H Fs η G/\∀i m t,rd η i=O (m,t)->val i≠none:=by
 have ch:∀i,∃o:j V,(∀u,pv i=O u->o=O u)/\(∀u a,o=O u->sf i=O a->σ[a]?=O (O u))/\∀m t,rd η i=O (m,t)->∃v,o=O v/\Rep K Z H m t v (Fs i)/\(∀a,sf i=O a->σ[a]?=O (O v)):=λi=>by
  cases e:rd η i with
  |none=>exact⟨pv i,λ_ h=>h,λu a h d=>A.lk i u a h d,λ_ _ h=>by cases h⟩
  |some w=>obtain⟨m,t⟩:=w;obtain⟨v,r,c,f⟩:=A.env i m t e;refine⟨O v,λu h=>by rw[f u h],λu a h d=>?_,λk l h=>by cases h;exact⟨v,rfl,r,c⟩⟩;cases h;exact c a d
 obtain⟨val,b⟩:=Classical.axiomOfChoice ch;refine⟨val,λi u h=>(b i).1 u h,⟨A.gd,λi m t e=>?_,A.own,A.dis,λi u a h d=>(b i).2.1 u a h d,A.ln⟩,λi m t e=>?_⟩
 .obtain ⟨v,c,r,f⟩:=(b i).2.2 m t e;exact⟨v,r,f,λu g=>by rw[show val i=O u from g] at c;cases c;rfl⟩
 .obtain ⟨v,c,r,f⟩:=(b i).2.2 m t e;rw[c];simp
theorem At.unpin (h:∀i u,pv i=O u->val i=O u)(A:At K ⟨sf,val⟩ σ Z H Fs η G):At K ⟨sf,pv⟩ σ Z H Fs η G:=
 ⟨A.gd,λi m t e=>let ⟨v,r,c,d⟩:=A.env i m t e;⟨v,r,c,λu b=>d u<|h i u b⟩,A.own,A.dis,λi u a b f=>A.lk i u a (h i u b) f,A.ln⟩
def inV (val:Y->j V)(tg:U Y):Y->j V:=λi=>if i∈tg then J else val i
theorem At.into (I:eX sf sg tg is)(x:∀i∈tg,rd η i=J)(l:∀(k c:Y) (v:V),is[k]?=O c->σ[c]?=O (O v)->σ2[tg.length+k]?=O (O v))(w:∀i a,sg i=O a->a < σ2.length)(A:At K ⟨sf,val⟩ σ Z H Fs η G):At K ⟨sg,inV val tg⟩ σ2 Z H Fs η G:=by
 refine⟨A.gd,λi m t e=>?_,A.own,A.dis,λi u a n g=>?_,w⟩
 .have f:i ∉ tg:=fun h=>by rw [x i h] at e; cases e
  obtain⟨v,r,o,p⟩:=A.env i m t e;refine⟨v,r,λa s=>?_,λu n=>p u (by have d:inV val tg i=O u:=n;unfold inV at d;rw[RK f] at d;exact d)⟩;rcases I i a s with⟨k,hk,_⟩|⟨_,k,c,rfl,hk,g⟩
  .exact RM (L0 hk) f
  .exact l k c v hk (o c g)
 .have f:i ∉ tg:=fun h=>by have b:inV val tg i=O u:=n;unfold inV at b;rw[RJ h] at b;cases b
  have b:val i=O u:=by have d:inV val tg i=O u:=n;unfold inV at d;rw[RK f] at d;exact d
  rcases I i a g with⟨k,hk,_⟩|⟨_,k,c,rfl,hk,g⟩
  .exact RM (L0 hk) f
  .exact l k c u hk (A.lk i u c b g)
theorem At.outof (k:∀i∈tg,rd η i=J)(l:∀i m t,rd η i=O (m,t)->val i≠J)(lk:∀i u a,val i=O u->sf i=O a->σ[a]?=O (O u))(n:∀i a,sf i=O a->a < σ.length)(A:At K ⟨sg,inV val tg⟩ σ2 Z H Fs η G):At K ⟨sf,val⟩ σ Z H Fs η G:=by
 refine⟨A.gd,λi m t e=>?_,A.own,A.dis,lk,n⟩;have f:i ∉ tg:=λh=>by rw[k i h] at e;cases e
 obtain⟨v,r,p,d⟩:=A.env i m t e;cases b:val i with
 |none=>exact RM b<|l i m t e
 |some u=>have:v=u:=d u (by show inV val tg i=O u;unfold inV;rw[RK f];exact b);subst this;exact⟨v,r,λa g=>lk i v a b g,λo c=>by rw[show val i=O o from c] at b;cases b;rfl⟩
end
section
variable {C:Call}
theorem iG:∀(c:U Y) (a:Env),Nn a<|M.share c a
|[],a=>λ_ e=>e
| v::c,a=>Nn.trans (b:=wr a v (toS (rd a v))) (fun i e=>by
  rw[bz];split
  .rename_i d;rw[<- d.1,e];rfl
  .exact e) (iG c _)
theorem uw (m:Md)(b:U Y)(a:Env):Nn a (after m b a):=by
 cases m with
 |d=>exactλ_ e=>e
 |s=>exact iG b a
 |o _=>exact iG b a
mutual
theorem aG:∀(e:E) {η η':Env} {w:W},evE C e η=.ok (w,η')->Nn η η'
|.var i,η,η',w,h=>by obtain⟨_,_,e⟩:=aF<|show ret η ((rd η i).bind look)=_ from h;cases e;exact Nn.refl _
|.mv i,η,η',w,h=>by obtain⟨_,_,e⟩:=aF<|show ret (del η i) (rd η i)=_ from h;cases e;exact kJ _ _
|.io i,η,η',w,h=>by obtain⟨_,_,e⟩:=aF<|show ret (del η i) (rd η i)=_ from h;cases e;exact kJ _ _
|.cst t,η,η',w,h=>by cases h;exact Nn.refl _
|.tup es,η,η',w,h=>by obtain⟨⟨ws,η1⟩,h1,h2⟩:=aa<|show(evL C es η).bind wt=_ from h;cases h2;exact eT es h1
|.lst b es,η,η',w,h=>by obtain⟨⟨ws,η1⟩,h1,h2⟩:=aa<|show(evL C es η).bind (xi b)=_ from h;cases h2;exact eT es h1
|.op o b es,η,η',w,h=>by obtain⟨ws,h1,h2⟩:=dz h;exact eT es h1
|.and a b,η,η',w,h=>by
 obtain⟨⟨u,η1⟩,h1,h2⟩:=aa<|show(evE C a η).bind (rB<|evE C b)=_ from h;obtain⟨d,h3,h4⟩:=bx<|show onT (evE C b) (okW u) (u,η1)=_ from h2;cases d with
 |true=>rw[RJ rfl] at h4;exact(aG a h1).trans<|aG b h4
 |false=>rw[RK KH] at h4;cases h4;exact aG a h1
|.or a b,η,η',w,h=>by
 obtain⟨⟨u,η1⟩,h1,h2⟩:=aa<|show(evE C a η).bind (kOr<|evE C b)=_ from h;obtain⟨d,h3,h4⟩:=bx<|show onT (okW u) (evE C b) (u,η1)=_ from h2;cases d with
 |false=>rw[RK KH] at h4;exact(aG a h1).trans<|aG b h4
 |true=>rw[RJ rfl] at h4;cases h4;exact aG a h1
|.not a,η,η',w,h=>by obtain⟨⟨u,η1⟩,h1,h2⟩:=aa<|show(evE C a η).bind rO=_ from h;obtain⟨_,_,e3⟩:=aF<|show ret η1 _=_ from h2;cases e3;exact aG a h1
|.ifx c a b,η,η',w,h=>by
 obtain⟨⟨u,η1⟩,h1,h2⟩:=aa<|show(evE C c η).bind (onT (evE C a)<|evE C b)=_ from h;obtain⟨d,h3,h4⟩:=bx h2;cases d with
 |true=>rw[RJ rfl] at h4;exact(aG c h1).trans<|aG a h4
 |false=>rw[RK KH] at h4;exact(aG c h1).trans<|aG b h4
| .chain o q a b c,η,η',w,h=>by
 obtain⟨⟨x,η1⟩,h1,h2⟩:=aa<|show(evE C a η).bind (kC1 o q (evE C b)<|evE C c)=_ from h;obtain⟨⟨y,η2⟩,h3,h4⟩:=aa<|show(evE C b η1).bind (kC2 o q (evE C c) x)=_ from h2;obtain⟨⟨k,η3⟩,h5,h6⟩:=aa<|show(ret η2<|oSem o Kg [x,y]).bind (λk=>onB k.1.2 (then' (evE C c)<|kC3 q y) (okW (.d,.bl Kg)) k.2)=_ from h4;obtain⟨k',_,e5⟩:=aF h5;have e6:η3=η2:=RY Me e5;have n2:=(aG a h1).trans<|aG b h3;have h6':onB k.2 (then' (evE C c) (kC3 q y)) (okW (.d,.bl Kg)) η2=.ok (w,η'):=by rw[<- e6];exact h6
 generalize k.2=kk at h6';cases kk with
 | bl b =>
  cases b with
  |true=>obtain⟨⟨z,η4⟩,h7,h8⟩:=aa<|show(evE C c η2).bind (kC3 q y)=_ from h6';obtain⟨z',_,e8⟩:=aF<|show ret η4 (oSem q Kg [y,z])=_ from h8;have e9:η'=η4:=RY Me e8;rw[e9];exact n2.trans<|aG c h7
  |false=>cases h6';exact n2
 |_=>cases h6'
|.call f es,η,η',w,h=>by obtain⟨⟨ws,η1⟩,h1,h2⟩:=aa<|show(evA C es η).bind (mQ C f<|ios es)=_ from h;obtain⟨⟨u,us⟩,h3,h4⟩:=aa<|show(C f ws).bind (qj (ios es) η1)=_ from h2;cases h4;exact j9 (kf es h1)<|ij es h1
|.comp b k src tg J elt,η,η',w,h=>by obtain⟨⟨ws,η1⟩,h1,h2⟩:=aa<|show(evL C src η).bind (fB b k tg<|bJ<|evE C elt)=_ from h;obtain⟨⟨ts,η2⟩,h3,h4⟩:=aa<|show(ret (ag tg η1)<|bN k ws).bind (λt=>(aA tg (bJ<|evE C elt) t.1 t.2 []).bind<|je b)=_ from h2;obtain⟨_,_,e3⟩:=aF h3;have e4:η2=ag tg η1:=RY Me e3;subst e4;obtain⟨⟨us,η3⟩,h5,h6⟩:=aa<|show(aA tg (bJ<|evE C elt) ts (ag tg η1) []).bind (je b)=_ from h4;obtain⟨_,_,e6⟩:=aF<|show ret η3 _=_ from h6;have e7:η'=η3:=RY Me e6;subst e7;refine(eT src h1).trans<|Nn.trans (b:=ag tg η1) (λi e=>by rw[aC];split<;>first|rfl|exact e)<|ff (λ{η o η'} hf=>?_) (λi hi=>by rw[aC,RJ hi]) h5;obtain⟨⟨u,η4⟩,h7,h8⟩:=aa<|show(evE C elt η).bind dE=_ from hf;cases h8;exact aG elt h7
| .comp b k src tg (O c) elt,η,η',w,h=>by
 obtain⟨⟨ws,η1⟩,h1,h2⟩:=aa<|show(evL C src η).bind (fB b k tg<|cw (evE C c)<|evE C elt)=_ from h;obtain⟨⟨ts,η2⟩,h3,h4⟩:=aa<|show(ret (ag tg η1)<|bN k ws).bind (λt=>(aA tg (cw (evE C c)<|evE C elt) t.1 t.2 []).bind<|je b)=_ from h2;obtain⟨_,_,e3⟩:=aF h3;have e4:η2=ag tg η1:=RY Me e3;subst e4;obtain⟨⟨us,η3⟩,h5,h6⟩:=aa<|show(aA tg (cw (evE C c)<|evE C elt) ts (ag tg η1) []).bind (je b)=_ from h4;obtain⟨_,_,e6⟩:=aF<|show ret η3 _=_ from h6;have e7:η'=η3:=RY Me e6;subst e7;refine(eT src h1).trans<|Nn.trans (b:=ag tg η1) (λi e=>by rw[aC];split<;>first|rfl|exact e)<|ff (λ{η o η'} hf=>?_) (λi hi=>by rw[aC,RJ hi]) h5;obtain⟨⟨u,η4⟩,h7,h8⟩:=aa<|show(evE C c η).bind (onT (bJ<|evE C elt)<|okW J)=_ from hf;obtain⟨d,h9,h10⟩:=bx h8;cases d with
 |true=>rw[RJ rfl] at h10;obtain⟨⟨u2,η5⟩,h11,h12⟩:=aa<|show(evE C elt η4).bind dE=_ from h10;cases h12;exact(aG c h7).trans<|aG elt h11
 |false=>rw[RK KH] at h10;cases h10;exact aG c h7
|.pop i es,η,η',w,h=>by obtain⟨_,_,h0⟩:=aa<|show(fG<|rd η i).bind (mn (evL C es) η<|qO i)=_ from h;obtain⟨⟨ws,η1⟩,h1,h2⟩:=aa<|show(evL C es η).bind (qO i)=_ from h0;obtain⟨r,h3,h4⟩:=aa<|show(ofO<|(rd η1 i).bind λw=>kY w ws).bind (λr=>.ok (r.1,put η1 i r.2))=_ from h2;cases h4;refine(eT es h1).trans<|sv ?_;have:=bZ h3;intro e;rw[e] at this;cases this
|.lenV i,η,η',w,h=>by obtain⟨_,_,e⟩:=aF<|show ret η ((rd η i).bind λw=>oSem .len Kg [w])=_ from h;cases e;exact Nn.refl _
| .compV b i t c e,η,η',w,h=>by
 obtain⟨ts,h1,h2⟩:=aa<|show(ofO<|vwT<|rd η i).bind (kV1 b i t (cw (evE C c)<|evE C e) η)=_ from h;obtain⟨⟨u,η1⟩,h3,h4⟩:=aa<|show((aA [t] (cw (evE C c)<|evE C e) (ts.map λu=>[(.s,u)]) (ag [t]<|del η i) []).bind<|je b).bind (kV2 i<|rd η i)=_ from h2;obtain⟨⟨us,η2⟩,h5,h6⟩:=aa h3;obtain⟨_,_,e6⟩:=aF<|show ret η2 _=_ from h6;cases e6;cases h4
 have nc:Nn (ag [t] (del η i)) η1:=by
  refine ff (λ{η o η'} hf=>?_) (λj hj=>by rw[aC,RJ hj]) h5;obtain⟨⟨u,η4⟩,h7,h8⟩:=aa<|show(evE C c η).bind (onT (bJ<|evE C e)<|okW J)=_ from hf;obtain⟨d,h9,h10⟩:=bx h8;cases d with
  |true=>rw[RJ rfl] at h10;obtain⟨⟨u2,η5⟩,h11,h12⟩:=aa<|show(evE C e η4).bind dE=_ from h10;cases h12;exact(aG c h7).trans<|aG e h11
  |false=>rw[RK KH] at h10;cases h10;exact aG c h7
 intro j e;rw[bz];split
 .rename_i hc;rw[<- hc.1];exact e
 .refine nc j ?_;rw[aC];split
  .rfl
  .exact kJ η i j e
|.popN i e,η,η',w,h=>by obtain⟨_,_,h0⟩:=aa<|show(fG<|rd η i).bind (i3 (evE C e) η<|ik i)=_ from h;obtain⟨⟨u,η1⟩,h1,h2⟩:=aa<|show(evE C e η).bind (ik i)=_ from h0;obtain⟨r,h3,h4⟩:=aa<|show(ofO<|(rd η1 i).bind λw=>jC w u).bind (λr=>.ok (r.1,put η1 i r.2))=_ from h2;cases h4;refine(aG e h1).trans<|sv ?_;have:=bZ h3;intro e;rw[e] at this;cases this
|.qx vs ls e,η,η',w,h=>by obtain⟨⟨u,η1⟩,h1,h2⟩:=aa<|show(evE C e<|eK vs ls η).bind (kX vs η)=_ from h;cases h2;exact uw _ vs η
theorem eT:∀(es:U E) {η η':Env} {ws:U W},evL C es η=.ok (ws,η')->Nn η η'
|[],η,η',ws,h=>by cases h;exact Nn.refl _
|e::es,η,η',ws,h=>by obtain⟨w,η1,us,h1,h2,_⟩:=aH h;exact(aG e h1).trans<|eT es h2
theorem ij:∀(es:U E) {η η':Env} {ws:U W},evA C es η=.ok (ws,η')->Nn η η'
|[],η,η',ws,h=>by cases h;exact Nn.refl _
| e::es,η,η',ws,h=>by
 rcases HF e with⟨i,hi⟩|he
 .subst hi;obtain⟨us,η1,w,h1,_,_,h4⟩:=kD h;rw[h4];exact(ij es h1).trans<|kJ _ _
 .obtain ⟨w,η1,us,h1,h2,_⟩:=jd he h;exact(aG e h1).trans<|ij es h2
theorem kf:∀(es:U E) {η η':Env} {ws:U W},evA C es η=.ok (ws,η')->∀i∈ios es,rd η i≠J
|[],_,_,_,_,i,hi=>by simp[ios] at hi
| e::es,η,η',ws,h,i,hi=>by
 rcases HF e with⟨j,hj⟩|he
 .subst hj;obtain⟨us,η1,w,h1,h2,_,_⟩:=kD h;rcases KD.mp (show i∈j::ios es from hi) with z|z
  .subst z;exactλz=>by rw[ij es h1 i z] at h2;cases h2
  .exact kf es h1 i z
 .obtain ⟨w,η1,us,h1,h2,_⟩:=jd he h
  have hi':i∈ios es:=by
   cases e with
   |io j=>exact RM rfl (he j)
   |_=>exact hi
  exactλz=>kf es h2 i hi'<|aG e h1 i z
end
end
section
variable {K:Kk}{sl:Cf}{sf sg:Y->j Y}{C:Call}{σ σ2:L2.St}{Z Z' Z1:Fp}{H H' H1:Hp}{Fs Fs' Fs1:Fps}{η η' η1 ηb:Env}{G G' R F:Fp}{tg is:U Y}{pv val:Y->j V}
def gT (K:Kk):Y->TG
|1=>dG 0
|2=>Dn K 2<|nF (dG 0)<|nF (dG 1) EA
|_=>λ_ _ _ _=>RX
theorem At.put1 {i:Y}{w:W}{x:V}(A:At K sl σ Z H Fs η G)(r:Rep K Z H w.1 w.2 x<|Fs i)(d:∀a,sl.sl i=O a->σ[a]?=O (O x))(hp:sl.pv i=J):At K sl σ Z H Fs (put η i w) G:=by
 refine⟨A.gd,λa m t e=>?_,A.own,A.dis,A.lk,A.ln⟩;rw[bz] at e;split at e
 .rename_i c;cases e;obtain⟨rfl,_⟩:=c;exact⟨x,r,d,λu b=>by rw[hp] at b;cases b⟩
 .exact A.env a m t e
theorem iX {k a:Y}{v:V}(b:is[k]?=O a)(c:σ[a]?=O (O v)):(bQ σ is)[k]?=O (O v):=by unfold bQ;rw[KY,b];show O ((σ[a]?).join)=_;rw[c];rfl
theorem fT (I:eX sf sg tg is)(h:σ2.length=tg.length+is.length):∀i a,sg i=O a->a < σ2.length:=λi a b=>by
 rcases I i a b with⟨k,hk,rfl⟩|⟨_,k,c,rfl,hk,_⟩
 .have:=(LJ.mp hk).1;lia
 .have:=(LJ.mp hk).1;lia
theorem q8 {n i:Y}{c:It}{ts:U<|U W}{ws:U W}{x:V}{Q:L2.St->Hp->Prop}(hn:tg.length=n)(nd:tg.Nodup)(I:eX sf sg tg is)(hz:∀a,Z1 a->Z a)(st:Stay Z1 H1 H)(D:Yld K c Z1 H1 ts n)(A:At K ⟨sf,val⟩ σ Z H Fs η G)
  (ht:∀i∈tg,rd η i=J) (hw:ts[i]?=O ws) (hb:bA tg ws η=O ηb) (y:c.yld i H x H')
  (k:∀σ2 N,At K ⟨sg,inV val tg⟩ σ2 Z N Fs ηb G->Step Z H no Z N no->(σ2.length=n+(bQ σ is).length/\σ2.drop n=bQ σ is)->Q σ2 N):gT K n x (Ky n J++bQ σ is) H' Q:=by
 have hi:i<ts.length:=(LJ.mp hw).1;have g:∀{t:Y},t∈tg->inV val tg t=none:=λ{t} h=>RJ h
 match n,D with
 | 1,D =>
  obtain⟨e0,w,f,r⟩:=D H i x H' st hi y;rw[e0];rw[hw] at f;cases f
  match tg,hn with
  | [t],_ =>
   cases hb;have r':Rep K Z H w.1 w.2 x (Fs t):=(r.zmono hz).mono λ_ z=>z.elim;refine k _ H ?_ (Step.refl _ _ _) ⟨by simp[MV],rfl⟩;refine(A.into (σ2:=O x::bQ σ is) I ht (λk j0 v P h2=>?_)<|fT I<|by simp[bQ,MV]).put1 r' (λd m=>?_)<|g<|by simp
   .rw[Lf,MV,LI];exact iX P h2
   .rcases I t d m with ⟨k,hk,rfl⟩ | ⟨h,_⟩
    .cases d with
     |zero=>rfl
     |succ _=>simp at hk
    .exact RM (K1.mpr rfl) h
 | 2,D =>
  obtain⟨p,s,l,u,w,rfl,L,hq,f,r1,r2⟩:=D H i x H' st hi y;rw[hw] at f;cases f
  match tg,hn with
  | [t,M],_ =>
   cases hb;have o:t≠M:=λz=>by simp[z] at nd
   have s1:Step Z H G Z H' G:=hW L;have o1:Own Z H' G:=λa ha=>by obtain⟨nz,ys,e⟩:=A.own a ha;exact⟨nz,ys,L _ _ e⟩
   obtain⟨A1,_⟩:=A.op o1 s1;have sn:Stay Z H H':=mK L;have r1':Rep K Z H' u.1 u.2 s (Fs t):=((r1.zmono hz).keep sn (λ_ z=>z) λ_ _ z=>z.elim).mono λ_ z=>z.elim;have r2':Rep K Z H' w.1 w.2 l (Fs M):=((r2.zmono hz).keep sn (λ_ z=>z) λ_ _ z=>z.elim).mono λ_ z=>z.elim;have s0:Step Z H no Z H' no:=hW L;refine⟨p,[s,l],rfl,hq,rfl,s,[l],rfl,l,[],rfl,rfl,k (O s::O l::bQ σ is) _ ?_ s0 ⟨by simp;lia,rfl⟩⟩;refine((A1.into (σ2:=O s::O l::bQ σ is) I ht (λk j0 v P h2=>?_)<|fT I<|by simp[bQ];lia).put1 r1' (λd m=>?_)<|g<|by simp).put1 r2' (λd m=>?_)<|g<|by simp
   .rw[show[t,M].length+k=k+1+1 by simp;lia,LI,LI];exact iX P h2
   .rcases I t d m with ⟨k,hk,rfl⟩ | ⟨h,_⟩
    .match d,hk with
     |0,_=>rfl
     |1,hk=>exact RM (K8 hk).symm o
    .exact RM (by simp) h
   .rcases I M d m with ⟨k,hk,rfl⟩ | ⟨h,_⟩
    .match d,hk with
     |0,hk=>exact RM (K8 hk) o
     |1,_=>rfl
    .exact RM (by simp) h
def dJ (Fs:Fps)(tg:U Y):Fps:=λb a=>b ∉ tg/\Fs b a
theorem b8 {a:RL}(h:tot (dJ Fs tg) a):tot Fs a:=let ⟨b,_,c⟩:=h;⟨b,c⟩
theorem At.dels (A:At K sl σ Z H Fs η G):At K sl σ Z H (dJ Fs tg) (ag tg η) G:=by
 refine⟨⟨λa h=>A.gd.own a<|b8 h,λi b a c d=>A.gd.dis i b a c.2 d.2,A.gd.zal⟩,λi m t e=>?_,A.own,λa h q=>A.dis a h<|b8 q,A.lk,A.ln⟩;rw[aC] at e;split at e
 .cases e
 .rename_i g;obtain⟨v,r,h⟩:=A.env i m t e;exact⟨v,r.mono λa f=>⟨g,f⟩,h⟩
theorem dZ:∀{tg:U Y} {t:U W} {η η1:Env},bA tg t η=O η1->∀i,i ∉ tg->rd η1 i=rd η i
|[],[],η,η1,h,i,_=>by cases h;rfl
|[],_::_,_,_,h,_,_=>by cases h
|_::_,[],_,_,h,_,_=>by cases h
|a::tg,w::t,η,η1,h,i,b=>by rw[dZ (show bA tg t (put η a w)=O η1 from h) i λz=>b<|Kw _ z,bz,RK λz=>b<|by rw[z.1];exact Ku]
structure CSt (K:Kk)(sf:Y->Option Y)(val:Y->Option V)(σ:L2.St)(tg:U Y)(f:Env->Res (Option W×Env))(ts:U (U W))(η0:Env)(us:U W)(η3:Env)(Z1:Fp)(H1:Hp)(F1:Fp)(i:Y)(ys:U V)(H:Hp):Prop where
 ex:∃(Z:Fp) (Fs:Fps) (η:Env) (acc:U W) (G:Fp),At K ⟨sf,val⟩ σ Z H Fs η G/\RepW K Z H acc ys G/\aA tg f (ts.drop i) η acc=.ok (us,η3)/\(∀j∈tg,rd η j=J)/\(∀j∈tg,∀a,¬Fs j a)/\Nn η0 η/\Step Z1 H1 F1 Z H (λa=>tot Fs a\/G a)
 len:ys.length<=i
theorem ml {h:RN}{c:U W}{i:U V}{w:W}{Q:VK}(o:Own Z H G)(v:∀a,Z a->H a≠J)(r:RepW K Z H c i G)(n:i.length<=LIM)(b:(if h then(if c.all okD then O ((.d,.lst<|aK c):W) else J) else O (.o .s,.lst<|aK c))=O w)(k:Out K Z H G w Q):∀p,H p=J->Q (.ref p) (upd H p<|.lst i):=by
 intro p hp;cases h with
 | true =>
  rw[RJ rfl] at b;split at b
  .rename_i l;cases b;rw[K5] at l
   obtain⟨G',e,f⟩:=RepW.to (N:=.d) (λu t=>by
    have:=l u t;unfold okD at this;rw[P0] at this;unfold M.lf;split
    .rfl
    .rename_i g;rcases this with z|z
     .rw[eq_of_beq z];rfl
     .exact RM z g) r
   exact bK (m:=.d) o v e n f (by simp) k hp
  .cases b
 |false=>rw[RK KH] at b;cases b;obtain⟨G',e,f⟩:=RepW.to (N:=.s) (λu t=>by cases M.lf u.1 u.2<;>rfl) r;exact bK (m:=.o .s) o v e n f (by simp) k hp
end
section
variable {K:Kk}{sf sg:Y->j Y}{C:Call}{tg is:U Y}
theorem eB {b:Type}{l:U b}{i:Y}{a:b}(h:l[i]?=O a):l.drop i=a::l.drop (i+1):=by obtain⟨c,d⟩:=LJ.mp h;rw[Oy c,d]
theorem wg {h:RN}{k:Ik}{f:Env->Res (j W×Env)}{p:U W×Env}{w:W}{b:Env}(e:fB h k tg f p=.ok (w,b)):∃c a,bN k p.1=O c/\aA tg f c (ag tg p.2) []=.ok (a,b)/\(if h then(if a.all okD then O ((.d,.lst<|aK a):W) else J) else O (.o .s,.lst<|aK a))=O w:=by obtain⟨⟨c,l⟩,x,y⟩:=aa<|show(ret (ag tg p.2)<|bN k p.1).bind (λt=>(aA tg f t.1 t.2 []).bind<|je h)=_ from e;obtain⟨i,D,e3⟩:=aF x;have n:c=i:=RY Oa e3;have r:l=ag tg p.2:=RY Me e3;subst n r;obtain⟨⟨a,g⟩,z,A⟩:=aa<|show(aA tg f c (ag tg p.2) []).bind (je h)=_ from y;obtain⟨G,F,m⟩:=aF<|show ret g (if h then(if a.all okD then O ((.d,.lst<|aK a):W) else J) else O (.o .s,.lst<|aK a))=_ from A;have u:w=G:=RY Oa m;have v:b=g:=RY Me m;subst u v;exact⟨c,a,D,z,F⟩
theorem gV {f:Env->Res (j W×Env)}{t:U W}{k:U<|U W}{l g:Env}{a n:U W}(e:aA tg f (t::k) l a=.ok (n,g)):∃h o i,bA tg t l=O h/\f h=.ok (o,i)/\aA tg f k (ag tg i) (a++o.toList)=.ok (n,g):=by obtain⟨d,r,s⟩:=aa<|show(ofO<|bA tg t l).bind (λd=>(f d).bind λp=>aA tg f k (ag tg p.2)<|a++p.1.toList)=_ from e;obtain⟨⟨o,m⟩,u,v⟩:=aa s;exact⟨d,o,m,bZ r,u,v⟩
theorem jE {n:Y}{h:RN}{k:Ik}{src:U E}{f:Env->Res (j W×Env)}{te:L2.St->Hp->(j V->Hp->Prop)->Prop}(hn:tg.length=n)(nd:tg.Nodup)(I:eX sf sg tg is)
  (hf:∀{N o η'},f N=.ok (o,η')->Nn N η')
  (hte:∀ {val:Y->j V} {l:L2.St} {Z:Fp} {H:Hp} {Fs:Fps} {N L:Env} {R:Fp} {o:j W} {Q:j V->Hp->Prop},At K ⟨sg,val⟩ l Z H Fs N R->f N=.ok (o,L) ->
   (∀oy Z' H' Fs' G,At K ⟨sg,val⟩ l Z' H' Fs' L (λc=>R c\/G c)->(match o,oy with|some w,O y=>Rep K Z' H' w.1 w.2 y G|none,J=>Sv|_,_=>RX)->(∀c,R c->¬G c)->Step Z H (tot Fs) Z' H' (λa=>tot Fs' a\/G a)->Q oy H')->te l H Q)
  {e:E} (he:∀N,evE C e N=(evL C src N).bind (fB h k tg f)) (σ:L2.St) (H:Hp) (Q:VK) (hw:wE K sf C e σ H Q):
  wI K sf C n k src σ H λd H1=>∃W:Y->Y->U V->Hp->Prop,(∃m,W 0 m [] H1)/\∀i m D H,W i m D H ->
   (d.stop i H/\D.length<=sizeLine/\∀p,H p=J->Q (.ref p) (upd H p<|.lst D)) \/
   (d.go i H/\D.length<sizeLine/\∀x H',d.yld i H x H'->gT K n x (Ky n J++bQ σ is) H' λl H2=>(l.length=n+(bQ σ is).length/\l.drop n=bQ σ is)/\te l H2 λoy H3=>∃m',m'<m/\W (i+1) m' (D++oy.toList) H3):=by
 obtain⟨pv,Z,Fs,N,w,η',A,ev,kk⟩:=hw;rw[he] at ev;obtain⟨⟨ws,F⟩,h1,h2⟩:=aa ev;obtain⟨M,us,ht,h3,h4⟩:=wg h2;refine⟨pv,Z,Fs,N,ws,F,M,A,h1,ht,λd Z1 H1 P A1 s1 wk yl=>?_⟩;obtain⟨val,v1,A2,v2⟩:=(A1.dels (tg:=tg)).pin;have s1':Step Z H (tot Fs) Z1 H1 (tot (dJ P tg)):=s1.mono (λ_ z=>z) λ_ z=>b8 z;refine⟨λi m D H=>m=M.length-i/\i<=M.length/\CSt K sf val σ tg f M (ag tg F) us η' Z1 H1 (tot<|dJ P tg) i D H,⟨M.length,by simp,K4 _,⟨⟨Z1,dJ P tg,ag tg F,[],no,A2,rfl,h3,λg s=>by rw[aC,RJ s],λg s a v=>v.1 s,Nn.refl _,(Step.refl _ _ _).mono (λ_ z=>z) λa v=>v.elim id λz=>z.elim⟩,Kt _⟩⟩,?_⟩;rintro i m D H0 ⟨rfl,hi,⟨⟨Zi,Fsi,ηi,acc,Ga,Ai,ra,hc,htg,hfp,hnn,si⟩,r⟩⟩;have st:Stay Z1 H1 H0:=A2.gd.own.stay si;have hL:=wk.len;by_cases hlt:i<M.length
 .right;refine⟨wk.go H0 i st hlt,Oo (K0 r hi) (fV hL),λx H2 y=>?_⟩;have hw:M[i]?=O M[i]:=by simp[hlt]
  rw[eB hw] at hc;obtain⟨ηb,o,L,hb,hfe,hc2⟩:=gV hc;refine q8 hn nd I si.zm st yl Ai htg hw hb y λl H3 A3 s3 hσ=>⟨hσ,?_⟩;refine hte A3 hfe λoy Z4 H4 Fs4 G4 A4 r4 d4 s4=>⟨M.length-(i+1),by lia,rfl,hlt,⟨?_,?_⟩⟩
  .have ra3:RepW K Zi H3 acc D Ga:=ra.frame cI s3 fun _ _ z=>z;have ra4:RepW K Z4 H4 acc D Ga:=ra3.frame A3.gd.own s4 A3.dis
   have vv:∀g m t,rd (ag tg L) g=O (m,t)->val g≠none:=λg m t e=>by
    rw[aC] at e;split at e
    .cases e
    .rename_i s;have n1:rd ηb g≠none:=λz=>by rw[hf hfe g z] at e;cases e
     rw[dZ hb g s] at n1;have n2:rd (ag tg F) g≠none:=λz=>n1<|hnn g z;cases e2:rd (ag tg F) g with
     |none=>exact RM e2 n2
     |some u=>exact v2 g u.1 u.2 e2
   have A5:=(A4.dels (tg:=tg)).outof (sf:=sf) (σ:=σ) (val:=val) (λg s=>by rw[aC,RJ s]) vv Ai.lk Ai.ln
   have s5:Step Z1 H1 (tot (dJ P tg)) Z4 H4 (λa=>tot (dJ Fs4 tg) a\/(Ga a\/G4 a)):=by
    refine(si.trans<|((s3.frame λa=>tot Fsi a\/Ga a).mono (λa v=>v.elim (λz=>z.elim) id) λa v=>.inr v).trans<|s4.frame Ga).mono (λ_ z=>z) λa v=>?_;rcases v with z|z|z
    .exact .inl (.inl<|b8 z)
    .exact .inr z
    .exact .inl (.inr z)
   refine⟨Z4,dJ Fs4 tg,ag tg L,acc++o.toList,λc=>Ga c\/G4 c,A5,?_,hc2,λg s=>by rw[aC,RJ s],λg s a v=>v.1 s,λg e=>?_,s5⟩
   .cases o with
    |none=>
     cases oy with
     |none=>rw[Ni,Ni,La,La];exact ra4.mono λ_ z=>.inl z
     |some _=>exact r4.elim
    |some w4=>
     cases oy with
     |none=>exact r4.elim
     |some y4=>exact RepW.append (λ_ z=>.inl z) (λ_ z=>.inr z) d4 ra4<|RepW.one r4
   .have e':=hnn g e;rw[aC];split
    .rfl
    .rename_i s;exact hf hfe g<|by rw[dZ hb g s];exact e'
  .have:D.length<=i:=r;cases oy<;>simp<;>lia
 .left;have hi':i=M.length:=by lia
  subst hi';rw[NV] at hc;cases hc;refine⟨wk.stop H0 _ st<|Kt _,bO<|K0 r hL,ml Ai.own Ai.gd.zal ra (K0 r hL) h4<|cJ (Ai.unpin v1) (s1'.trans si) kk⟩
theorem gU {n:Y}{h:RN}{k:Ik}{e:U E}{b:E}(D:tg.length=n)(nd:tg.Nodup)(I:eX sf sg tg is)(x:L2.St)(H:Hp)(Q:VK)(F:wE K sf C (.comp h k e tg J b) x H Q):lu n (wI K sf C n k e) is (gT K n) (wE K sg C b) x H Q:=by
 refine jE (te:=λf H Q=>wE K sg C b f H λy l=>Q (O y) l) D nd I (λ{g o L} t=>?_) (λ{val f Z H N g M R o Q} A t k=>?_) (λg=>rfl) x H Q F
 .obtain ⟨⟨u,w⟩,m,p⟩:=aa<|show (evE C b g).bind dE=_ from t;cases p;exact aG b m
 .obtain ⟨⟨u,w⟩,m,p⟩:=aa<|show (evE C b g).bind dE=_ from t;cases p;exact jo A m λv z l i G a r d s _=>k (O v) z l i G a r d s
theorem gL {n:Y}{h:RN}{k:Ik}{D:U E}{l t:E}(hn:tg.length=n)(nd:tg.Nodup)(I:eX sf sg tg is)(σ:L2.St)(H:Hp)(Q:VK)(hw:wE K sf C (.comp h k D tg (O t) l) σ H Q):dP n (wI K sf C n k D) is (gT K n) (wT K sg C t) (wE K sg C l) σ H Q:=by
 have main:=jE (te:=λσ2 H Q=>wT K sg C t σ2 H λok H2=>if ok=Kh then wE K sg C l σ2 H2 λy F=>Q (O y) F else Q J H2) hn nd I (f:=cw (evE C t)<|evE C l) (λ{η o η'} hf=>by
  obtain⟨⟨u,P⟩,h7,h8⟩:=aa<|show(evE C t η).bind (onT (bJ<|evE C l)<|okW J)=_ from hf;obtain⟨d,h9,p⟩:=bx h8;cases d with
  |true=>rw[RJ rfl] at p;obtain⟨⟨u2,η5⟩,M,N⟩:=aa<|show(evE C l P).bind dE=_ from p;cases N;exact(aG t h7).trans<|aG l M
  |false=>rw[RK KH] at p;cases p;exact aG t h7) (λ{val σ2 Z H Fs η ηc R o Q} A hf k=>by
  obtain⟨⟨u,P⟩,h7,h8⟩:=aa<|show(evE C t η).bind (onT (bJ<|evE C l)<|okW J)=_ from hf;obtain⟨d,h9,p⟩:=bx h8;refine mj A.bare h7 h9 λZ1 H1 Fs1 A1 s1=>?_;have A1':=A.frame (A1.mono (G':=no) λ_ z=>z)<|s1.mono (λ_ z=>z) λa ha=>ha.elim id λz=>z.elim;have A2:=A1'.1.mono (G':=R) λ_ z=>.inl z;cases d with
  |true=>rw[RJ rfl] at p ⊢;obtain⟨⟨u2,η5⟩,M,N⟩:=aa<|show(evE C l P).bind dE=_ from p;cases N;exact jo A2 M λv Z' F L G e r d s _=>k (O v) Z' F L G e r d<|s1.trans s
  |false=>
   rw[RK KH] at p ⊢;cases p;exact k J Z1 H1 Fs1 no (A2.mono λ_ z=>z.elim id λq=>q.elim) trivial (λ_ _ z=>z) (s1.mono (λ_ z=>z) λa ha=>ha.elim id λz=>z.elim)) (λη=>rfl) σ H Q hw
 refine(?_:∀{a b:It->Hp->Prop},(∀g H1,a g H1->b g H1)->wI K sf C n k D σ H a->wI K sf C n k D σ H b) ?_ main
 .rintro a b hab ⟨pv,Z,Fs,η,ws,η',ts,A,ev,ht,kk⟩;exact⟨pv,Z,Fs,η,ws,η',ts,A,ev,ht,λg Z' F L A' s' w' y'=>hab g F<|kk g Z' F L A' s' w' y'⟩
 .rintro g H1 ⟨W,w0,turn⟩;refine⟨W,w0,λi m ys H w=>?_⟩;rcases turn i m ys H w with c|⟨go,hz,step⟩
  .exact .inl c
  .refine .inr ⟨go,hz,fun x F y=>?_⟩;have st:=step x F y;simp only[QX,Ni,La] at st;exact st
end
section
variable {K:Kk}{sl:Cf}{sf sg:Y->j Y}{C:Call}{σ σ2:L2.St}{Z Z' Z1:Fp}{H H' H1:Hp}{Fs Fs' Fs1:Fps}{η η' η1 ηb:Env}{G G' G1 R F:Fp}{tg is:U Y}{pv val:Y->j V}
def kj (Fs:Fps)(i:Y)(G:Fp):Fps:=λb a=>(b=i/\G a)\/(b≠i/\Fs b a)
theorem cf {i:Y}{a:RL}(h:tot (kj Fs i G) a):tot Fs a\/G a:=by
 obtain⟨b,h|h⟩:=h
 .exact .inr h.2
 .exact .inl ⟨b,h.2⟩
theorem At.put {i:Y}{w:W}{x:V}(A:At K sl σ Z H Fs η G)(r:Rep K Z H w.1 w.2 x G1)(d:∀a,G1 a->G a)(g:∀a,R a->G a)(n:∀a,R a->¬G1 a)(o:∀b,sl.sl i=O b->σ[b]?=O (O x))(hp:∀u,sl.pv i=O u->x=u):
  At K sl σ Z H (kj Fs i G1) (M.put η i w) R:=by
 refine⟨⟨λa h=>(cf h).elim (A.gd.own a) λq=>A.own a<|d a q,λb k a c hk=>?_,A.gd.zal⟩,λb m t e=>?_,λa h=>A.own a<|g a h,λa h q=>(cf q).elim (A.dis a<|g a h)<|n a h,A.lk,A.ln⟩
 .rcases c with ⟨rfl,c⟩ | ⟨y,c⟩
  .rcases hk with ⟨rfl,_⟩ | ⟨p,hk⟩
   .rfl
   .exact RM ⟨k,hk⟩ (A.dis a<|d a c)
  .rcases hk with ⟨rfl,hk⟩ | ⟨p,hk⟩
   .exact RM ⟨b,c⟩ (A.dis a<|d a hk)
   .exact A.gd.dis b k a c hk
 .rw [bz] at e;split at e
  .rename_i f;cases e;obtain⟨rfl,_⟩:=f;exact⟨x,r.mono λa h=>.inl ⟨rfl,h⟩,o,hp⟩
  .rename_i f;obtain⟨v,s,l⟩:=A.env b m t e;by_cases c:b=i
   .subst c;exact RM ⟨rfl,dF e⟩ f
   .exact⟨v,s.mono λa h=>.inr ⟨c,h⟩,l⟩
def wA (K:Kk)(sl:Y->j Y)(C:Call)(c:U E):TA:=λσ H Q=>∃pv Z Fs η d η',At K ⟨sl,pv⟩ σ Z H Fs η no/\evA C c η=.ok (d,η') /\
 ∀b Z' H' Fs' G,At K ⟨sl,pv⟩ σ Z' H' Fs' η' G->RepW K Z' H' d b G->Step Z H (tot Fs) Z' H' (λa=>tot Fs' a\/G a)->(∀(k i:Y) (u:V),c[k]?=O (.io i)->pv i=O u->b[k]?=O u)->Q b H'
theorem DV (σ:L2.St)(H:Hp)(Q:U V->Hp->Prop)(h:wA K sf C [] σ H Q):EB σ H Q:=by obtain⟨pv,Z,Fs,η,c,η',A,ev,k⟩:=h;cases ev;exact k [] Z H Fs no A rfl ((Step.refl _ _ _).mono (λ_ z=>z) λa b=>b.elim id λz=>z.elim) λk i u h _=>by simp at h
theorem Jj {d:U E}{g:U W}{Q:U V->Hp->Prop}(A:At K sl σ Z H Fs η R)(ev:evA C d η=.ok (g,η'))
  (k:∀ f Z' H' Fs' G,At K sl σ Z' H' Fs' η' (fun c=>R c\/G c)->RepW K Z' H' g f G->(∀ c,R c->¬ G c)->Step Z H (tot Fs) Z' H' (fun a=>tot Fs' a\/G a) ->
   Step Z H (λc=>tot Fs c\/R c) Z' H' (λc=>tot Fs' c\/(R c\/G c))->(∀(k i:Y) (u:V),d[k]?=O (.io i)->sl.pv i=O u->f[k]?=O u)->Q f H'):wA K sl.sl C d σ H Q:=
 ⟨sl.pv,Z,Fs,η,g,η',A.bare,ev,fun v Z' H' Fs' G b r s e=>by
  obtain⟨h,l,m⟩:=A.frame b s;exact k v Z' H' Fs' G h r m s l e⟩
theorem v7 {e:E}{f:U E}(g:∀i,e≠.io i)(σ:L2.St)(H:Hp)(Q:U V->Hp->Prop)(h:wA K sf C (e::f) σ H Q):pI (wE K sf C e) (wA K sf C f) σ H Q:=by
 obtain⟨pv,Z,Fs,η,P,η',A,ev,k⟩:=h;obtain⟨w,η1,N,s,t,rfl⟩:=jd g ev;refine jo A s λx Z1 H1 Fs1 G1 d y _ I _=>?_;have a:=d.mono (G':=G1) λ_ z=>.inr z;refine Jj a t λl p o b n m D r L M c=>?_;refine k (x::l) p o b _ m ⟨x,l,G1,n,rfl,λ_ z=>.inl z,λ_ z=>.inr z,r,y.frame d.gd.own L a.dis,D⟩ (I.trans M) λk i u h v=>?_;cases k with
 |zero=>exact RM (K8 h)<|g i
 |succ k=>exact c k i u h v
theorem qL {i b:Y}{s:U E}(M:sf i=O b)(σ:L2.St)(H:Hp)(Q:U V->Hp->Prop)(h:wA K sf C (.io i::s) σ H Q):pI (lQ b) (wA K sf C s) σ H Q:=by
 obtain⟨pv,Z,Fs,η,ws,η',A,ev,k⟩:=h;obtain⟨us,η1,w,g,d,rfl,rfl⟩:=kD ev;obtain⟨m,t⟩:=w;cases e0:rd η i with
 |none=>rw[ij s g i e0] at d;cases d
 | some w0 =>
  obtain⟨v,_,hv⟩:=A.env i w0.1 w0.2 e0;refine⟨v,hv.1 b M,pv,Z,Fs,η,us,η1,A,g,λxs Z2 H2 f G2 c r2 s2 D=>?_⟩;obtain⟨N,r,o⟩:=c.env i m t d;have x:N=v:=by have e1:=hv.1 b M;rw[o.1 b M] at e1;exact K8<|K8 e1
  subst x
  have A3:At K ⟨sf,pv⟩ σ Z2 H2 (kg f i) (del η1 i) (λa=>f i a\/G2 a):=by
   refine⟨⟨λa ⟨l,g,d⟩=>c.gd.own a ⟨l,d⟩,λl l' a g d=>c.gd.dis l l' a g.2 d.2,c.gd.zal⟩,λl m' t' e=>?_,λa n=>n.elim (λz=>c.gd.own a ⟨i,z⟩)<|c.own a,λa n ⟨l,g,d⟩=>n.elim (λz=>g<|c.gd.dis l i a d z) λz=>c.dis a z ⟨l,d⟩,c.lk,c.ln⟩;rw[bz] at e;split at e
   .cases e
   .rename_i L;obtain⟨P,r',p⟩:=c.env l m' t' e;have I:l≠i:=λz=>L ⟨z,dF d⟩;exact⟨P,r'.mono λa n=>⟨I,n⟩,p⟩
  refine k (N::xs) Z2 H2 (kg f i) _ A3 ⟨N,xs,f i,G2,rfl,λ_ z=>.inl z,λ_ z=>.inr z,λa z y=>c.dis a y ⟨i,z⟩,r,r2⟩ (s2.mono (λ_ z=>z) λa n=>?_) λk i' u h hu=>?_
  .rcases n with ⟨l,_,z⟩ | z | z
   .exact .inl ⟨l,z⟩
   .exact .inl ⟨i,z⟩
   .exact .inr z
  .cases k with
   |zero=>cases h;rw[<- o.2 u hu];rfl
   |succ k=>exact D k i' u h hu
def atV (a:U Y)(b:U V):U V:=a.filterMap λi=>b[i]?
def spC (K:Kk)(C:Call)(f:Y)(e:U Y):U V->Hp->VK->Prop:=λc H Q=>∃Z d G w bs,RepW K Z H d c G/\Own Z H G/\(∀a,Z a->H a≠J)/\C f d=.ok (w,bs) /\
 ∀v Z' H' G1 b,Rep K Z' H' w.1 w.2 v G1->RepW K Z' H' bs (atV e c) b->(∀a,G1 a->¬b a)->Own Z' H' (λa=>G1 a\/b a)->Step Z H G Z' H' (λa=>G1 a\/b a)->Q v H'
def i4:U E->Y->U Y
|[],_=>[]
|.io _::a,n=>n::i4 a (n+1)
|_::a,n=>i4 a<|n+1
theorem Bh {vs:U V}:∀{es:U E} {n:Y},(∀(k i:Y) (u:V),es[k]?=O (.io i)->pv i=O u->vs[n+k]?=O u)->(∀i∈ios es,pv i≠J)->(ios es).filterMap pv=atV (i4 es n) vs
|[],_,_,_=>rfl
| e::es,n,h,d=>by
 have rest:(∀i∈ios es,pv i≠J)->(ios es).filterMap pv=atV (i4 es (n+1)) vs:=λq=>Bh (λk i u hk b=>by have:=h (k+1) i u hk b;rw[show n+(k+1)=n+1+k by lia] at this;exact this) q;cases e with
 | io i =>
  cases b:pv i with
  |none=>exact RM b<|d i<|by simp[ios]
  |some u=>have f:=h 0 i u rfl b;rw[Nat.add_zero] at f;show(i::ios es).filterMap pv=(n::i4 es (n+1)).filterMap λi=>vs[i]?;rw[Mk,Mk,b,f];exact RY (u::·)<|rest λa c=>d a<|by simp[ios,c]
 |_=>exact rest λa c=>d a c
theorem At.putAll:∀{is:U Y} {bs:U W} {Fs:Fps} {η:Env} {f:Fp},At K ⟨sf,val⟩ σ Z H Fs η (λa=>R a\/f a)->(∀a,R a->¬f a)->RepW K Z H bs (is.filterMap val) f->(∀i∈is,val i≠J)->∃Fs',At K ⟨sf,val⟩ σ Z H Fs' (M.putAll is bs η) R/\∀a,tot Fs' a->tot Fs a\/f a
|[],bs,Fs,η,f,A,_,_,_=>⟨Fs,A.mono λ_ z=>.inl z,λ_ z=>.inl z⟩
|i::is,[],Fs,η,f,A,_,_,_=>⟨Fs,A.mono λ_ z=>.inl z,λ_ z=>.inl z⟩
| i::is,b::bs,Fs,η,f,A,o,r,s=>by
 cases g:val i with
 |none=>exact RM g<|s i Ku
 |some u=>rw[Mk,g] at r;obtain⟨x,I,t,v,e,k,l,ad,p,q⟩:=r;cases e;have c:=At.put (i:=i) (R:=λa=>R a\/v a) (G1:=t) A p (λa h=>.inr<|k a h) (λa h=>h.imp id (l a)) (λa h q=>h.elim (λz=>o a z<|k a q) λz=>ad a q z) (λd m=>A.lk i u d g m) (λD n=>by rw[show val i=O D from n] at g;cases g;rfl);obtain⟨Fs',w,y⟩:=At.putAll (is:=is) (bs:=bs) c (λa h q=>o a h<|l a q) q λd m=>s d<|Kw _ m;exact⟨Fs',w,λa h=>(y a h).elim (λz=>(cf z).imp id (k a)) λz=>.inr<|l a z⟩
theorem zP {f:Y}{es:U E}{D:U Y}(l:i4 es 0=D\/ios es=[])(σ:L2.St)(H:Hp)(Q:VK)(h:wE K sf C (.call f es) σ H Q):wA K sf C es σ H λvs H1=>spC K C f D vs H1 Q:=by
 obtain⟨pv,Z,Fs,η,w,η',A,ev,k⟩:=h;obtain⟨⟨m,η1⟩,y,h2⟩:=aa<|show(evA C es η).bind (mQ C f<|ios es)=_ from ev;obtain⟨⟨u,bs⟩,h3,h4⟩:=aa<|show(C f m).bind (qj (ios es) η1)=_ from h2;cases h4;obtain⟨val,v1,L,v2⟩:=A.pin
 have c:∀i∈ios es,val i≠none:=λi hi=>by
  cases e:rd η i with
  |none=>exact RM e<|kf es y i hi
  |some q=>exact v2 i q.1 q.2 e
 refine⟨val,Z,Fs,η,m,η1,L,y,λvs Z1 H1 Fs1 G b r s hv=>?_⟩;refine⟨Z1,m,G,u,bs,r,b.own,b.gd.zal,h3,λv x t G1 P r1 I d o st=>?_⟩;obtain⟨p,s2⟩:=b.op o st
 have g:∃Fs',At K ⟨sf,val⟩ σ x t Fs' (M.putAll (ios es) bs η1) G1/\∀a,tot Fs' a->tot Fs1 a\/P a:=by
  rcases l with e|e
  .have e2:=Bh (pv:=val) (es:=es) (n:=0) (vs:=vs) (fun k i u' hk hu=>by rw [MU]; exact hv k i u' hk hu) c;rw[e] at e2;rw[<- e2] at I;exact At.putAll p d I c
  .rw [e];exact⟨Fs1,p.mono λ_ z=>.inl z,λ_ z=>.inl z⟩
 obtain⟨Fs',N,hF⟩:=g;refine k v x t Fs' G1 (N.unpin v1) r1<|(s.trans s2).mono (λ_ z=>z) λa ha=>?_;rcases ha with z|z
 .exact(hF a z).imp id .inr
 .exact .inr (.inl z)
end
section
variable {K:Kk}{sl:Cf}{sf sg:Y->j Y}{C:Call}{σ σ2:L2.St}{Z Z' Z1:Fp}{H H' H1:Hp}{Fs Fs' Fs1:Fps}{η η' η1 ηb:Env}{G G' G1 R F F':Fp}{tg is vs ls:U Y}{pv val:Y->j V}
theorem wq (o:j W):toS (toS o)=toS o:=by
 cases o with
 |none=>rfl
 |some w=>rfl
theorem iR:∀(vs:U Y) (η:Env) (i:Y),rd (share vs η) i=if i∈vs then toS (rd η i) else rd η i
|[],η,i=>by simp[share]
| v::vs,η,i=>by
 show rd (share vs<|wr η v<|toS<|rd η v) i=_;rw[iR vs,bz];by_cases b:i=v
 .subst b;rw[RJ (show i∈i::vs from Ku)];by_cases c:i < η.length
  .rw [RJ (show i=i/\i < η.length from ⟨rfl,c⟩)];split
   .exact wq _
   .rfl
  .have e:rd η i=none:=by
    cases e:rd η i with
    |none=>rfl
    |some w=>exact RM (dF e) c
   rw[RK<|show¬(i=i/\i < η.length) fromλh=>c h.2,e];split<;>rfl
 .rw [RK (show ¬ (i=v/\v < η.length) from fun h=>b h.1)];by_cases a:i∈vs
  .rw[RJ a,RJ<|Kw _ a]
  .rw[RK a,RK<|by simp[a,b]]
theorem lU:∀(η:Env) (i:Y),rd (ia η) i=J
|[],_=>rfl
|_::_,0=>rfl
|_::η,i+1=>lU η i
theorem qA:∀(vs:U Y) (a η:Env) (i:Y) (w:W),rd (nY vs a η) i=O w->rd η i=O w\/(i∈vs/\toS (rd a i)=O w)
|[],_,_,_,_,h=>.inl h
| v::vs,a,η,i,w,h=>by
 rcases qA vs a (wr η v<|toS<|rd a v) i w h with e|e
 .rw [bz] at e;split at e
  .rename_i b;obtain⟨rfl,_⟩:=b;exact .inr ⟨Ku,e⟩
  .exact .inl e
 .exact .inr ⟨Kw _ e.1,e.2⟩
theorem lP:∀(vs:U Y) (a η:Env) (i:Y) (w:W),rd (iN vs a η) i=O w->rd η i=O w\/lfO (rd a i)=O w
|[],_,_,_,_,h=>.inl h
| v::vs,a,η,i,w,h=>by
 rcases lP vs a (wr η v<|lfO<|rd a v) i w h with e|e
 .rw [bz] at e;split at e
  .rename_i b;obtain⟨rfl,_⟩:=b;exact .inr e
  .exact .inl e
 .exact .inr e
theorem zg {i:Y}{w:W}(h:rd (eK vs ls η) i=O w):∃m t,rd η i=O (m,t)/\((i∈vs/\w=(.s,t))\/(t.leaf=Kh/\w=(.d,t))):=by
 rcases lP ls η _ i w h with e|e
 .rcases qA vs η _ i w e with e | ⟨hi,e⟩
  .rw[lU] at e;cases e
  .cases q:rd η i with
   |none=>rw[q] at e;cases e
   |some u=>rw[q] at e;cases e;exact⟨u.1,u.2,rfl,.inl ⟨hi,rfl⟩⟩
 .cases q:rd η i with
  |none=>rw[q] at e;cases e
  |some u=>
   rw[q] at e;obtain⟨m,t⟩:=u;have a:(if t.leaf=Kh then O ((.d,t):W) else J)=O w:=e;split at a
   .rename_i b;cases a;exact⟨m,t,rfl,.inr ⟨b,rfl⟩⟩
   .cases a
def dq (Fs:Fps)(vs:U Y):Fp:=λa=>∃i,i∈vs/\Fs i a
def uv:Fps:=λ_ _=>RX
theorem cY {a:RL}(h:dq Fs vs a):tot Fs a:=let ⟨i,_,h⟩:=h;⟨i,h⟩
theorem ki {a:RL}(h:tot uv a):RX:=let ⟨_,h⟩:=h;h
theorem At.quiet (A:At K sl σ Z H Fs η no):At K sl σ (λa=>Z a\/dq Fs vs a) H uv (eK vs ls η) no:=by
 refine⟨⟨λa h=>(ki h).elim,λ_ _ _ h=>h.elim,λa h=>h.elim (A.gd.zal a) λq=>?_⟩,λi m t e=>?_,cI,λ_ z=>z.elim,A.lk,A.ln⟩
 .obtain ⟨_,g,e⟩:=A.gd.own a<|cY q;rw[e];simp
 .obtain ⟨d,f,e1,e2⟩:=zg e;obtain⟨v,r,h⟩:=A.env i d f e1;rcases e2 with⟨b,e2⟩|⟨c,e2⟩
  .cases e2;exact⟨v,(r.sh.zmono λa h=>h.imp id λq=>⟨i,b,q⟩).sany,h⟩
  .cases e2;exact⟨v,r.leaf (λ_ _ _ q=>q) c,h⟩
mutual
theorem Rep.dany:∀{t:T} {v:V} {G:Fp},Rep K Z H .d t v G->Rep K Z' H .d t v G
|.non,_,_,h=>h
|.bl _,_,_,h=>h
|.int _,_,_,h=>h
|.str _,_,_,h=>h
|.scr _,_,_,h=>h
|.tup ts,_,_,⟨a,xs,e,q,l,r⟩=>⟨a,xs,e,q,l,RepL.dany r⟩
|.lst ts,_,_,⟨a,xs,e,l,q,r⟩=>⟨a,xs,e,l,q,RepL.dany r⟩
|.dct _ _,_,_,⟨a,xs,e,l,q,n,hl,r⟩=>⟨a,xs,e,l,q,n,hl,RepL.dany r⟩
|.ins _ _ _,_,_,h=>RM rfl h.1
|.gone,_,_,h=>h
theorem RepL.dany:∀{ts:U T} {xs:U V} {G:Fp},RepL K Z H .d ts xs G->RepL K Z' H .d ts xs G
|[],_,_,h=>h
|t::ts,xs,_,⟨x,r,G1,G2,e,h1,h2,hd,p,q⟩=>⟨x,r,G1,G2,e,h1,h2,hd,Rep.dany p,RepL.dany q⟩
end
theorem eR (A:At K sl σ Z H Fs η no)(b:Own Z' H' G)(d:∀a,Z' a->H' a≠J)(s:Step (λa=>Z a\/dq Fs vs a) H F Z' H' λa=>F' a\/G a)(c:∀a,¬F a):
  At K sl σ (λa=>Z' a/\¬dq Fs vs a) H' Fs η G/\Step Z H (tot Fs) (λa=>Z' a/\¬dq Fs vs a) H' (λa=>tot Fs a\/G a):=by
 have keep:∀a o,H a=O o->H' a=O o:=λa o e=>s.keep a o e<|c a;have k:∀a,Z a->Z' a/\¬dq Fs vs a:=λa h=>⟨s.zm a<|.inl h,λq=>(A.gd.own a<|cY q).1 h⟩
 have g:∀a,tot Fs a->¬(Z' a/\¬dq Fs vs a):=λa h q=>by
  obtain⟨g,f,e⟩:=A.gd.own a h;rcases s.zn a q.1 with z|z|z
  .exact z.elim g q.2
  .exact c a z
  .rw[e] at z;cases z
 have l:∀a,G a->¬tot Fs a:=λa h q=>by
  obtain⟨_,f,e⟩:=A.gd.own a q;rcases s.fn a (.inr h) with z|z
  .exact c a z
  .rw[e] at z;cases z
 refine⟨⟨⟨λa h=>?_,A.gd.dis,λa h=>d a h.1⟩,λi m t e=>?_,λa h=>⟨λq=>(b a h).1 q.1,(b a h).2⟩,l,A.lk,A.ln⟩,⟨λa o e _=>keep a o e,k,λa h=>?_,λa h=>?_,s.al,λ_ a h=>d a h.1⟩⟩
 .obtain ⟨_,f,e⟩:=A.gd.own a h;exact⟨g a h,f,keep a _ e⟩
 .obtain ⟨v,r,h⟩:=A.env i m t e;refine⟨v,r.keep ⟨λa o _ e=>keep a o e,λa f e=>?_,λa o u e=>keep a _ e⟩ k λa o _ e=>keep a o e,h⟩;rcases e with e|⟨u,e⟩
  .exact .inl (keep a _ e)
  .exact .inr ⟨u,keep a _ e⟩
 .rcases s.zn a h.1 with z | z | z
  .exact z.elim .inl λq=>RM q h.2
  .exact(c a z).elim
  .exact .inr (.inr z)
 .rcases h with h | h
  .exact .inl h
  .exact(s.fn a<|.inr h).elim (λz=>(c a z).elim) .inr
theorem At.share (A:At K sl σ Z H Fs η G):At K sl σ (λa=>Z a\/dq Fs vs a) H (dJ Fs vs) (M.share vs η) G/\∀{g f d},Step g f d Z H (λa=>tot Fs a\/G a)->Step g f d (λa=>Z a\/dq Fs vs a) H (λa=>tot (dJ Fs vs) a\/G a):=by
 refine⟨⟨⟨λa h=>?_,λi b a n o=>A.gd.dis i b a n.2 o.2,λa h=>h.elim (A.gd.zal a) λq=>?_⟩,λi m t e=>?_,λa h=>⟨λz=>z.elim (A.own a h).1 λq=>A.dis a h<|cY q,(A.own a h).2⟩,λa h q=>A.dis a h<|b8 q,A.lk,A.ln⟩,λ{g f d} s=>⟨s.keep,λa h=>.inl<|s.zm a h,λa h=>h.elim (s.zn a) λq=>.inr<|s.fn a<|.inl<|cY q,λa h=>s.fn a<|h.imp b8 id,s.al,λz a h=>h.elim (s.za z a) λq=>?_⟩⟩
 .obtain ⟨i,c,l⟩:=h;obtain⟨w,k,e⟩:=A.gd.own a ⟨i,l⟩;exact⟨λz=>z.elim w λ⟨b,p,q⟩=>c<|A.gd.dis i b a l q ▸ p,k,e⟩
 .obtain ⟨_,k,e⟩:=A.gd.own a<|cY q;rw[e];simp
 .rw [iR] at e;split at e
  .rename_i c;cases q:rd η i with
   |none=>rw[q] at e;cases e
   |some u=>rw[q] at e;cases e;obtain⟨v,r,h⟩:=A.env i u.1 u.2 q;exact⟨v,(r.sh.zmono λa h=>h.imp id λq=>⟨i,c,q⟩).sany,h⟩
  .rename_i c;obtain⟨v,r,h⟩:=A.env i m t e;exact⟨v,(r.zmono λa h=>.inl h).mono λa h=>⟨c,h⟩,h⟩
 .obtain ⟨_,k,e⟩:=A.gd.own a<|cY q;rw[e];simp
theorem ku {x:X}{e:E}{w:W}{Q:VK}(A:At K sl σ Z H Fs η no)(ev:evX C x e η=.ok (w,η'))(k:∀v Z' H' Fs' G,At K sl σ Z' H' Fs' η' G->Rep K Z' H' w.1 w.2 v G->Step Z H (tot Fs) Z' H' (λa=>tot Fs' a\/G a)->Q v H'):wE K sl.sl C e σ H Q:=by
 cases x with
 | q vs ls =>
  obtain⟨⟨u,t⟩,L,N⟩:=aa<|show(evE C e<|eK vs ls η).bind (kX vs η)=_ from ev;cases N;generalize n:M.lf u.1 u.2=m0 at k;refine⟨sl.pv,_,uv,_,_,t,A.quiet (vs:=vs) (ls:=ls),L,λv Z' H' Fs' G b r0 s=>?_⟩;have r:=r0.lf;rw[n] at r;obtain⟨y,g⟩:=eR A b.own b.gd.zal s λa h=>ki h
  have c:Q v H'\/m0=.d:=by
   by_cases f:m0=.d
   .exact .inr f
   .refine .inl ?_
    have i:after m0 vs η=share vs η:=by
     cases P:m0 with
     |d=>exact RM P f
     |s=>rfl
     |o m=>rfl
    obtain⟨I,s2⟩:=y.share (vs:=vs);have zz:∀a,(Z' a/\¬dq Fs vs a)\/dq Fs vs a->Z' a:=λa h=>h.elim Nd λq=>s.zm a<|.inr q;have p:∀a,Z' a->(Z' a/\¬dq Fs vs a)\/dq Fs vs a:=λa h=>(Qj<|dq Fs vs a).elim .inr λq=>.inl ⟨h,q⟩;exact k v _ H' _ G (i ▸ I) (r.zmono p)<|s2 g
  rcases c with q|f
  .exact q
  .have i:after m0 vs η=η:=by rw [f]; rfl
   refine k v _ H' Fs G (i.symm ▸ y) ?_ g;subst f;exact r.dany
 |l vs=>obtain⟨b,s0⟩:=A.share (vs:=vs);have g:=s0<|(Step.refl Z H<|tot Fs).mono (F2:=λa=>tot Fs a\/no a) (λ_ z=>z) λa h=>h.elim id λz=>z.elim;refine⟨sl.pv,_,_,_,w,η',b,ev,λv Z' H' Fs' G D r s=>k v Z' H' Fs' G D r<|(g.mono (λ_ z=>z) λa h=>.inl h).trans s⟩
theorem Gr {x:X}{e:E}{b:RN}{Q:RN->Hp->Prop}(A:At K sl σ Z H Fs η no)(ev:evT C x e η=.ok (b,η'))(k:∀Z' H' Fs',At K sl σ Z' H' Fs' η' no->Step Z H (tot Fs) Z' H' (tot Fs')->Q b H'):wT K sl.sl C e σ H Q:=by
 cases x with
 |q vs ls=>obtain⟨⟨u,d⟩,f,g⟩:=aa<|show(evE C e<|eK vs ls η).bind (kT η)=_ from ev;obtain⟨p,i,e3⟩:=aF<|show ret η (truth u.2)=_ from g;cases e3;refine⟨sl.pv,_,uv,_,u,d,b,A.quiet (vs:=vs) (ls:=ls),f,i,λZ' H' Fs' c s=>?_⟩;obtain⟨o,m⟩:=eR (G:=no) A cI c.gd.zal (s.mono (F2:=λa=>tot Fs' a\/no a) (λ_ z=>z) λa h=>h.elim id λz=>z.elim) λa h=>ki h;exact k _ H' Fs o<|m.mono (λ_ z=>z) λa h=>.inl h
 |l vs=>obtain⟨⟨u,d⟩,f,g⟩:=aa<|show(evE C e<|M.share vs η).bind kT2=_ from ev;obtain⟨p,i,e3⟩:=aF<|show ret d (truth u.2)=_ from g;cases e3;obtain⟨c,s0⟩:=A.share (vs:=vs);have m:=s0<|(Step.refl Z H<|tot Fs).mono (F2:=λa=>tot Fs a\/no a) (λ_ z=>z) λa h=>h.elim id λz=>z.elim;exact⟨sl.pv,_,_,_,u,_,b,c,f,i,λZ' H' Fs' n s=>k Z' H' Fs' n<|(m.mono (λ_ z=>z) λa h=>.inl h).trans s⟩
end
section
variable {K:Kk}{Wx:L2.St->VK}{sl:Cf}{sf sg:Y->j Y}{C:Call}{σ σ2:L2.St}{Z Z' Z1:Fp}{H H' H1:Hp}{Fs Fs' Fs1:Fps}{η η' η1 ηb:Env}{G G' G1 R F F':Fp}{tg is vs ls io:U Y}{pv val:Y->j V}{D:bH}
def Fin (K:Kk)(Wx:L2.St->VK)(sl:Cf)(Z:Fp)(H:Hp)(F:Fp)(D:bH):Fl->Prop
|.nx η'=>∀b Z' H' Fs',At K sl b Z' H' Fs' η' no->Step Z H F Z' H' (tot Fs')->D.nx b H'
|.rt w η'=>∀v b Z' H' Fs' G,At K sl b Z' H' Fs' η' G->Rep K Z' H' w.1 w.2 v G->Step Z H F Z' H' (λa=>tot Fs' a\/G a)->D.rt v H'
|.bk η'=>∀b Z' H' Fs',At K sl b Z' H' Fs' η' no->Step Z H F Z' H' (tot Fs')->D.bk b H'
|.ex t η'=>∀v b Z' H' Fs',At K sl b Z' H' Fs' η' no->Rep K Z' H' .s t v no->Step Z H F Z' H' (tot Fs')->Wx b v H'
|_=>RX
theorem Fin.step {fl:Fl}(s:Step Z H F Z1 H1 F')(h:Fin K Wx sl Z H F D fl):Fin K Wx sl Z1 H1 F' D fl:=by
 cases fl with
 |nx η=>exactλa Z' H' Fs' A t=>h a Z' H' Fs' A<|s.trans t
 |rt w η=>exactλv a Z' H' Fs' G A r t=>h v a Z' H' Fs' G A r<|s.trans t
 |bk η=>exactλa Z' H' Fs' A t=>h a Z' H' Fs' A<|s.trans t
 |ex t η=>exactλv a Z' H' Fs' A r t=>h v a Z' H' Fs' A r<|s.trans t
 |_=>exact h.elim
structure wo (sf:Y->Option Y)(io:U Y)(pv:Y->Option V):Prop where
 inj:∀i i' j,sf i=O j->sf i'=O j->i=i'
 io:∀i,i ∉ io->pv i=J
def wS (K:Kk)(Wx:L2.St->VK)(sf:Y->j Y)(io:U Y)(C:Call)(a:S):TS:=λD σ H=>∃pv Z Fs η,wo sf io pv/\At K ⟨sf,pv⟩ σ Z H Fs η no/\Fin K Wx ⟨sf,pv⟩ Z H (tot Fs) D (evS C a η)
def wSs (K:Kk)(Wx:L2.St->VK)(sf:Y->j Y)(io:U Y)(C:Call)(a:U S):TS:=λD σ H=>∃pv Z Fs η,wo sf io pv/\At K ⟨sf,pv⟩ σ Z H Fs η no/\Fin K Wx ⟨sf,pv⟩ Z H (tot Fs) D (evSs C a η)
theorem Ap (D:bH)(σ:L2.St)(H:Hp)(h:wSs K Wx sf io C [] D σ H):A8 D σ H:=by obtain⟨pv,Z,Fs,η,N,A,f⟩:=h;exact f σ Z H Fs A<|Step.refl _ _ _
theorem tS {s:S}{r:U S}(D:bH)(σ:L2.St)(H:Hp)(h:wSs K Wx sf io C (s::r) D σ H):HY (wS K Wx sf io C s) (wSs K Wx sf io C r) D σ H:=by
 obtain⟨pv,Z,Fs,η,N,A,f⟩:=h;refine⟨pv,Z,Fs,η,N,A,?_⟩;have a:Fin K Wx ⟨sf,pv⟩ Z H (tot Fs) D (Fl.seq (evS C s η) (evSs C r)):=f;cases e:evS C s η with
 |nx η1=>rw[e] at a;exactλc Z' H' Fs' b t=>⟨pv,Z',Fs',η1,N,b,a.step t⟩
 |rt w η1=>rw[e] at a;exact a
 |bk η1=>rw[e] at a;exact a
 |ex t η1=>rw[e] at a;exact a
 |no=>rw[e] at a;exact a.elim
theorem xu {s:S}(D:bH)(σ:L2.St)(H:Hp)(h:wSs K Wx sf io C [s] D σ H):wS K Wx sf io C s D σ H:=by
 obtain⟨pv,Z,Fs,η,N,A,f⟩:=h;refine⟨pv,Z,Fs,η,N,A,?_⟩;have a:Fin K Wx ⟨sf,pv⟩ Z H (tot Fs) D (Fl.seq (evS C s η) (evSs C [])):=f;cases e:evS C s η with
 |nx η1=>rw[e] at a;exact a
 |rt w η1=>rw[e] at a;exact a
 |bk η1=>rw[e] at a;exact a
 |ex t η1=>rw[e] at a;exact a
 |no=>rw[e] at a;exact a.elim
theorem bq {b:Type}{r:Res b}{g:b->Fl}(f:Fin K Wx sl Z H F D<|Fl.of η r g):∃a,r=.ok a/\Fin K Wx sl Z H F D (g a):=by
 cases r with
 |ok a=>exact⟨a,rfl,f⟩
 |ex t=>exact f.elim
 |no=>exact f.elim
theorem eI {o:j Env}(f:Fin K Wx sl Z H F D<|nxO η o):∃η',o=O η'/\Fin K Wx sl Z H F D (.nx η'):=by
 cases o with
 |some a=>exact⟨a,rfl,f⟩
 |none=>exact f.elim
theorem At.setR {i d:Y}{w:W}{x:V}(N:wo sf io pv)(L:i ∉ io)(y:sf i=O d)(A:At K ⟨sf,pv⟩ σ Z H Fs η G)(r:Rep K Z H w.1 w.2 x G1)(q1:∀a,G1 a->G a)(q2:∀a,R a->G a)(q3:∀a,R a->¬G1 a):At K ⟨sf,pv⟩ (σ.set d<|O x) Z H (kj Fs i G1) (M.put η i w) R:=by
 have hj:d < σ.length:=A.ln i d y
 have c:At K ⟨λk=>if k=i then J else sf k,pv⟩ (σ.set d (O x)) Z H Fs (M.del η i) G:=by
  refine⟨A.gd,λl m t e=>?_,A.own,A.dis,λl u k n hk=>?_,λl k hk=>?_⟩
  .rw [bz] at e;split at e
   .cases e
   .rename_i hne;obtain⟨v,r',P,Q⟩:=A.env l m t e;have g:l≠i:=λz=>hne ⟨z,by rw[<- z];exact dF e⟩;refine⟨v,r',λk hk=>?_,Q⟩;have f:sf l=O k:=by have:(if l=i then J else sf l)=O k:=hk;rw[RK g] at this;exact this
    have p:d≠k:=λz=>g (N.inj l i k f<|by rw[<- z];exact y);rw[OF p];exact P k f
  .have g:l≠i:=fun z=>by have I:pv l=O u:=n;rw[z,N.io i L] at I;cases I
   have f:sf l=O k:=by have:(if l=i then J else sf l)=O k:=hk;rw[RK g] at this;exact this
   have p:d≠k:=λz=>g (N.inj l i k f<|by rw[<- z];exact y);rw[OF p];exact A.lk l u k n f
  .have f:sf l=O k:=by
    have:(if l=i then J else sf l)=O k:=hk;split at this
    .cases this
    .exact this
   rw[KZ];exact A.ln l k f
 have s:=At.put (i:=i) (w:=w) (G1:=G1) (R:=R) c r q1 q2 q3 (λk hk=>by have f:(if i=i then J else sf i)=O k:=hk;rw[RJ rfl] at f;cases f) (λu n=>by have:=N.io i L;rw[show pv i=O u from n] at this;cases this)
 have e1:M.put (M.del η i) i w=M.put η i w:=by
  have:∀(η:Env) (i:Y) (a b:j W),wr (wr η i a) i b=wr η i b:=λη=>by
   induction η with
   |nil=>intro i a b;rfl
   |cons o η ih=>intro i a b;cases i with
    |zero=>rfl
    |succ i=>show o::wr (wr η i a) i b=o::wr η i b;rw[ih]
  exact this η i J<|O w
 rw[e1] at s;refine⟨s.gd,λl m t e=>?_,s.own,s.dis,λl u k n hk=>?_,λl k hk=>by rw[KZ];exact A.ln l k hk⟩
 .obtain ⟨v,r',P,Q⟩:=s.env l m t e;by_cases g:l=i
  .subst g;rw[bz] at e;split at e
   .cases e;refine⟨x,r.mono λa h=>.inl ⟨rfl,h⟩,λk hk=>?_,λu n=>by have:=N.io l L;rw[show pv l=O u from n] at this;cases this⟩;have:k=d:=by rw[show sf l=O k from hk] at y;cases y;rfl
    subst this;rw[Pc hj]
   .rename_i hc;exact RM ⟨rfl,dF e⟩ hc
  .refine ⟨v,r',fun k hk=>P k ?_,Q⟩;show(if l=i then J else sf l)=O k;rw[RK g];exact hk
 .by_cases g:l=i
  .subst g;have:=N.io l L;rw[show pv l=O u from n] at this;cases this
  .exact s.lk l u k n (show(if l=i then J else sf l)=O k by rw[RK g];exact hk)
theorem At.set {i a:Y}{w:W}{x:V}(N:wo sf io pv)(b:i ∉ io)(c:sf i=O a)(A:At K ⟨sf,pv⟩ σ Z H Fs η G)(r:Rep K Z H w.1 w.2 x G):At K ⟨sf,pv⟩ (σ.set a<|O x) Z H (kj Fs i G) (M.put η i w) no:=At.setR N b c A r (λ_ h=>h) (λ_ z=>z.elim) λ_ z=>z.elim
theorem kB {x:X}{i c:Y}{e:E}(l:i ∉ io)(m:sf i=O c)(D:bH)(σ:L2.St)(H:Hp)(h:wS K Wx sf io C (.asg x i e) D σ H):qZ (wE K sf C e) (dG c) D σ H:=by obtain⟨pv,Z,Fs,η,N,A,f⟩:=h;obtain⟨⟨w,η1⟩,d,g⟩:=bq<|show Fin K Wx ⟨sf,pv⟩ Z H (tot Fs) D (Fl.of η (evX C x e η)<|Ad i) from f;refine ku (sl:=⟨sf,pv⟩) A d λv Z' H' Fs' G b r s=>?_;exact g _ Z' H' _ (At.set N l m b r)<|s.mono (λ_ z=>z) λa k=>cf k
theorem CQ {x:X}{e:E}(D:bH)(σ:L2.St)(H:Hp)(h:wS K Wx sf io C (.exp x e) D σ H):Bm (wE K sf C e) D σ H:=by obtain⟨pv,Z,Fs,η,N,A,f⟩:=h;obtain⟨⟨w,η1⟩,c,d⟩:=bq<|show Fin K Wx ⟨sf,pv⟩ Z H (tot Fs) D (Fl.of η (evX C x e η) kNx) from f;exact ku (sl:=⟨sf,pv⟩) A c λv Z' H' Fs' G b r s=>d σ Z' H' Fs' b.bare<|s.mono (λ_ z=>z) λa g=>.inl g
theorem DF {e:E}(D:bH)(σ:L2.St)(H:Hp)(h:wS K Wx sf io C (.ret vs e) D σ H):Gw (wE K sf C e) D σ H:=by obtain⟨pv,Z,Fs,η,N,A,f⟩:=h;obtain⟨⟨w,η1⟩,b,c⟩:=bq<|show Fin K Wx ⟨sf,pv⟩ Z H (tot Fs) D (Fl.of η (evE C e<|M.share vs η) kRt) from f;exact ku (sl:=⟨sf,pv⟩) (x:=.l vs) A b λv Z' H' Fs' G a r s=>c v σ Z' H' Fs' G a r s
theorem Ey {x:X}{c:E}{a b:U S}(D:bH)(σ:L2.St)(H:Hp)(h:wS K Wx sf io C (.ite x c a b) D σ H):E6 (wT K sf C c) (wSs K Wx sf io C a) (wSs K Wx sf io C b) D σ H:=by
 obtain⟨pv,Z,Fs,η,N,A,f⟩:=h;obtain⟨⟨k,η1⟩,g,e⟩:=bq<|show Fin K Wx ⟨sf,pv⟩ Z H (tot Fs) D (Fl.of η (evT C x c η)<|kIf (evSs C a)<|evSs C b) from f;refine Gr (sl:=⟨sf,pv⟩) A g λZ' H' Fs' d s=>?_;cases k with
 |true=>rw[RJ rfl];exact⟨pv,Z',Fs',η1,N,d,Fin.step s e⟩
 |false=>rw[RK KH];exact⟨pv,Z',Fs',η1,N,d,Fin.step s e⟩
theorem er {m:Md}{d:U T}{v:V}(f:m≠.s)(r:Rep K Z H m (.lst d) v G):∃a c,v=.ref a/\c.length<=LIM/\G a/\H a=O (.lst c)/\RepL K Z H m.kid d c (λb=>G b/\b≠a):=by obtain⟨a,c,e,l,q,p⟩:=r;rw[LstR.own f] at q;exact⟨a,c,e,l,q.1,q.2,p⟩
theorem qu {i:Y}{a:RL}{ts':U T}{f:U V}{m':Md}(hm:m'≠.s)(A:At K ⟨sf,pv⟩ σ Z H Fs η G){w0:W}(hi:rd η i=O w0)(ha:Fs i a)(hx:∀d,sf i=O d->σ[d]?=O (O<|.ref a))(hl:f.length<=LIM)(hpv:∀u,pv i=O u->V.ref a=u)
  (hg:∀b,G' b->(Fs i b\/G b)/\b≠a) (P:∀b,R b->(Fs i b\/G b)/\b≠a) (hRG:∀b,R b->¬G' b) (p:RepL K (λb=>Z b\/((Fs i b\/G b)/\b≠a/\¬G' b/\¬R b)) H m'.kid ts' f G') {Q:Hp->Prop}
  (k:∀Z' Fs',At K ⟨sf,pv⟩ σ Z' (upd H a<|.lst f) Fs' (M.put η i (m',.lst ts')) R->Step Z H (λb=>tot Fs b\/G b) Z' (upd H a<|.lst f) (λb=>tot Fs' b\/R b)->(∀{m t v},Rep K (λb=>Z b\/((Fs i b\/G b)/\b≠a/\¬G' b/\¬R b)) H m t v R->Rep K Z' (upd H a<|.lst f) m t v R)->Q (upd H a<|.lst f)):Q (upd H a<|.lst f):=by
 have I:tot Fs a:=⟨i,ha⟩;obtain⟨nza,ys,hya⟩:=A.gd.own a I;have nGa:¬G a:=λq=>A.dis a q I
 have x:∀b,(Z b\/((Fs i b\/G b)/\b≠a/\¬G' b/\¬R b))->b≠a:=λb h z=>by
  subst z;rcases h with h|h
  .exact nza h
  .exact h.2.1 rfl
 have keep:∀b o,H b=O o->b≠a->upd H a (.lst f) b=O o:=λb o e g=>by rw[af g];exact e
 have neT:∀b xs,H b=O (.tup xs)->b≠a:=λb xs e z=>by rw[z,hya] at e;exact kz e.symm
 have neF:∀b o u,H b=O (.frz o u)->b≠a:=λb o u e z=>by rw[z,hya] at e;exact eN e.symm
 have stay:∀{c:Fp},(∀b,c b->b≠a)->Stay c H (upd H a (.lst f)):=λ{c} hY=>⟨λb o g e=>keep b o e<|hY b g,λb xs e=>by
  rcases e with e|⟨u,e⟩
  .exact .inl (keep b _ e<|neT b xs e)
  .exact .inr ⟨u,keep b _ e<|neF b u _ e⟩,λb o u e=>keep b _ e<|neF b o u e⟩
 have al:∀b,H b≠J->upd H a (.lst f) b≠none:=λb h=>by
  by_cases e:b=a
  .rw[e,av];simp
  .rw[af e];exact h
 have L:∀b,(Z b\/((Fs i b\/G b)/\b≠a/\¬G' b/\¬R b))->H b≠none:=λb h=>by
  rcases h with h|⟨h|h,_⟩
  .exact A.gd.zal b h
  .obtain⟨_,N,e⟩:=A.gd.own b ⟨i,h⟩;rw[e];simp
  .obtain⟨_,N,e⟩:=A.own b h;rw[e];simp
 have listAt:∀b,(tot Fs b\/G b)->∃N:OO,upd H a (.lst f) b=O N.ho:=λb h=>by
  by_cases e:b=a
  .exact⟨.inl f,by rw[e,av];rfl⟩
  .rcases h with h | h
   .obtain⟨_,N,q⟩:=A.gd.own b h;exact⟨N,by rw[af e];exact q⟩
   .obtain⟨_,N,q⟩:=A.own b h;exact⟨N,by rw[af e];exact q⟩
 have nZ:∀b,(Fs i b\/G b)->¬Z b:=λb h z=>h.elim (λy=>(A.gd.own b ⟨i,y⟩).1 z) λy=>(A.own b y).1 z
 have de:∀b,tot (kj Fs i λb=>G' b\/b=a) b->(∃d,d≠i/\Fs d b)\/G' b\/b=a:=λb h=>by
  obtain⟨d,h|h⟩:=h
  .exact .inr h.2
  .exact .inl ⟨d,h⟩
 refine k (λb=>Z b\/((Fs i b\/G b)/\b≠a/\¬G' b/\¬R b)) (kj Fs i λb=>G' b\/b=a) ⟨⟨λb h=>⟨λz=>?_,?_⟩,λd l b w hk=>?_,λb h=>al b<|L b h⟩,λl m t e=>?_,λb h=>⟨λz=>?_,listAt b<|(P b h).1.imp (λz=>⟨i,z⟩) id⟩,λb h q=>?_,A.lk,A.ln⟩ ⟨λb o e n=>keep b o e λz=>n<|.inl<|z ▸ I,λb h=>.inl h,λb h=>h.imp id λq=>.inl<|q.1.imp (λz=>⟨i,z⟩) id,λb h=>?_,al,λ_ b h=>al b<|L b h⟩ λ{m t v} r=>r.keep (stay x) (λ_ z=>z) λb o g e=>keep b o e (P b g).2
 .rcases de b h with ⟨d,w,q⟩ | q | q
  .rcases z with z | ⟨z | z,_⟩
   .exact(A.gd.own b ⟨d,q⟩).1 z
   .exact w (A.gd.dis d i b q z)
   .exact A.dis b z ⟨d,q⟩
  .rcases z with z | z
   .exact nZ b (hg b q).1 z
   .exact z.2.2.1 q
  .exact x b z q
 .rcases de b h with ⟨d,w,q⟩ | q | q
  .exact listAt b (.inl ⟨d,q⟩)
  .exact listAt b ((hg b q).1.imp (λz=>⟨i,z⟩) id)
  .exact⟨.inl f,by rw[q,av];rfl⟩
 .have key:∀ {d:Y},(G' b\/b=a)->Fs d b->d=i:=fun {d} h q=>by
   rcases h with h|h
   .rcases (hg b h).1 with y | y
    .exact A.gd.dis d i b q y
    .exact RM ⟨d,q⟩ (A.dis b y)
   .rw[h] at q;exact A.gd.dis d i a q ha
  rcases w with⟨rfl,w⟩|⟨nj,w⟩
  .rcases hk with ⟨rfl,_⟩ | ⟨nk,hk⟩
   .rfl
   .exact RM (key w hk) nk
  .rcases hk with ⟨rfl,hk⟩ | ⟨nk,hk⟩
   .exact RM (key hk w) nj
   .exact A.gd.dis d l b w hk
 .rw [bz] at e;split at e
  .rename_i hc;obtain⟨rfl,_⟩:=hc;cases e;refine⟨.ref a,⟨a,f,rfl,hl,(LstR.own hm).mpr ⟨.inl ⟨rfl,.inr rfl⟩,av⟩,?_⟩,hx,hpv⟩;exact(p.keep (stay x) (λ_ z=>z) λb o g e=>keep b o e (hg b g).2).mono λb g=>⟨.inl ⟨rfl,.inl g⟩,(hg b g).2⟩
  .rename_i hc;have hl':l≠i:=λz=>hc ⟨z,dF hi⟩;obtain⟨v,r,h⟩:=A.env l m t e;have nea:∀b,Fs l b->b≠a:=λb q z=>hl'<|A.gd.dis l i a (z ▸ q) ha;exact⟨v,((r.keep (stay λb g z=>nza<|z ▸ g) (λ_ z=>z) λb o g e=>keep b o e<|nea b g).zmono λb h=>.inl h).mono λb h=>.inr ⟨hl',h⟩,h⟩
 .rcases z with z | z
  .exact nZ b (P b h).1 z
  .exact z.2.2.2 h
 .rcases de b q with ⟨d,w,y⟩ | y | y
  .rcases (P b h).1 with z | z
   .exact w (A.gd.dis d i b y z)
   .exact A.dis b z ⟨d,y⟩
  .exact hRG b h y
  .exact(P b h).2 y
 .rcases h with h | h
  .rcases de b h with ⟨d,_,q⟩ | q | q
   .exact .inl (.inl ⟨d,q⟩)
   .exact .inl ((hg b q).1.imp (λz=>⟨i,z⟩) id)
   .exact .inl (.inl<|q ▸ I)
  .exact .inl ((P b h).1.imp (λz=>⟨i,z⟩) id)
theorem change {i:Y}{a:RL}{ts':U T}{e:U V}{m':Md}(o:m'≠.s)(A:At K ⟨sf,pv⟩ σ Z H Fs η G){r:W}(m:rd η i=O r)(g:Fs i a)(hx:∀d,sf i=O d->σ[d]?=O (O<|.ref a))(n:e.length<=LIM)(f:∀u,pv i=O u->V.ref a=u)
  (l:∀b,G' b->(Fs i b\/G b)/\b≠a) (p:RepL K (λb=>Z b\/((Fs i b\/G b)/\b≠a/\¬G' b)) H m'.kid ts' e G') {Q:Hp->Prop}
  (k:∀Z' Fs',At K ⟨sf,pv⟩ σ Z' (upd H a<|.lst e) Fs' (M.put η i (m',.lst ts')) no->Step Z H (λb=>tot Fs b\/G b) Z' (upd H a<|.lst e) (tot Fs')->Q (upd H a<|.lst e)):Q (upd H a<|.lst e):=
 qu (R:=no) o A m g hx n f l (λ_ z=>z.elim) (λ_ z=>z.elim) (p.zmono λb h=>h.imp id λq=>⟨q.1,q.2.1,q.2.2,λz=>z⟩) λZ' Fs' c s _=>k Z' Fs' c<|s.mono (λ_ z=>z) λ_ z=>.inl z
end
section
variable {K:Kk}{Wx:L2.St->VK}{sl:Cf}{sf sg:Y->j Y}{C:Call}{σ σ2:L2.St}{Z Z' Z1:Fp}{H H' H1:Hp}{Fs Fs' Fs1:Fps}{η η' η1 ηb:Env}{G G' G1 R F F':Fp}{tg is vs ls io:U Y}{pv val:Y->j V}{D:bH}
theorem mM {o:j W}{u:Unit}(h:fG o=.ok u):∃m a,o=O (m,.lst a):=by
 cases o with
 |none=>cases h
 |some w=>
  obtain⟨m,t⟩:=w;cases t with
  |lst a=>exact⟨m,a,rfl⟩
  |_=>cases h
theorem At.listAt {i b:Y}{m:Md}{f:U T}(e:sf i=O b)(A:At K ⟨sf,pv⟩ σ Z H Fs η G)(h:rd η i=O (m,.lst f)):∃a c,σ[b]?=O (O<|.ref a)/\H a=O (.lst c):=by obtain⟨v,r,d,_⟩:=A.env i m _ h;obtain⟨a,c,rfl,hx,_⟩:=bc r;exact⟨a,c,d b e,hx⟩
theorem At.ourList {i c:Y}{a:RL}{m:Md}{f:U T}(t:sf i=O c)(o:m≠.s)(k:σ[c]?=O (O<|.ref a))(A:At K ⟨sf,pv⟩ σ Z H Fs η G)(h:rd η i=O (m,.lst f)):
  ∃d,d.length<=LIM/\Fs i a/\H a=O (.lst d)/\RepL K Z H m.kid f d (λb=>Fs i b/\b≠a)/\(∀u,pv i=O u->V.ref a=u):=by
 obtain⟨v,r,n,hp⟩:=A.env i m _ h;have e:=n c t;rw[k] at e;cases e;obtain⟨b,d,e,l,g,hx,p⟩:=er o r;cases e;exact⟨d,l,g,hx,p,hp⟩
theorem wV {u w r:W}(h:jr u w=O r):∃m a,u=(m,.lst a)/\m≠.s/\a.length<LIM/\r=((m.kid.meet<|lf w.1 w.2).up,.lst<|a++[w.2]):=by
 obtain⟨m,t⟩:=u;obtain⟨n,c⟩:=w;cases m with
 |s=>cases h
 | d =>
  cases t with
  |lst a=>
   have b:(if a.length<LIM then O ((((Md.d.kid.meet (lf n c)).up,.lst (a++[c])):W)) else J)=O r:=h;split at b
   .rename_i e;cases b;exact⟨.d,a,rfl,by simp,e,rfl⟩
   .cases b
  |_=>cases h
 | o m =>
  cases t with
  |lst a=>
   have b:(if a.length<LIM then O (((((Md.o m).kid.meet (lf n c)).up,.lst (a++[c])):W)) else J)=O r:=h;split at b
   .rename_i e;cases b;exact⟨.o m,a,rfl,by simp,e,rfl⟩
   .cases b
  |_=>cases h
theorem vY {u k w r:W}(h:de u k w=O r):∃m b n a q,u=(m,.lst b)/\k=(n,.int a)/\m≠.s/\M.ixN b.length a=O q/\r=((m.kid.meet<|lf w.1 w.2).up,.lst<|b.set q w.2):=by
 obtain⟨m,t⟩:=u;obtain⟨n,d⟩:=k;cases m<;>first|(cases h;done)|(cases t<;>first|(cases h;done)|(cases d<;>try (cases h;done)))
 all_goals
  rename_i b a;have c:(M.ixN b.length a).map _=O r:=h;cases e:M.ixN b.length a with
  |none=>rw[e] at c;cases c
  |some q=>rw[e] at c;cases c;exact⟨_,b,n,a,q,rfl,rfl,by simp,e,rfl⟩
theorem uz {a:RL}{m:Md}{g:U T}{i:U V}{w:W}{y:V}{c:Fp}(l:∀b,c b->b≠a)(n:∀b,G b->b≠a)(d:∀b,c b->¬G b)(p:RepL K Z H m g i c)(r:Rep K Z H w.1 w.2 y G):
  ∃G',(∀b,G' b->(c b\/G b)/\b≠a)/\RepL K (λb=>Z b\/((c b\/G b)/\b≠a/\¬G' b)) H (m.meet<|lf w.1 w.2) (g++[w.2]) (i++[y]) G':=by
 obtain⟨G',e,k⟩:=mL (G:=λb=>c b\/G b) (λ_ z=>.inl z) (λ_ z=>.inr z) d p<|RepL.one r.lf;have f:∀b,(c b\/G b)->b≠a:=λb h=>h.elim (l b)<|n b;exact⟨G',λb h=>⟨e b h,f b<|e b h⟩,k.zmono λb h=>h.imp id λq=>⟨q.1,f b q.1,q.2⟩⟩
theorem D6 {x:X}{i d:Y}{e:E}(n:sf i=O d)(D:bH)(σ:L2.St)(H:Hp)(h:wS K Wx sf io C (.app x i e) D σ H):
  ∃a l,σ[d]?=O (O<|.ref a)/\H a=O (.lst l)/\wE K sf C e σ H λy H1=>∃l,H1 a=O (.lst l)/\l.length<sizeLine/\D.nx σ (upd H1 a<|.lst<|l++[y]):=by
 obtain⟨pv,Z,Fs,η,N,A,f⟩:=h;obtain⟨u,h0,h1⟩:=bq<|show Fin K Wx ⟨sf,pv⟩ Z H (tot Fs) D (Fl.of η (fG<|rd η i)<|uA (evX C x e) η<|uC i) from f;obtain⟨m0,t0,t⟩:=mM h0;obtain⟨a,L,v,ha⟩:=A.listAt n t;obtain⟨⟨w,η1⟩,h2,h3⟩:=bq<|show Fin K Wx ⟨sf,pv⟩ Z H (tot Fs) D (Fl.of η (evX C x e η)<|uC i) from h1;obtain⟨η2,g,h5⟩:=eI<|show Fin K Wx ⟨sf,pv⟩ Z H (tot Fs) D (nxO η1<|((rd η1 i).bind λu=>jr u w).map λu=>M.put η1 i u) from h3;refine⟨a,L,v,ha,ku (sl:=⟨sf,pv⟩) A h2 λy Z' H' Fs' G c r s=>?_⟩;cases e1:rd η1 i with
 |none=>rw[e1] at g;cases g
 | some u1 =>
  rw[e1] at g;cases e2:jr u1 w with
  |none=>rw[show(O u1).bind (λu=>jr u w)=jr u1 w from rfl,e2] at g;cases g
  |some r1=>rw[show(O u1).bind (λu=>jr u w)=jr u1 w from rfl,e2] at g;cases g;obtain⟨m,ts,rfl,hm,hlen,rfl⟩:=wV e2;obtain⟨l,hl,Q,hx,p,I⟩:=c.ourList n hm v e1;have e3:=p.length;obtain⟨G',P,g2⟩:=uz (a:=a) (λb h=>h.2) (λb h z=>c.dis b h ⟨i,z ▸ Q⟩) (λb h q=>c.dis b q ⟨i,h.1⟩) p r;refine⟨l,hx,fV hl,?_⟩;refine change (K:=K) (m':=(m.kid.meet<|lf w.1 w.2).up) (eC _) c e1 Q (λk hk=>by rw[show sf i=O k from hk] at n;cases n;exact v) (by rw[KJ,e3,Lf];lia) I (λb h=>⟨(P b h).1.imp Nd id,(P b h).2⟩) (ts':=ts++[w.2]) (by rw[fP];exact g2.zmono λb h=>h.imp id λq=>⟨q.1.imp Nd id,q.2⟩) λZ2 o B2 s2=>h5 σ Z2 _ o B2<|s.trans s2
theorem RepL.setAt:∀{k:U T} {f:U V} {A0 G0 G:Fp} {q:Y} {t:T} {y:V} {m:Md},(∀b,A0 b->G b)->(∀b,G0 b->G b)->(∀b,A0 b->¬G0 b)->RepL K Z H m k f A0->Rep K Z H m t y G0->RepL K Z H m (k.set q t) (f.set q y) G
|[],f,A0,G0,G,q,t,y,m,i,l,d,h,r=>by rw[show f=[] from h];exact rfl
|u::k,f,A0,G0,G,0,t,y,m,i,l,d,⟨x,s,A,c,e,o,g,v,p,q⟩,r=>by rw[e];exact⟨y,s,G0,c,rfl,l,λa h=>i a<|g a h,λa h q=>d a (g a q) h,r,q⟩
|u::k,f,A0,G0,G,n+1,t,y,m,i,l,d,⟨x,s,A,c,e,o,g,v,p,q⟩,r=>by rw[e];refine⟨x,s.set n y,A,λa=>c a\/G0 a,rfl,λa h=>i a<|o a h,λa h=>h.elim (λz=>i a<|g a z)<|l a,λa h q=>q.elim (v a h)<|d a<|o a h,p,?_⟩;exact RepL.setAt (λ_ z=>.inl z) (λ_ z=>.inr z) (λb h=>d b<|g b h) q r
theorem gN (vs:U Y)(η:Env):Nn η (M.share vs η):=λi e=>by
 rw[iR];split
 .rw[e];rfl
 .exact e
theorem uH {x:X}{e:E}{w:W}(h:evX C x e η=.ok (w,η')):Nn η η':=by
 cases x with
 |q vs ls=>
  obtain⟨⟨u,b⟩,c,a⟩:=aa<|show(evE C e<|eK vs ls η).bind (kX vs η)=_ from h;cases a;show Nn η<|after (M.lf u.1 u.2) vs η;cases f:M.lf u.1 u.2 with
  |d=>intro i e;exact e
  |s=>exact gN vs η
  |o m=>exact gN vs η
 |l vs=>exact(gN vs η).trans<|aG e h
theorem yZ {x:X}{i d:Y}{k e:E}(I:sf i=O d)(D:bH)(σ:L2.St)(H:Hp)(h:wS K Wx sf io C (.setI x i k e) D σ H):
  wE K sf C e σ H λy H1=>lQ d σ H1 λo H1=>wE K sf C k σ H1 λz H2=>∃a L n q,o=.ref a/\z=.int n/\H2 a=O (.lst L)/\L2.ixN L.length n=O q/\D.nx σ (upd H2 a<|.lst<|L.set q y):=by
 obtain⟨pv,Z,Fs,η,N,A,f⟩:=h;obtain⟨⟨w,η1⟩,h2,h3⟩:=bq<|show Fin K Wx ⟨sf,pv⟩ Z H (tot Fs) D (Fl.of η (evX C x e η)<|AX i (evX C x k) η) from f;obtain⟨⟨v,g⟩,h6,h7⟩:=bq<|show Fin K Wx ⟨sf,pv⟩ Z H (tot Fs) D (Fl.of η (evX C x k η1)<|xk i w) from h3;obtain⟨η3,t,h5⟩:=eI<|show Fin K Wx ⟨sf,pv⟩ Z H (tot Fs) D (nxO g<|((rd g i).bind λu=>de u v w).map λu=>M.put g i u) from h7;refine ku (sl:=⟨sf,pv⟩) A h2 λy Z' H' Fs' G c r s=>?_;cases e1:rd g i with
 |none=>rw[e1] at t;cases t
 | some u1 =>
  rw[e1] at t;cases e2:de u1 v w with
  |none=>rw[show(O u1).bind (λu=>de u v w)=de u1 v w from rfl,e2] at t;cases t
  | some r1 =>
   rw[show(O u1).bind (λu=>de u v w)=de u1 v w from rfl,e2] at t;cases t;obtain⟨m,ts,n,jj,q,rfl,rfl,hm,hq,rfl⟩:=vY e2;have n1:rd η1 i≠none:=λz=>by rw[uH h6 i z] at e1;cases e1
   cases e3:rd η1 i with
   |none=>exact RM e3 n1
   |some u3=>
    obtain⟨v3,r3,l3,p3⟩:=c.env i u3.1 u3.2 e3;refine⟨v3,l3 d I,ku (sl:=⟨sf,pv⟩) c.bare h6 λz Z2 H2 Fs2 G2 B2 rz s2=>?_⟩;obtain⟨B3,s3,d3⟩:=c.frame B2 s2;have r':=r.frame c.gd.own s2 c.dis;have P:=B3.mono (G':=G) λ_ z=>.inl z;obtain⟨v4,r4,l4,p4⟩:=P.env i m _ e1;have hv:v3=v4:=by have e5:=l3 d I;have e6:=l4 d I;rw[e5] at e6;cases e6;rfl
    subst hv;obtain⟨a,L,rfl,hl,hf,hx,p⟩:=er hm r4;have e7:=p.length;obtain⟨A1,Q,a2⟩:=RepL.weak (dh m.kid<|lf w.1 w.2).1 p;obtain⟨A2,b1,b2⟩:=Rep.weak (dh m.kid<|lf w.1 w.2).2 r'.lf;have l:∀b,(Fs2 i b/\b≠a)->¬G b:=λb h q=>P.dis b q ⟨i,h.1⟩;have hG:∀b,G b->b≠a:=λb h z=>P.dis b h ⟨i,z ▸ hf⟩;refine⟨a,L,jj,q,rfl,show z=_ from rz,hx,by rw[e7];exact hq,?_⟩;refine change (K:=K) (G':=λb=>A1 b\/A2 b) (m':=(m.kid.meet<|lf w.1 w.2).up) (eC _) P e1 hf (λk hk=>by rw[show sf i=O k from hk] at I;cases I;exact l3 _ hk) (by rw[KZ];exact hl) p4 (λb h=>h.elim (λz=>⟨.inl (Q b z).1,(Q b z).2⟩) λz=>⟨.inr<|b1 b z,hG b<|b1 b z⟩) (ts':=ts.set q w.2) ?_ λZ5 Fs5 B5 s5=>h5 σ Z5 _ Fs5 B5<|(s.trans<|s3.mono (λ_ z=>z) λb h=>h.imp id .inl).trans s5;rw[fP];refine RepL.setAt (A0:=A1) (G0:=A2) (λ_ z=>.inl z) (λ_ z=>.inr z) (λb h q=>l b (Q b h)<|b1 b q) (a2.zmono λb h=>?_)<|b2.zmono λb h=>?_
    .exact h.imp id λq=>⟨.inl q.1.1,q.1.2,λz=>z.elim q.2 λz=>l b q.1<|b1 b z⟩
    .exact h.imp id λq=>⟨.inr q.1,hG b q.1,λz=>z.elim (λz=>l b (Q b z) q.1) q.2⟩
theorem RepL.splitA {m:Md}:∀{l i:U T} {g:U V} {G:Fp},RepL K Z H m (l++i) g G->∃f k G1 c,g=f++k/\(∀a,G1 a->G a)/\(∀a,c a->G a)/\(∀a,G1 a->¬c a)/\RepL K Z H m l f G1/\RepL K Z H m i k c
|[],i,g,G,h=>⟨[],g,no,G,rfl,λ_ z=>z.elim,λ_ z=>z,λ_ z=>z.elim,rfl,h⟩
|t::l,i,g,G,⟨x,r,A,b,e,w,s,u,p,q⟩=>by obtain⟨f,k,G1,c,v,n,o,d,I,L⟩:=RepL.splitA q;refine⟨x::f,k,λa=>A a\/G1 a,c,by rw[e,v];rfl,λa h=>h.elim (w a) λz=>s a<|n a z,λa h=>s a<|o a h,λa h z=>h.elim (λy=>u a y<|o a z) λy=>d a y z,⟨x,f,A,G1,rfl,λ_ z=>.inl z,λ_ z=>.inr z,λa h z=>u a h<|n a z,p,I⟩,L⟩
theorem tJ {u:W}{g:U W}{r:W×W}(h:kY u g=O r):∃m a,u=(m,.lst a)/\m≠.s/\((g=[]/\∃t,a.getLast?=O t/\r=((m.kid,t),(m,.lst a.dropLast)))\/(∃n t k,g=[(n,.int 0)]/\a=t::k/\r=((m.kid,t),(m,.lst k)))):=by
 obtain⟨m,t⟩:=u
 have i:∀m:Md,m≠.s->kY (m,t) g=O r->∃f a,(m,t)=(f,.lst a)/\f≠.s/\((g=[]/\∃t,a.getLast?=O t/\r=((f.kid,t),(f,.lst a.dropLast)))\/(∃n t k,g=[(n,.int 0)]/\a=t::k/\r=((f.kid,t),(f,.lst k)))):=λm v h=>by
  unfold kY at h;split at h
  .cases h
  .rename_i w c l b p;cases b;cases e:c.getLast? with
   |none=>rw[e] at h;cases h
   |some t=>rw[e] at h;cases h;exact⟨_,c,rfl,v,.inl ⟨rfl,t,e,rfl⟩⟩
  .rename_i w y c x l b p;cases b;cases h;exact⟨_,_,rfl,v,.inr ⟨_,_,_,rfl,rfl,rfl⟩⟩
  .cases h
 cases m with
 |s=>cases h
 |d=>exact i .d (by simp) h
 |o m=>exact i (.o m) (by simp) h
theorem yr {i f:Y}(hs:sf i=O f)(σ:L2.St)(H:Hp)(Q:VK)(h:wE K sf C (.pop i []) σ H Q):∃a l y,σ[f]?=O (O<|.ref a)/\H a=O (.lst l)/\l[l.length-1]?=O y/\Q y (upd H a<|.lst l.dropLast):=by
 obtain⟨pv,Z,Fs,η,w,η',A,ev,k⟩:=h;obtain⟨_,_,h0⟩:=aa<|show(fG<|rd η i).bind (mn (evL C []) η<|qO i)=_ from ev;obtain⟨r,h3,h4⟩:=aa<|show(ofO<|(rd η i).bind λw=>kY w []).bind (λr=>.ok (r.1,M.put η i r.2))=_ from h0;cases h4;have x:=bZ h3;cases e1:rd η i with
 |none=>rw[e1] at x;cases x
 | some u =>
  rw[e1] at x;obtain⟨m,L,rfl,hm,⟨_,t,I,rfl⟩|⟨n,t,us,e,_⟩⟩:=tJ<|show kY u []=O r from x
  .obtain ⟨v,r4,l4,p4⟩:=A.env i m _ e1;obtain⟨a,l,rfl,hl,hf,hx,p⟩:=er hm r4
   have N:L=L.dropLast++[t]:=by
    have g:L≠[]:=λz=>by rw[z] at I;cases I
    have:=List.dropLast_concat_getLast g;rw[Ra g] at I;cases I;exact this.symm
   rw[N] at p;obtain⟨o,ys1,G1,G2,rfl,g1,g2,d,p1,p2⟩:=RepL.splitA p;obtain⟨y,r',A1,A2,e,a1,_,_,ry,q⟩:=p2;obtain rfl:r'=[]:=q;subst e;have ry':=ry.mono a1;refine⟨a,o++[y],y,l4 f hs,hx,by simp,?_⟩;rw[List.dropLast_concat];have P:o.length<=LIM:=by rw[KJ] at hl;lia
   refine qu (K:=K) (G':=G1) (R:=G2) (Q:=λH'=>Q y H') hm A e1 hf (λk hk=>l4 k hk) P p4 (λb h=>⟨.inl (g1 b h).1,(g1 b h).2⟩) (λb h=>⟨.inl (g2 b h).1,(g2 b h).2⟩) (λb h z=>d b z h) (ts':=L.dropLast) (p1.zmono λb h=>.inl h) λZ' Fs' c s tr=>?_;exact k y Z' _ Fs' G2 c (tr<|ry'.zmono λb h=>.inl h)<|s.mono (λb h=>h.elim id λz=>z.elim) λ_ z=>z
  .cases e
end
section
variable {K:Kk}{Wx:L2.St->VK}{sl:Cf}{sf sg:Y->j Y}{C:Call}{σ σ2:L2.St}{Z Z' Z1:Fp}{H H' H1:Hp}{Fs Fs' Fs1:Fps}{η η' η1 ηb:Env}{G G' G1 R F F':Fp}{tg is vs ls io:U Y}{pv val:Y->j V}{D:bH}
def gF (K:Kk):U Y->TG
|[a]=>dG a
|[a,l]=>Dn K 2<|nF (dG a)<|nF (dG l) EA
|_=>λ_ _ _ _=>RX
theorem vJ {fl:Fl}{g:Env->Fl}(f:Fin K Wx sl Z H F D<|Fl.turn fl g):(∃η',fl=.nx η'/\Fin K Wx sl Z H F D (g η'))\/(∃η',fl=.bk η'/\Fin K Wx sl Z H F D (.nx η'))\/(∃w η',fl=.rt w η'/\Fin K Wx sl Z H F D (.rt w η'))\/(∃t η',fl=.ex t η'/\Fin K Wx sl Z H F D (.ex t η')):=by
 cases fl with
 |nx η=>exact .inl ⟨η,rfl,f⟩
 |bk η=>exact .inr<|.inl ⟨η,rfl,f⟩
 |rt w η=>exact .inr<|.inr<|.inl ⟨w,η,rfl,f⟩
 |ex t η=>exact .inr<|.inr<|.inr ⟨t,η,rfl,f⟩
 |no=>exact f.elim
theorem iS {fl:Fl}{g:Env->Fl}{N:L2.St->Hp->Prop}(f:Fin K Wx sl Z H F D<|Fl.turn fl g)(b:∀η' a Z' H' Fs',fl=.nx η'->Fin K Wx sl Z H F D (g η')->At K sl a Z' H' Fs' η' no->Step Z H F Z' H' (tot Fs')->N a H'):Fin K Wx sl Z H F {D with nx:=N,ct:=N,bk:=D.nx} fl:=by
 rcases vJ f with⟨η',rfl,f⟩|⟨η',rfl,f⟩|⟨w,η',rfl,f⟩|⟨t,η',rfl,f⟩
 .exactλa Z' H' Fs' A s=>b η' a Z' H' Fs' rfl f A s
 .exact f
 .exact f
 .exact f
theorem mO {n i:Y}{c:It}{ts:U<|U W}{ws:U W}{s:U Y}{x:V}{Q:L2.St->Hp->Prop}(hn:tg.length=n)(nd:tg.Nodup)(N:wo sf io pv)(g:∀t∈tg,t ∉ io)(e:tg.map sf=s.map O)(hz:∀a,Z1 a->Z a)(st:Stay Z1 H1 H)(o:Yld K c Z1 H1 ts n)(A:At K ⟨sf,pv⟩ σ Z H Fs η no)
  (P:ts[i]?=O ws) (hb:bA tg ws η=O ηb) (y:c.yld i H x H') (k:∀σ2 I l,At K ⟨sf,pv⟩ σ2 Z I l ηb no->Step Z H (tot Fs) Z I (tot l)->Q σ2 I):gF K s x σ H' Q:=by
 have hi:i<ts.length:=(LJ.mp P).1
 match n,o with
 | 1,o =>
  obtain⟨e0,w,f,r⟩:=o H i x H' st hi y;rw[e0];rw[P] at f;cases f
  match tg,hn,s,e with
  |[t],_,[d],e=>
   cases hb;have L:sf t=O d:=by simpa using e
   exact k _ H _ (At.set N (g t<|by simp) L A<|r.zmono hz)<|(Step.refl _ _ _).mono (λ_ z=>z) λa h=>(cf h).elim id λz=>z.elim
  |[t],_,[],e=>simp at e
  |[t],_,_::_::_,e=>simp at e
 | 2,o =>
  obtain⟨p,y1,v,u,w,rfl,sm,hq,f,r1,r2⟩:=o H i x H' st hi y;rw[P] at f;cases f
  match tg,hn,s,e with
  |[t,m],_,[d,j'],e=>
   cases hb;have L:sf t=O d:=by simp at e;exact e.1
   have M:sf m=O j':=by simp at e;exact e.2
   have s0:Step Z H no Z H' no:=hW sm;obtain⟨A1,s1⟩:=A.op cI s0;have sn:Stay Z H H':=mK sm;have r1':Rep K Z H' u.1 u.2 y1 no:=(r1.zmono hz).keep sn (λ_ z=>z) λ_ _ z=>z.elim;have r2':Rep K Z H' w.1 w.2 v no:=(r2.zmono hz).keep sn (λ_ z=>z) λ_ _ z=>z.elim;have A2:=At.set N (g t<|by simp) L A1 r1';have A3:=At.set N (g m<|by simp) M A2 r2';refine⟨p,[y1,v],rfl,hq,rfl,y1,[v],rfl,v,[],rfl,rfl,k _ _ _ A3<|s1.mono (λa h=>h.elim id λz=>z.elim) λa h=>?_⟩;rcases cf h with h|h
   .exact .inl ((cf h).elim id λz=>z.elim)
   .exact h.elim
  |[t,m],_,[],e=>simp at e
  |[t,m],_,[_],e=>simp at e
  |[t,m],_,_::_::_::_,e=>simp at e
theorem vP {n:Y}{k:Ik}{v:U E}{js:U Y}{e:U S}(hn:tg.length=n)(nd:tg.Nodup)(hio:∀t∈tg,t ∉ io)(hjs:tg.map sf=js.map O)(D:bH)(σ:L2.St)(H:Hp)(h:wS K Wx sf io C (.forS vs ls k v tg e) D σ H):
  Eb (wI K sf C n k v) (gF K js) (wSs K Wx sf io C e) D σ H:=by
 obtain⟨pv,Z,Fs,η,N,A,f⟩:=h;obtain⟨⟨ws,η2⟩,h1,h2⟩:=bq<|show Fin K Wx ⟨sf,pv⟩ Z H (tot Fs) D (Fl.of η (evL C v<|eK vs ls η)<|yk vs k tg (evSs C e) η) from f;obtain⟨⟨g,η3⟩,h3,h4⟩:=bq<|show Fin K Wx ⟨sf,pv⟩ Z H (tot Fs) D (Fl.of η (ret (M.share vs η)<|bN k ws)<|lY tg<|evSs C e) from h2;obtain⟨ts',ht,e3⟩:=aF h3;have e4:g=ts':=RY Oa e3;have e5:η3=M.share vs η:=RY Me e3;subst e4 e5;have h4':Fin K Wx ⟨sf,pv⟩ Z H (tot Fs) D (aS tg (evSs C e) g (M.share vs η)):=h4;refine⟨pv,_,uv,_,ws,η2,g,A.quiet (vs:=vs) (ls:=ls),h1,ht,λd Z1 H1 Fs1 c s wk yl=>?_⟩;obtain⟨B1,s1⟩:=eR (G:=no) A cI c.gd.zal (s.mono (F2:=λa=>tot Fs1 a\/no a) (λ_ z=>z) λa h=>h.elim id λz=>z.elim) λa h=>ki h;obtain⟨B2,s2⟩:=B1.share (vs:=vs);have s3:=(s2 s1).mono (F2:=tot<|dJ Fs vs) (λ_ z=>z) λ_ z=>.inl z;have zz:∀a,Z1 a->((Z1 a/\¬dq Fs vs a)\/dq Fs vs a):=λa h=>(Qj<|dq Fs vs a).elim .inr λq=>.inl ⟨h,q⟩;refine⟨λi m w H'=>m=g.length-i/\i<=g.length/\∃r l p,At K ⟨sf,pv⟩ w r H' l p no/\Step (λa=>(Z1 a/\¬dq Fs vs a)\/dq Fs vs a) H1 (tot<|dJ Fs vs) r H' (tot l)/\Fin K Wx ⟨sf,pv⟩ r H' (tot l) D (aS tg (evSs C e) (g.drop i) p),⟨g.length,by simp,K4 _,_,_,_,B2,Step.refl _ _ _,h4'.step s3⟩,?_⟩;rintro i m σi I ⟨rfl,hi,r,l,p,Ai,si,L⟩;have st:Stay Z1 H1 I:=by have:=B2.gd.own.stay si;exact⟨λa o h=>this.1 a o<|zz a h,this.2⟩
 by_cases u:i<g.length
 .right;refine⟨wk.go I i st u,_,λw H' P=>⟨g.length-(i+1),by lia,P⟩,λx H' y=>?_⟩;have P:g[i]?=O g[i]:=by simp[u]
  rw[eB P] at L;obtain⟨ηb,hb,fb⟩:=bq<|show Fin K Wx ⟨sf,pv⟩ r I (tot l) D (Fl.of p (ofO<|bA tg g[i] p) λη1=>Fl.turn (evSs C e η1)<|aS tg (evSs C e)<|g.drop<|i+1) from L;refine mO hn nd N hio hjs (λa h=>si.zm a<|zz a h) st yl Ai P (bZ hb) y λσ2 H2 Q A2 t2=>?_;refine⟨pv,r,Q,ηb,N,A2,iS (fb.step t2) λη' w Z' H' Fs' _ f' A' s'=>⟨rfl,u,Z',Fs',η',A',(si.trans t2).trans s',f'.step s'⟩⟩
 .left;have hi':i=g.length:=by lia
  subst hi';rw[NV] at L;exact⟨wk.stop I _ st<|Kt _,L σi r I l Ai<|Step.refl _ _ _⟩
theorem B8 {x:X}{c:E}{d:U S}(D:bH)(σ:L2.St)(H:Hp)(h:wS K Wx sf io C (.whl x c d) D σ H):u6 (wT K sf C c) (wSs K Wx sf io C d) D σ H:=by
 obtain⟨pv,Z,Fs,η,N,A,f⟩:=h;have k:Fin K Wx ⟨sf,pv⟩ Z H (tot Fs) D (jf (evT C x c) (evSs C d) jb η):=f;refine⟨λm g H'=>∃Z' Fs' η',At K ⟨sf,pv⟩ g Z' H' Fs' η' no/\Fin K Wx ⟨sf,pv⟩ Z' H' (tot Fs') D (jf (evT C x c) (evSs C d) m η'),⟨jb,Z,Fs,η,A,k⟩,?_⟩;rintro m l H1 ⟨Z1,Fs1,η1,t,o⟩;cases m with
 |zero=>exact o.elim
 | succ m =>
  obtain⟨⟨b,e⟩,v,p⟩:=bq<|show Fin K Wx ⟨sf,pv⟩ Z1 H1 (tot Fs1) D (Fl.of η1 (evT C x c η1)<|kIf (Bu (evSs C d)<|jf (evT C x c) (evSs C d) m) .nx) from o;refine Gr (sl:=⟨sf,pv⟩) t v λn u i a s=>?_;cases b with
  |true=>rw[RJ rfl];refine⟨_,λg H' w=>⟨m,MG m,w⟩,pv,n,i,e,N,a,iS (Fin.step s<|show Fin K Wx ⟨sf,pv⟩ Z1 H1 (tot Fs1) D (Fl.turn (evSs C d e)<|jf (evT C x c) (evSs C d) m) from p) λη' g Z' H' Fs' _ k r y=>⟨Z',Fs',η',r,k.step y⟩⟩
  |false=>rw[RK KH];exact(show Fin K Wx ⟨sf,pv⟩ Z1 H1 (tot Fs1) D (.nx e) from p) l n u i a s
end
end MR

namespace MR
open PySem PySem.Spec PyProof.Rows L2 L3
section
variable {X:Cx}{sf sg:Y->j Y}{C:M.Call}{pos p2:Pos}{ea eb ec:RT}{a b c:M.E}{h:RN}{n:Y}
theorem ak {e:RT}{t g:TE}(h:PE X e t)(i:∀f H Q,g f H Q->t f H Q):PE X e g:=λd s f H Q I q=>h d s f H Q I<|i f H Q q
theorem vZ {e:RT}{t g:TT}(h:PT X e t)(i:∀f H Q,g f H Q->t f H Q):PT X e g:=λd s f H Q I q=>h d s f H Q I<|i f H Q q
theorem Br {e:RT}{t i:TT}(h:PW X e t)(k:∀g H Q,i g H Q->t g H Q):PW X e i:=λd f s g H Q I q=>h d f s g H Q I<|k g H Q q
theorem mZ {f:U RT}{t g:TA}(h:PA X f t)(i:∀e H Q,g e H Q->t e H Q):PA X f g:=λpos d s e H Q I q=>h pos d s e H Q I<|i e H Q q
theorem b6 {s:R0}{t f:TS}(h:PS X s t)(g:∀D e H,f D e H->t D e H):PS X s f:=λd s e H D I q=>h d s e H D I<|g D e H q
theorem oM {s:U R0}{t f:TS}(h:PSs X s t)(g:∀D e H,f D e H->t D e H):PSs X s f:=λd s e H D I q=>h d s e H D I<|g D e H q
theorem jF {i e:RT}{t g:TI}(h:PI X i e t)(k:∀f H R,g f H R->t f H R):PI X i e g:=λd s f H R I q=>h d s f H R I<|k f H R q
theorem Ft {g e:RT}{t i:TI}(h:PI X g e t)(k:PI X g e i):PI X g e (λf H R=>t f H R\/i f H R):=λd s f H R I q=>q.elim (h d s f H R I)<|k d s f H R I
abbrev SE (X:Cx)(sf:Y->j Y)(C:M.Call)(d:RT)(e:M.E):Prop:=PE X d<|wE X.K sf C e
abbrev SB (X:Cx)(sf:Y->j Y)(C:M.Call)(d:RT)(e:M.E):Prop:=PT X d<|wT X.K sf C e
abbrev SL (X:Cx)(sf:Y->j Y)(C:M.Call)(e:U RT)(d:U M.E):Prop:=PA X e<|wL X.K sf C d
abbrev SA (X:Cx)(sf:Y->j Y)(C:M.Call)(e:U RT)(d:U M.E):Prop:=PA X e<|wA X.K sf C d
abbrev SS (X:Cx)(sf:Y->j Y)(d:U Y)(C:M.Call)(e:R0)(s:M.S):Prop:=PS X e<|wS X.K (xw X) sf d C s
abbrev SSs (X:Cx)(sf:Y->j Y)(d:U Y)(C:M.Call)(e:U R0)(s:U M.S):Prop:=PSs X e<|wSs X.K (xw X) sf d C s
theorem sV (d:Y){i:Y}{x:Str}(k:sf i=O d:=by rfl)(f:X.N[d]?=O x:=by rfl)(l:Vis X.env.scope x:=by first|exact KL rfl|exact Kx (KL rfl)|exact Kx<|Kx rfl)(g:(x==("__debug__":Str))=false:=by decide)
  (e:(x==("__classdict__":Str))=false:=by decide):SE X sf C (.Name x pos) (.var i):=ak (br f l g e)<|C0 k
theorem sM (d:Y){i:Y}{x:Str}(k:sf i=O d:=by rfl)(f:X.N[d]?=O x:=by rfl)(l:Vis X.env.scope x:=by first|exact KL rfl|exact Kx (KL rfl)|exact Kx<|Kx rfl)(g:(x==("__debug__":Str))=false:=by decide)
  (e:(x==("__classdict__":Str))=false:=by decide):SE X sf C (.Name x pos) (.mv i):=ak (br f l g e)<|CB (λ_=>rfl) k
theorem sI {i:Int}{k:Y}:SE X sf C (.Constant (.int i) k pos) (.cst<|.int i):=ak tX<|kS λ{_ _}=>rfl
theorem sO {i:RN}{k:Y}:SE X sf C (.Constant (.bool i) k pos) (.cst<|.bl i):=ak HL<|kS λ{_ _}=>rfl
theorem sN {k:Y}:SE X sf C (.Constant .none k pos) (.cst .non):=ak El<|kS λ{_ _}=>rfl
theorem Ay (s:R1)(f:s.length<=1000):M.sOk (Str.ofString s)=true:=by
 unfold M.sOk;rw[Str.ofString_eq_toList,KS];refine⟨?_,RI ?_⟩
 .rw [Pp];intro x hx;rw[List.mem_toArray,KG] at hx;obtain⟨c,_,rfl⟩:=hx;refine RI ?_;have:=c.valid;have d:c.toNat<0x110000:=by have e:=c.valid;unfold UInt32.isValidChar Nat.isValidChar at e;show c.val.toNat<_;lia
  exact d
 .rw [KU,Kr,String.length_toList];exact K0 f<|by decide
theorem sS {s:R1}{k:Y}(d:s.length<=1000:=by decide):SE X sf C (.Constant (.str<|Str.ofString s) k pos) (.cst<|.str<|Str.ofString s):=ak DX<|kS λ{_ _}=>⟨rfl,Ay s d⟩
theorem sl0:SL X sf C [] []:=mZ cp DN
theorem slc {d:U RT}{bs:U M.E}(e:SE X sf C ea a)(f:SL X sf C d bs)(g:Kl (ea::d) X.env=(Kg,RV ea X.env)::Kl d X.env:=by rfl):SL X sf C (ea::d) (a::bs):=mZ (aT e f g) AV
theorem sT {d:U RT}{bs:U M.E}{f:Y}(h:SL X sf C d bs)(e:bs.length<=M.LIM:=by decide):SE X sf C (.Tuple d f pos) (.tup bs):=ak (uI h)<|BK e
theorem sLs {d:U RT}{bs:U M.E}(e:SL X sf C d bs)(f:bs.length<=M.LIM:=by decide):SE X sf C (.List d pos) (.lst h bs):=ak (Cm e)<|DJ f
theorem cD (o:SE X sf C ea a)(p:SE X sf C eb b):SE X sf C (.BinOp ea .Add eb pos) (.op .add h [a,b]):=
 ak (gj (op_add.or<|op_add_str.or<|op_cat.or ya) o p) (aL (yg (BC X.K) λ{Z H G Q a b w x A} g i l d u r k=>by
  obtain⟨y,e,f⟩:=r;refine⟨a,b,w,x,rfl,rfl,g,i,l,bO d,λv z same t=>mW (m:=.s) u e ?_ f k same t⟩;rw[KJ];exact d))
theorem jm (d:SE X sf C ea a)(e:SE X sf C eb b):SE X sf C (.BinOp ea .Sub eb pos) (.op .sub h [a,b]):=ak (gj D2 d e)<|aL xO
theorem k7 (d:SE X sf C ea a)(e:SE X sf C eb b):SE X sf C (.BinOp ea .Mult eb pos) (.op .mul h [a,b]):=ak (gj (op_mul.or CI) d e)<|aL zS
theorem wO (d:SE X sf C ea a)(e:SE X sf C eb b):SE X sf C (.BinOp ea .FloorDiv eb pos) (.op .fdiv h [a,b]):=ak (gj xW d e)<|aL uo
theorem IY (d:SE X sf C ea a)(e:SE X sf C eb b):SE X sf C (.BinOp ea .Mod eb pos) (.op .mod h [a,b]):=ak (gj Dt d e)<|aL AG
theorem IV (d:SE X sf C ea a)(e:SE X sf C eb b):SE X sf C (.BinOp ea .Pow eb pos) (.op .pow h [a,b]):=ak (gj C5 d e)<|aL yb
theorem mz (d:SE X sf C ea a):SE X sf C (.UnaryOp .USub ea pos) (.op .neg h [a]):=ak (FA C7 d)<|DH zT
theorem sLt (d:SE X sf C ea a)(e:SE X sf C eb b):SE X sf C (.Compare ea [.Lt] [eb] pos) (.op .lt h [a,b]):=ak (dD xp d e<|bV _)<|aL wj
theorem sLe (d:SE X sf C ea a)(e:SE X sf C eb b):SE X sf C (.Compare ea [.LtE] [eb] pos) (.op .le h [a,b]):=ak (dD sW d e<|bV _)<|aL vi
theorem sGt (d:SE X sf C ea a)(e:SE X sf C eb b):SE X sf C (.Compare ea [.Gt] [eb] pos) (.op .gt h [a,b]):=ak (dD Bd d e<|bV _)<|aL uX
theorem sGe (d:SE X sf C ea a)(e:SE X sf C eb b):SE X sf C (.Compare ea [.GtE] [eb] pos) (.op .ge h [a,b]):=ak (dD Bf d e<|bV _)<|aL tO
theorem sIx (d:SE X sf C ea a)(e:SE X sf C eb b)(f:kh eb:=by intro _ _;rfl):SE X sf C (.Subscript ea eb pos) (.op .ix h [a,b]):=ak (Bx (ix_any.or C1) d e f)<|aL C6
mutual
def th:M.T->Th
|.non=>.non | .bl b=>.bl b | .int i=>.int i | .str x=>.str x | .tup ts=>.tup (ths ts) | .lst ts=>.lst (ths ts) | .dct _ _=>.non | .ins _ _ _=>.non | .scr _=>.non | .gone=>.non
def ths:U M.T->U Th
|[]=>[]
|t::ts=>th t::ths ts
end
mutual
theorem qr {K:Kk}{Z:Fp}{H:Hp}:∀{t:M.T} {m:M.Md} {v:V} {G:Fp} {n:Y},M.dp t<=n->n<=64->Rep K Z H m t v G->Has K H (th t) v/\(toD<|th t).canLay0=Kh/\(toD<|th t).depth<=n
|.non,_,_,_,_,_,_,r=>⟨r,rfl,K4 _⟩
|.bl _,_,_,_,_,_,_,r=>⟨r,rfl,K4 _⟩
|.int _,_,_,_,_,_,_,r=>⟨r,rfl,K4 _⟩
|.str x,_,_,_,_,_,_,r=>⟨r.1,by have h:=r.2;unfold M.sOk at h;rw[KS] at h;exact h.1,K4 _⟩
| .tup ts,m,v,G,n,hd,hn,⟨a,xs,e,q,l,r⟩=>by
 have hd':M.dps ts+1<=n:=hd
 match n,hd' with
 |n+1,hd'=>obtain⟨h1,h2,h3⟩:=iW (n:=n) (by lia) (by lia) r;exact⟨⟨a,xs,e,q,h1⟩,h2,Pt h3⟩
| .lst ts,m,v,G,n,hd,hn,⟨a,xs,e,l,q,r⟩=>by
 have hd':M.dps ts+1<=n:=hd
 match n,hd' with
 |n+1,hd'=>obtain⟨h1,h2,h3⟩:=iW (n:=n) (by lia) (by lia) r;exact⟨⟨a,xs,e,by cases m<;>exact q.2,h1⟩,h2,Pt h3⟩
|.dct _ _,_,_,_,_,hd,hn,_=>by have:1000<=64:=K0 hd hn;lia
|.ins _ _ _,_,_,_,_,hd,hn,_=>by have:1000<=64:=K0 hd hn;lia
|.gone,_,_,_,_,hd,hn,_=>by have:1000<=64:=K0 hd hn;lia
|.scr _,_,_,_,_,hd,hn,_=>by have:1000<=64:=K0 hd hn;lia
theorem iW {K:Kk}{Z:Fp}{H:Hp}:∀{ts:U M.T} {m:M.Md} {xs:U V} {G:Fp} {n:Y},M.dps ts<=n->n<=64->RepL K Z H m ts xs G->HasL K H (ths ts) xs/\PyData.canLayAll0 (gn<|ths ts)=Kh/\PyData.depthAll (gn<|ths ts)<=n
|[],_,_,_,_,_,_,r=>⟨r,rfl,K4 _⟩
| t::ts,m,xs,G,n,hd,hn,⟨x,r,G1,G2,e,_,_,_,p,q⟩=>by
 have hd':max (M.dp t) (M.dps ts)<=n:=hd;obtain⟨h1,h2,h3⟩:=qr (n:=n) (by lia) hn p;obtain⟨k1,k2,k3⟩:=iW (n:=n) (by lia) hn q;refine⟨⟨x,r,e,h1,k1⟩,?_,?_⟩
 .show ((toD<|th t).canLay0&&PyData.canLayAll0 (gn<|ths ts))=Kh;rw[h2,k2];rfl
 .show max (toD<|th t).depth (PyData.depthAll<|gn<|ths ts)<=n;lia
end
mutual
theorem oa:∀(t u:M.T),M.dp t<=64->M.dp u<=64->PyData.eqv (toD<|th t) (toD<|th u)=M.eqT t u
|.dct _ _,_,h,_=>by have:1000<=64:=h;lia
|.ins _ _ _,_,h,_=>by have:1000<=64:=h;lia
|.gone,_,h,_=>by have:1000<=64:=h;lia
|.scr _,_,h,_=>by have:1000<=64:=h;lia
|.non,u,_,h=>by cases u<;>first|rfl|(have:1000<=64:=h;lia)
|.bl a,u,_,h=>by cases u<;>first|rfl|(cases a<;>rfl)|(have:1000<=64:=h;lia)
|.int i,u,_,h=>by
 cases u with
 |bl b=>cases b<;>rfl
 |_=>first|rfl|(have:1000<=64:=h;lia)
|.str x,u,_,h=>by cases u<;>first|rfl|(have:1000<=64:=h;lia)
|.tup ts,u,h1,h=>by
 cases u with
 |tup us=>exact kP ts us (by have:M.dps ts+1<=64:=h1;lia) (by have:M.dps us+1<=64:=h;lia)
 |_=>first|rfl|(have:1000<=64:=h;lia)
|.lst ts,u,h1,h=>by
 cases u with
 |lst us=>exact kP ts us (by have:M.dps ts+1<=64:=h1;lia) (by have:M.dps us+1<=64:=h;lia)
 |_=>first|rfl|(have:1000<=64:=h;lia)
theorem kP:∀(ts us:U M.T),M.dps ts<=64->M.dps us<=64->PyData.eqvAll (gn<|ths ts) (gn<|ths us)=M.eqTs ts us
|[],[],_,_=>rfl
|[],_::_,_,_=>rfl
|_::_,[],_,_=>rfl
|t::ts,u::us,h1,h2=>by have h1':max (M.dp t) (M.dps ts)<=64:=h1;have h2':max (M.dp u) (M.dps us)<=64:=h2;show(PyData.eqv (toD<|th t) (toD<|th u)&&PyData.eqvAll (gn<|ths ts) (gn<|ths us))=(M.eqT t u&&M.eqTs ts us);rw[oa t u (by lia)<|by lia,kP ts us (by lia)<|by lia]
end
theorem lh {K:Kk}{Z:Fp}{H:Hp}{t:M.T}{m:M.Md}{v:V}{G:Fp}(g:M.dp t<=64)(r:Rep K Z H m t v G):Has K H (th t) v/\k9 (th t):=by obtain⟨d,e,f⟩:=qr g (Kt _) r;refine⟨d,?_⟩;show((toD<|th t).canLay0&&decide ((toD<|th t).depth<=64))=Kh;rw[e,RI f];rfl
theorem vS {K:Kk}:Loc K 2 .eq h λl H Q=>∀x y,l=[x,y]->∃t i,Has K H t x/\Has K H i y/\k9 t/\k9 i/\Q (.bl<|PyData.eqv (toD t)<|toD i) H:=by
 intro P w l Z H G Q F e r I za k x y hx;subst hx;obtain⟨⟨m,a⟩,⟨n,b⟩,rfl⟩:=dN r.length.symm;obtain⟨A,D,L,N,d,v,z⟩:=cc r;have g:(if decide (M.dp a<=64)&&decide (M.dp b<=64) then O ((.d,.bl (M.eqT a b)):M.W) else J)=O w:=e;split at g
 .rename_i f;rw[KS,RP,RP] at f;cases g;obtain⟨o,s⟩:=lh f.1 v;obtain⟨p,u⟩:=lh f.2 z;refine⟨th a,th b,o,p,s,u,?_⟩;rw[oa a b f.1 f.2];exact bR k
 .cases g
theorem vE {K:Kk}:Loc K 2 .ne h λl H Q=>∀x y,l=[x,y]->∃t i,Has K H t x/\Has K H i y/\k9 t/\k9 i/\Q (.bl<|!PyData.eqv (toD t) (toD i)) H:=by
 intro P w l Z H G Q F e r I za k x y hx;subst hx;obtain⟨⟨m,a⟩,⟨n,b⟩,rfl⟩:=dN r.length.symm;obtain⟨A,D,L,N,d,v,z⟩:=cc r;have g:(if decide (M.dp a<=64)&&decide (M.dp b<=64) then O ((.d,.bl (!M.eqT a b)):M.W) else J)=O w:=e;split at g
 .rename_i f;rw[KS,RP,RP] at f;cases g;obtain⟨o,s⟩:=lh f.1 v;obtain⟨p,u⟩:=lh f.2 z;refine⟨th a,th b,o,p,s,u,?_⟩;rw[oa a b f.1 f.2];exact bR k
 .cases g
theorem sEq (f:Room n X.A)(d:SE X sf C ea a)(e:SE X sf C eb b):SE X sf C (.Compare ea [.Eq] [eb] pos) (.op .eq h [a,b]):=ak (dD (qC f.units) d e<|bV _)<|aL vS
theorem sNe (f:Room n X.A)(d:SE X sf C ea a)(e:SE X sf C eb b):SE X sf C (.Compare ea [.NotEq] [eb] pos) (.op .ne h [a,b]):=ak (dD (qo f.units) d e<|bV _)<|aL vE
theorem ifN {d:Type}{b:RN}{x:j d}{y:d}(h:(if b=Kh then J else x)=O y):b=Kg/\x=O y:=by cases b<;>first|exact⟨rfl,h⟩|cases h
theorem qh {K:Kk}{Z:Fp}{H:Hp}{G:Fp}{m:M.Md}{f:U M.T}{i:U V}(lo g:j Int)(r:RepL K Z H m f i G):RepL K Z H m (M.cut f lo g) (fM i lo g) G:=by
 have e:=r.length;have k:∀n d o,HT.sIx n d o=M.sIx n d o:=λn d o=>by cases o<;>rfl
 have l:fM i lo g=(i.drop (M.sIx f.length 0 lo)).take (M.sIx f.length f.length g-M.sIx f.length 0 lo):=by unfold fM;rw[k,k,e]
 rw[l];exact(r.drop _).take _
theorem xm (g:U Int)(lo e:j Int):fM (g.map V.int) lo e=(M.cut g lo e).map V.int:=by
 have f:∀n d o,HT.sIx n d o=M.sIx n d o:=λn d o=>by cases o<;>rfl
 unfold fM M.cut;rw[f,f,Kr,Qr,Qq]
theorem Ed {f:Type}(d:U f)(lo e:j Int):(M.cut d lo e).length<=d.length:=by unfold M.cut;rw[Ms,Mg];lia
theorem uN {K:Kk}{Z:Fp}{H:Hp}{G t:Fp}{Q:VK}{m:M.Md}{a:M.T}{x:V}{w:M.W}{lo hi:j Int}(D:∀b,t b->G b)(A:Own Z H G)(F:∀a,Z a->H a≠J)(r:Rep K Z H m a x t)
  (e:(match a with | .lst i=>M.newL h m.kid (M.cut i lo hi) | .tup i=>O ((.s,.tup<|M.cut i lo hi):M.W) | .scr y=>O (.d,.lst<|(M.cut y lo hi).map M.T.int)|_=>J)=O w) (k:Out K Z H G w Q):zW K x lo hi H Q\/AK K x lo hi H Q:=by
 cases a with
 |lst i=>obtain⟨p,o,rfl,g,u,q⟩:=bc r;refine .inl ⟨p,o,rfl,.inl<|.inl g,λl f=>?_⟩;exact dR A F (K0 (cR o lo hi) u) ⟨t,D,(qh lo hi q).zmono λ_ z=>.inl z⟩ e k f
 |tup i=>obtain⟨p,o,rfl,g,u,q⟩:=dk r;cases e;refine .inr ⟨p,o,rfl,g,λv P same N=>?_⟩;exact mW (m:=.s) (G':=no) A (λ_ z=>z.elim) (K0 (cR o lo hi) u) ((RepL.sh<|qh lo hi q).zmono λb L=>L.imp id λz=>⟨D b z,λq=>q⟩) k same N
 |scr y=>obtain⟨p,rfl,I,g⟩:=r;cases e;refine .inl ⟨p,_,rfl,g.sq,λl f=>?_⟩;rw[xm];exact bK (m:=.d) (G':=no) A F (λ_ z=>z.elim) (by rw[Kr];exact K0 (Ed y lo hi) I) (fR _) (by simp) k f
 |_=>cases e
theorem Iw {p:Pos}(f:SE X sf C ea a)(g:SE X sf C eb b):SE X sf C (.Subscript ea (.Slice J (O eb) J p) pos) (.op .sl2 h [a,b]):=
 ak (nh (sl_list.or qk) f qb<|qe g) (λz H Q l=>aL (r:=λx y H Q=>∃i,y=.int i/\(zW X.K x J (O i) H Q\/AK X.K x J (O i) H Q)) (by
  intro L w M Z H G Q F e r o v k x y hx;subst hx;obtain⟨⟨m,a⟩,⟨n,b⟩,rfl⟩:=dN r.length.symm;obtain⟨A,D,u,I,d,s,t⟩:=cc r;obtain⟨i,rfl⟩:∃i,b=.int i:=by cases a<;>first|(cases e;done)|(cases b<;>first|exact⟨_,rfl⟩|(cases e;done))
  exact⟨i,t,uN (h:=h) (lo:=J) (hi:=O i) u o v s (by cases a<;>exact e) k⟩) z H Q l)
theorem JR {p:Pos}(f:SE X sf C ea a)(g:SE X sf C eb b):SE X sf C (.Subscript ea (.Slice (O eb) J J p) pos) (.op .sl1 h [a,b]):=
 ak (nh (sl_list.or qk) f (qe g) qb) (λz H Q l=>aL (r:=λx y H Q=>∃i,y=.int i/\(zW X.K x (O i) J H Q\/AK X.K x (O i) J H Q)) (by
  intro L w M Z H G Q F e r o v k x y hx;subst hx;obtain⟨⟨m,a⟩,⟨n,b⟩,rfl⟩:=dN r.length.symm;obtain⟨A,D,u,I,d,s,t⟩:=cc r;obtain⟨i,rfl⟩:∃i,b=.int i:=by cases a<;>first|(cases e;done)|(cases b<;>first|exact⟨_,rfl⟩|(cases e;done))
  exact⟨i,t,uN (h:=h) (lo:=O i) (hi:=J) u o v s (by cases a<;>exact e) k⟩) z H Q l)
theorem lJ {K:Kk}:Loc K 1 .len h λd H Q=>∃x n,d=[x]/\FD K x H n/\Q (.int n) H:=by intro l w d Z H G Q g e r i m k;obtain⟨x,n,hx,f,q⟩:=y8 (h:=h) l w d Z H G Q g e r i m k;exact⟨x,n,hx,by cases x<;>exact f,q⟩
section
variable {p:Pos}{x1:Str}
theorem bM (hm:X.mg "len"=J)(f:Gl X "len":=by rfl)(ha:SE X sf C ea a)(e:Kl [ea] X.env=(Kg,RV ea X.env)::Kl [] X.env:=by rfl)(d:(KQ pos<|Kl [] X.env).any (·.1)=false:=by rfl):SE X sf C (.Call (.Name "len" p) [ea] [] pos) (.op .len h [a]):=
 ak (bp lK f hm PR (slc ha sl0 e) (by decide) (by decide) e d) (dH lJ rfl)
theorem Ak (f:X.calm=true:=by rfl)(hm:X.mg "sum"=J)(g:Gl X "sum":=by rfl)(ha:SE X sf C ea a)(e:Kl [ea] X.env=(Kg,RV ea X.env)::Kl [] X.env:=by rfl)(d:(KQ pos<|Kl [] X.env).any (·.1)=false:=by rfl):SE X sf C (.Call (.Name "sum" p) [ea] [] pos) (.op .sum h [a]):=
 ak (bp (rQ f) g hm (by rfl) (slc ha sl0 e) (by decide) (by decide) e d) (dH Ax rfl)
theorem we (f:X.calm=true:=by rfl)(hm:X.mg "all"=J)(g:Gl X "all":=by rfl)(ha:SE X sf C ea a)(e:Kl [ea] X.env=(Kg,RV ea X.env)::Kl [] X.env:=by rfl)(d:(KQ pos<|Kl [] X.env).any (·.1)=false:=by rfl):SE X sf C (.Call (.Name "all" p) [ea] [] pos) (.op .all h [a]):=
 ak (bp (rm f) g hm (by rfl) (slc ha sl0 e) (by decide) (by decide) e d) (dH zL rfl)
theorem HH (hm:X.mg "list"=J)(f:Gl X "list":=by rfl)(ha:SE X sf C ea a)(e:Kl [ea] X.env=(Kg,RV ea X.env)::Kl [] X.env:=by rfl)(d:(KQ pos<|Kl [] X.env).any (·.1)=false:=by rfl):SE X sf C (.Call (.Name "list" p) [ea] [] pos) (.op .list h [a]):=
 ak (ef kN f hm Mw (slc ha sl0 e) (by decide) (by decide) e d) (dH ue rfl)
theorem JY (g:X.calm=true:=by rfl)(hm:X.mg "max"=J)(i:Gl X "max":=by rfl)(ha:SE X sf C ea a)(hb:SE X sf C eb b)(f:Kl [ea,eb] X.env=(Kg,RV ea X.env)::Kl [eb] X.env:=by rfl)(e:Kl [eb] X.env=(Kg,RV eb X.env)::Kl [] X.env:=by rfl)(d:(KQ pos<|Kl [eb] X.env).any (·.1)=false:=by rfl):SE X sf C (.Call (.Name "max" p) [ea,eb] [] pos) (.op .max h [a,b]):=
 ak (bp (sk g) i hm (by rfl) (slc ha (slc hb sl0 e) f) (by decide) (by decide) f d) (dH yq rfl)
theorem GW (g:X.calm=true:=by rfl)(hm:X.mg "min"=J)(i:Gl X "min":=by rfl)(ha:SE X sf C ea a)(hb:SE X sf C eb b)(f:Kl [ea,eb] X.env=(Kg,RV ea X.env)::Kl [eb] X.env:=by rfl)(e:Kl [eb] X.env=(Kg,RV eb X.env)::Kl [] X.env:=by rfl)(d:(KQ pos<|Kl [eb] X.env).any (·.1)=false:=by rfl):SE X sf C (.Call (.Name "min" p) [ea,eb] [] pos) (.op .min h [a,b]):=
 ak (bp (qQ g) i hm (by rfl) (slc ha (slc hb sl0 e) f) (by decide) (by decide) f d) (dH xB rfl)
end
theorem la {K:Kk}{x:V}{H:Hp}{k:RN}(h:TrV K x H k):vf K x H k:=by
 cases x with
 |ref p=>exact h.imp id .inl
 |byt _=>exact h.elim
 |_=>exact h
theorem tB (o:SE X sf C ea a)(p:∀e,SN ea X.env e=(do let v <- e;standAt ea.pos;Mz [v] (truthy v)):=by intro _;rfl):SB X sf C ea a:=
 vZ (ve o p) λy H Q h=>by obtain⟨u,Z,i,x,w,g,b,A,ev,t,k⟩:=h;exact⟨u,Z,i,x,w,g,A,ev,λv m l f G d r s=>⟨b,la<|fS t r,k m l f d.bare<|s.mono (λ_ z=>z) λ_ z=>.inl z⟩⟩
theorem cx (d:SB X sf C ea a):SB X sf C (.UnaryOp .Not ea pos) (.not a):=vZ (Es d) Ef
theorem GV {m:L2.St}{H:Hp}{Q:RN->Hp->Prop}(u:∀i w e,M.evE C a i=.ok (w,e)->∃b,w.2=.bl b)(h:wT X.K sf C a m H Q):A9 (wE X.K sf C a) m H Q:=by obtain⟨x,Z,o,i,w,e,b,A,ev,l,k⟩:=h;refine⟨x,Z,o,i,w,e,A,ev,λv t p f G d r s=>⟨b,?_,k t p f d.bare<|s.mono (λ_ z=>z) λ_ z=>.inl z⟩⟩;obtain⟨y,g⟩:=u _ _ _ ev;rw[g] at l r;cases l;exact r
theorem E4 {o:M.Op}(ho:∀u v w,M.oSem o h [u,v]=O w->∃b,w.2=.bl b):∀f w d,M.evE C (.op o h [a,b]) f=.ok (w,d)->∃b,w.2=.bl b:=λf w d e=>by obtain⟨r,i,k⟩:=dz e;obtain⟨u,m,l,_,e2,rfl⟩:=aH i;obtain⟨v,p,l,_,g,rfl⟩:=aH e2;cases g;exact ho u v w k
theorem dw {op:CmpOp}{r:R2}{o:M.Op}(ho:OpR X (LC op) r)(f:SE X sf C ea a)(g:SE X sf C eb b)(k:Nc op eb=Kg)(i:∀d H Q,wE X.K sf C (.op o h [a,b]) d H Q->tOp r (wE X.K sf C a) (wE X.K sf C b) d H Q)
  (e:∀u v w,M.oSem o h [u,v]=O w->∃b,w.2=.bl b):SB X sf C (.Compare ea [op] [eb] pos) (.op o h [a,b]):=
 vZ (zZ ho f g k) λd H Q l=>i d H _<|GV (E4 e) l
theorem EK {u v w:M.W}(e:M.oSem .eq h [u,v]=O w):∃b,w.2=.bl b:=by
 obtain⟨m,a⟩:=u;obtain⟨n,b⟩:=v;have f:(if decide (M.dp a<=64)&&decide (M.dp b<=64) then O ((.d,.bl (M.eqT a b)):M.W) else J)=O w:=e;split at f
 .cases f;exact⟨_,rfl⟩
 .cases f
theorem EU {u v w:M.W}(e:M.oSem .ne h [u,v]=O w):∃b,w.2=.bl b:=by
 obtain⟨m,a⟩:=u;obtain⟨n,b⟩:=v;have f:(if decide (M.dp a<=64)&&decide (M.dp b<=64) then O ((.d,.bl (!M.eqT a b)):M.W) else J)=O w:=e;split at f
 .cases f;exact⟨_,rfl⟩
 .cases f
theorem oP (d:SE X sf C ea a)(f:SE X sf C eb b):SB X sf C (.Compare ea [.Lt] [eb] pos) (.op .lt h [a,b]):=dw xp d f (bV _) (aL wj) λu v w e=>by obtain⟨_,_,_,_,_,_,rfl⟩:=oE e;exact⟨_,rfl⟩
theorem Gb (d:SE X sf C ea a)(f:SE X sf C eb b):SB X sf C (.Compare ea [.LtE] [eb] pos) (.op .le h [a,b]):=dw sW d f (bV _) (aL vi) λu v w e=>by obtain⟨_,_,_,_,_,_,rfl⟩:=nW e;exact⟨_,rfl⟩
theorem iB (d:SE X sf C ea a)(f:SE X sf C eb b):SB X sf C (.Compare ea [.Gt] [eb] pos) (.op .gt h [a,b]):=dw Bd d f (bV _) (aL uX) λu v w e=>by obtain⟨_,_,_,_,_,_,rfl⟩:=xj e;exact⟨_,rfl⟩
theorem JG (d:SE X sf C ea a)(f:SE X sf C eb b):SB X sf C (.Compare ea [.GtE] [eb] pos) (.op .ge h [a,b]):=dw Bf d f (bV _) (aL tO) λu v w e=>by obtain⟨_,_,_,_,_,_,rfl⟩:=wx e;exact⟨_,rfl⟩
theorem fY (g:Room n X.A)(d:SE X sf C ea a)(f:SE X sf C eb b):SB X sf C (.Compare ea [.Eq] [eb] pos) (.op .eq h [a,b]):=dw (qC g.units) d f (bV _) (aL vS) λu v w e=>EK e
theorem qS (g:Room n X.A)(d:SE X sf C ea a)(f:SE X sf C eb b):SB X sf C (.Compare ea [.NotEq] [eb] pos) (.op .ne h [a,b]):=dw (qo g.units) d f (bV _) (aL vE) λu v w e=>EU e
abbrev SW (X:Cx)(sf:Y->j Y)(C:M.Call)(d:RT)(e:M.E):Prop:=PW X d<|wT X.K sf C e
theorem wA1 (d:SB X sf C ea a):SW X sf C (.BoolOp .And [ea] pos) a:=zj d
theorem wO1 (d:SB X sf C ea a):SW X sf C (.BoolOp .Or [ea] pos) a:=Dq d
theorem tY {rest:U RT}(d:SB X sf C ea a)(e:SW X sf C (.BoolOp .And (eb::rest) pos) b):SW X sf C (.BoolOp .And (ea::eb::rest) pos) (.and a b):=Br (Ce d e) CU
theorem wOr {rest:U RT}(d:SB X sf C ea a)(e:SW X sf C (.BoolOp .Or (eb::rest) pos) b):SW X sf C (.BoolOp .Or (ea::eb::rest) pos) (.or a b):=Br (FL d e) FT
theorem tW (h:SW X sf C ea a):SB X sf C ea a:=h.pt
theorem xF {i:TE}(l:PE X ea i):PE X (.UnaryOp .Not ea pos) (λf H Q=>i f H λx e=>∃k,vf X.K x e k/\Q (.bl<|!k) e):=by intro d s f H Q I h;refine UnaryOp_<|thn (l d s f H _ I h) λv r ⟨x,e,I1,p,m⟩=>?_;refine not_of<|thn (oG d r f e x v (λk g=>Q (.bl<|!k) g) I1 p m) λk t ⟨g,I2,o⟩=>⟨.bl<|!k,g,I2,rfl,o⟩
theorem IQ (m:SE X sf C ea a):SE X sf C (.UnaryOp .Not ea pos) (.not a):=ak (xF m) λu H Q h=>by obtain⟨o,Z,g,p,w,f,A,ev,k⟩:=DW u H Q h;exact⟨o,Z,g,p,w,f,A,ev,λv l i e G d r s=>let ⟨c,t,q⟩:=k v l i e G d r s;⟨c,la t,q⟩⟩
theorem sIf (f:SB X sf C ec c)(d:SE X sf C ea a)(e:SE X sf C eb b):SE X sf C (.IfExp ec ea eb pos) (.ifx c a b):=ak (sY f d e) Dp
theorem bh {e:RT}(d:SE X sf C ea a):PI X e ea (wI X.K sf C 1 .seq [a]):=jF (Ft (ky d)<|Cq d) Co
theorem vc {f:RT}{p:Pos}(hm:X.mg "range"=J)(e:Gl X "range":=by rfl)(ha:SE X sf C ea a)(d:Kl [ea] X.env=[(Kg,RV ea X.env)]:=by rfl):PI X f (.Call (.Name "range" p) [ea] [] pos) (wI X.K sf C 1 .rng [a]):=jF (qP e hm (slc ha sl0 d) d) xN
theorem Bp {f:U RT}{i:Y}{pt p:Pos}(k:X.calm=true:=by rfl)(hm:X.mg "zip"=J)(g:Gl X "zip":=by rfl)(ha:SE X sf C ea a)(hb:SE X sf C eb b)(e:Kl [ea,eb] X.env=[(Kg,RV ea X.env),(Kg,RV eb X.env)]:=by rfl)(d:Kl [eb] X.env=[(Kg,RV eb X.env)]:=by rfl):PI X (.Tuple f i pt) (.Call (.Name "zip" p) [ea,eb] [] pos) (wI X.K sf C 2 .zip [a,b]):=jF (BH g hm (slc ha (slc hb sl0 d)<|by rw[e,d]) e d) C8
noncomputable def lkN:U Y->Y->Y->j Y
|[],_,_=>J
|t::d,n,i=>if i=t then O n else lkN d (n+1) i
theorem pR:∀{l:U Y} {n i d:Y},lkN l n i=O d->∃k,l[k]?=O i/\d=n+k/\i ∉ l.take k
|[],_,_,_,h=>by cases h
| t::o,n,i,d,h=>by
 have f:(if i=t then O n else lkN o (n+1) i)=O d:=h;split at f
 .rename_i e;cases f;exact⟨0,by rw[e];rfl,rfl,by simp⟩
 .rename_i e;obtain⟨k,g,p,m⟩:=pR f;exact⟨k+1,g,by lia,by rw[NU,KD];exactλz=>z.elim e m⟩
def inF (e d:U Y):Y->j Y:=lkN (e++d) 0
theorem cG {e l m:U Y}(h:l.map sf=m.map O):eX sf (inF e l) e m:=λi d s=>by
 obtain⟨k,g,o,p⟩:=pR<|show lkN (e++l) 0 i=O d from s;rw[MU] at o;subst o;by_cases hk:d<e.length
 .rw [M1 hk] at g;exact .inl ⟨d,g,rfl⟩
 .have f:e.length<=d:=Qc hk;rw[L4 f] at g;refine .inr ⟨λr=>p ?_,?_⟩
  .rw [List.take_append,OH f];exact LU _ r
  .have e1:(l.map sf)[d-e.length]?=O (sf i):=by rw [KY,g]; rfl
   rw[h,KY] at e1;cases e2:m[d-e.length]? with
   |none=>rw[e2] at e1;cases e1
   |some t=>rw[e2] at e1;exact⟨d-e.length,t,by lia,e2,(K8 e1).symm⟩
theorem sC {x:Str}{l:Pos}{e:U Str}{d:R6}{g:U<|Str×RL}(S:ay [x] e d)(f:RL)(s:Ki)(H:Hp)(k:U RL):PG (ah X ([x]++e) d g f s H k) (.Name x l) (gT X.K 1):=
 dj (X:=ah X ([x]++e) d g f s H k) (i:=0) (x:=x) (pos:=l) S.nd rfl (.inl<|Nb<|S.loc x<|by simp) (.inr<|Nb<|S.loc x<|by simp)
theorem GG {x y:Str}{o p pt:Pos}{m:Y}{e:U Str}{d:R6}{g:U<|Str×RL}(r:X.calm=Kh)(S:ay [x,y] e d)(f:RL)(s:Ki)(H:Hp)(l:U RL):PG (ah X ([x,y]++e) d g f s H l) (.Tuple [.Name x o,.Name y p] m pt) (gT X.K 2):=
 uG (X:=ah X ([x,y]++e) d g f s H l) (pos:=pt) (k:=m) (n:=2) r (fK (dj (pos:=o) (i:=0) (x:=x) S.nd rfl (.inl<|Nb<|S.loc x<|by simp) (.inr<|Nb<|S.loc x<|by simp))<|fK (dj (pos:=p) (i:=1) (x:=y) S.nd rfl (.inl<|Nb<|S.loc y<|by simp) (.inr<|Nb<|S.loc y<|by simp)) qE)
end
end MR

namespace MR
open PySem PySem.Spec PyProof.Rows L2 L3
section
variable {X:Cx}{sf sg:Y->j Y}{C:M.Call}{pos p2:Pos}{ea eb ec:RT}{a b c:M.E}{h:RN}{n:Y}{io:U Y}
section
variable {elt iter cnd:RT}{x y:Str}{px py pt:Pos}{kt:Y}{scope:R6}{cl:U (Str×RL)}{ys:U Str}{tg ls is:U Y}{k:M.Ik}{src:U M.E}{e cd:M.E}
theorem sC1 (ls:U Y)(is:U Y)(cl:U<|Str×RL)(ys:U Str){t:Y}(r:PI X (.Name x px) iter<|wI X.K sf C 1 k src)(o:∀f s H g,SE (ah X ([x]++ys) scope cl f s H g) (inF [t] ls) C elt e)
  (S:ay [x] ys scope) (i:Clo X cl) (fr:Frees X scope cl ys is) (m:X.calm=true:=by rfl) (u:ls.map sf=is.map some:=by rfl)
  (d:LD scope X.env=pure cl:=by with_unfolding_all rfl) (l:(scope.names.all λp=>p.2 != .free || (cl.lookup p.1).isSome)=true:=by rfl)
  (w:∀v,Lj iter X.env v=pure v:=by intro _;rfl):SE X sf C (.ListComp elt [⟨.Name x px,iter,[],0⟩] scope pos) (.comp h k src [t] J e):=
 ak (jx (pre:=[x]) m r (sC S) (λf s H g=>o f s H g) d S i l fr w) (gU rfl (by simp) (cG u))
theorem zI (ls:U Y)(is:U Y)(cl:U<|Str×RL)(ys:U Str){t:Y}(u:PI X (.Name x px) iter<|wI X.K sf C 1 k src)(i:∀d s H f,SB (ah X ([x]++ys) scope cl d s H f) (inF [t] ls) C cnd cd)(r:∀d s H f,SE (ah X ([x]++ys) scope cl d s H f) (inF [t] ls) C elt e)
  (S:ay [x] ys scope) (l:Clo X cl) (fr:Frees X scope cl ys is) (o:X.calm=true:=by rfl) (w:ls.map sf=is.map some:=by rfl)
  (g:LD scope X.env=pure cl:=by with_unfolding_all rfl) (m:(scope.names.all λp=>p.2 != .free || (cl.lookup p.1).isSome)=true:=by rfl)
  (z:∀v,Lj iter X.env v=pure v:=by intro _;rfl):SE X sf C (.ListComp elt [⟨.Name x px,iter,[cnd],0⟩] scope pos) (.comp h k src [t] (O cd) e):=
 ak (j7 (pre:=[x]) o u (sC S) (λd s H f=>r d s H f) (λd s H f=>i d s H f) g S l m fr z) (gL rfl (by simp) (cG w))
theorem sC2 (ls:U Y)(is:U Y)(cl:U<|Str×RL)(ys:U Str){t m:Y}(u:PI X (.Tuple [.Name x px,.Name y py] kt pt) iter<|wI X.K sf C 2 k src)(r:∀f s H g,SE (ah X ([x,y]++ys) scope cl f s H g) (inF [t,m] ls) C elt e)
  (S:ay [x,y] ys scope) (i:Clo X cl) (fr:Frees X scope cl ys is) (o:X.calm=true:=by rfl) (w:ls.map sf=is.map some:=by rfl) (nd:[t,m].Nodup:=by decide)
  (d:LD scope X.env=pure cl:=by with_unfolding_all rfl) (l:(scope.names.all λp=>p.2 != .free || (cl.lookup p.1).isSome)=true:=by rfl)
  (z:∀v,Lj iter X.env v=pure v:=by intro _;rfl):SE X sf C (.ListComp elt [⟨.Tuple [.Name x px,.Name y py] kt pt,iter,[],0⟩] scope pos) (.comp h k src [t,m] J e):=
 ak (jx (pre:=[x,y]) o u (GG o S) (λf s H g=>r f s H g) d S i l fr z) (gU rfl nd (cG w))
end
def spS (K:Kk)(C:M.Call)(f:Y)(io:U Y):Sp:=λd H Q _=>spC K C f io d H Q
theorem sa0:SA X sf C [] []:=mZ cp DV
theorem sac {d:U RT}{bs:U M.E}(e:SE X sf C ea a)(f:SA X sf C d bs)(g:∀i,a≠.io i:=by intro _ z;cases z)(k:Kl (ea::d) X.env=(Kg,RV ea X.env)::Kl d X.env:=by rfl):SA X sf C (ea::d) (a::bs):=mZ (aT e f k)<|v7 g
theorem sai (d:Y){i:Y}{x:Str}{e:U RT}{bs:U M.E}(l:SA X sf C e bs)(o:sf i=O d:=by rfl)(k:X.N[d]?=O x:=by rfl)(p:Vis X.env.scope x:=by first|exact KL rfl|exact Kx (KL rfl)|exact Kx<|Kx rfl)(m:(x==("__debug__":Str))=false:=by decide)
  (f:(x==("__classdict__":Str))=false:=by decide) (g:Kl (.Name x pos::e) X.env=(Kg,RV (.Name x pos) X.env)::Kl e X.env:=by rfl):SA X sf C (.Name x pos::e) (.io i::bs):=mZ (aT (br k p m f) l g)<|qL o
def ae (P:RS)(w:Ks)(K:Kk)(i:Str->j B)(d:RU)(n:Y)(C:M.Call)(x:Str)(f:Y)(io:U Y):Prop:=
 ∃e g k,fI P w K i d CX0 n e g k (spS K C f io)/\i x=O (.ref e)/\NA K (.ref e)=Kh/\Binds K g k []
theorem aD {x:Str}{p:Pos}{f:Y}{e:U RT}{bs:U M.E}(c:ae X.prog X.w X.K X.mg X.base n C x f io)(hr:Room n X.A)(D:SA X sf C (ea::e) bs)(l:i4 bs 0=io\/M.ios bs=[]:=by first|exact .inl rfl|exact .inr rfl)(N:Gl X x:=by rfl)(i:(x==("__debug__":Str))=false:=by decide)
  (L:Kl (ea::e) X.env=(Kg,RV ea X.env)::Kl e X.env:=by rfl) (m:(KQ pos<|Kl e X.env).any (·.1)=false:=by rfl):SE X sf C (.Call (.Name x p) (ea::e) [] pos) (.call f bs):=by
 obtain⟨fa,fd,ps,F,P,hk,I⟩:=c;refine ak (xC (E:=E0) F hr N P hk I .nil HG D i L m) λσ H Q hw=>?_;have z:=zP l σ H Q hw;obtain⟨pv,Z,v,η,ws,o,A,ev,k⟩:=z;exact⟨pv,Z,v,η,ws,o,A,ev,λu y t g G d r s hv=>by show spS X.K C f io (u++[]) t Q E0;rw[La];exact k u y t g G d r s hv⟩
theorem ss0:SSs X sf io C [] []:=oM yf Ap
theorem ss1 {s:R0}{t:M.S}(d:SS X sf io C s t):SSs X sf io C [s] [t]:=oM (AU d) xu
theorem ssc {s:R0}{t:M.S}{r:U R0}{u:U M.S}(e:SS X sf io C s t)(d:SSs X sf io C r u):SSs X sf io C (s::r) (t::u):=oM (vO e d) tS
theorem IS (d:Y){i:Y}{x:Str}{r:M.X}{e:Pos}(g:X.N.Nodup)(k:SE X sf C ea a)(m:i ∉ io:=by decide)(p:sf i=O d:=by rfl)(o:X.N[d]?=O x:=by rfl)(hx:L2.Loc X.env.scope x:=by first|exact KL rfl|exact Kx rfl)
  (f:Ln ea (O<|.Name x e) pos.line X.env=pure false:=by rfl) (l:X.fn x=Kh\/X.env.scope.names.lookup x=O .local:=by first|exact .inl rfl|exact .inr rfl):SS X sf io C (.Assign [.Name x e] ea pos) (.asg r i a):=b6 (DU (i:=d) g o hx k f l)<|kB m p
theorem HE {f:M.X}(d:SE X sf C ea a)(e:Ln ea J pos.line X.env=pure false:=by rfl):SS X sf io C (.Expr ea pos) (.exp f a):=b6 (fu d e) CQ
theorem aJ {e:U Y}(d:SE X sf C ea a):SS X sf io C (.Return (O ea) pos) (.ret e a):=b6 (Dx d) DF
theorem zIf {g:M.X}{r u:U R0}{s t:U M.S}(f:SB X sf C ec c)(d:SSs X sf io C r s)(e:SSs X sf io C u t):SS X sf io C (.If ec r u pos) (.ite g c s t):=b6 (FN f d e) Ey
theorem wW {f:M.X}{r:U R0}{s:U M.S}(e:SB X sf C ec c)(d:SSs X sf io C r s)(hp:M3 (Km X.prog X.w) X.A X.env X.xe:=by exact PassesOwn.never):SS X sf io C (.While ec r [] pos) (.whl f c s):=b6 (tE hp e d) B8
theorem cA (d:Y){t:Y}{x:Str}{m:Pos}{e:RT}{r:U R0}{s:U M.S}{H G:U Y}{k:M.Ik}{f:U M.E}(o:X.N.Nodup)(z:PI X (.Name x m) e<|wI X.K sf C 1 k f)(p:SSs X sf io C r s)(g:∀u∈[t],u ∉ io:=by decide)(l:[t].map sf=[d].map some:=by rfl)(D:X.N[d]?=O x:=by rfl)(hx:L2.Loc X.env.scope x:=by first|exact KL rfl|exact Kx rfl)
  (v:X.calm=true:=by rfl) (hp:M3 (Km X.prog X.w) X.A X.env X.xe:=by exact PassesOwn.never) (y:X.fn x=Kh\/X.env.scope.names.lookup x=O .local:=by first|exact .inl rfl|exact .inr rfl) (F:∀x,Lj e X.env x=pure x:=by intro _;rfl):SS X sf io C (.For (.Name x m) e r [] pos) (.forS H G k f [t] s):=
 b6 (nH hp v z (dj (i:=d) o D hx y) p F) (vP rfl (by simp) g l)
theorem jH (d l:Y){t u:Y}{x y:Str}{F G pt:Pos}{D:Y}{e:RT}{r:U R0}{s:U M.S}{vs ls:U Y}{k:M.Ik}{f:U M.E}(p:X.N.Nodup)(L:PI X (.Tuple [.Name x F,.Name y G] D pt) e<|wI X.K sf C 2 k f)(H:SSs X sf io C r s)(m:∀v∈[t,u],v ∉ io:=by decide)(nd:[t,u].Nodup:=by decide)(o:[t,u].map sf=[d,l].map some:=by rfl)(P:X.N[d]?=O x:=by rfl)(Q:X.N[l]?=O y:=by rfl)
  (hx:L2.Loc X.env.scope x:=by first|exact KL rfl|exact Kx rfl) (hy:L2.Loc X.env.scope y:=by first|exact KL rfl|exact Kx rfl)
  (z:X.calm=true:=by rfl) (hp:M3 (Km X.prog X.w) X.A X.env X.xe:=by exact PassesOwn.never) (I:X.fn x=Kh\/X.env.scope.names.lookup x=O .local:=by first|exact .inl rfl|exact .inr rfl) (g:X.fn y=Kh\/X.env.scope.names.lookup y=O .local:=by first|exact .inl rfl|exact .inr rfl) (Z:∀x,Lj e X.env x=pure x:=by intro _;rfl):SS X sf io C (.For (.Tuple [.Name x F,.Name y G] D pt) e r [] pos) (.forS vs ls k f [t,u] s):=
 b6 (nH hp z L (uG (n:=2) z<|fK (dj (i:=d) p P hx I)<|fK (dj (i:=l) p Q hy g) qE) H Z) (vP rfl nd m o)
theorem mI (e:Y){i:Y}{x:Str}{xx:M.X}{g f y:Pos}(ha:SE X sf C ea a)(hs:sf i=O e:=by rfl)(hN:X.N[e]?=O x:=by rfl)(hv:Vis X.env.scope x:=by first|exact KL rfl|exact Kx (KL rfl)|exact Kx<|Kx rfl)(hd:(x==("__debug__":Str))=false:=by decide)(F:(x==("__classdict__":Str))=false:=by decide)
  (m:MC (.Name x y) "append" X.env (RV (.Name x y) X.env)=RV (.Name x y) X.env:=by rfl)
  (t:((KQ f<|Kl [ea] X.env).all (λx=>!x.1)&&(SD f<|NF [] X.env).all (λx=>x.1.isSome)&&decide ([ea].length+([]:U L7).length+(if([]:U L7).isEmpty then 0 else 1)<30))=true:=by rfl)
  (o:(g.endLine==f.line)=true:=by rfl) (u:Kl [ea] X.env=(Kg,RV ea X.env)::Kl [] X.env:=by rfl) (l:(KQ f<|Kl [] X.env).any (·.1)=false:=by rfl) (I:Ln (.Call (.Attribute (.Name x y) "append" g) [ea] [] f) J pos.line X.env=pure false:=by rfl):
  SS X sf io C (.Expr (.Call (.Attribute (.Name x y) "append" g) [ea] [] f) pos) (.app xx i a):=
 b6 (fu (pB Nq Ri Rh jP (br hN hv hd F) (aT ha cp u) m t o u l) I) λD σ H hw=>by obtain⟨p,xs,hj,hp,pv,Z,P,η,w,L,A,ev,k⟩:=D6 hs D σ H hw;refine⟨.ref p,hj,.inl ⟨rfl,xs,.inl<|.inl hp⟩,pv,Z,P,η,w,L,A,ev,λv Z' Q z G d r s=>?_⟩;obtain⟨ys,h1,h2,h3⟩:=k v Z' Q z G d r s;exact⟨p,ys,v,rfl,rfl,h1,h2,h3⟩
theorem iq (e:Y){i:Y}{x:Str}{xx:M.X}{g f:Pos}(ha:SE X sf C ea a)(hb:SE X sf C eb b)(hs:sf i=O e:=by rfl)(hN:X.N[e]?=O x:=by rfl)(hv:Vis X.env.scope x:=by first|exact KL rfl|exact Kx (KL rfl)|exact Kx<|Kx rfl)(hd:(x==("__debug__":Str))=false:=by decide)(F:(x==("__classdict__":Str))=false:=by decide)
  (y:∀ v,LR (.Subscript (.Name x g) eb f) X.env v=(do
   let ov <- Mz [v] (RV (.Name x g) X.env);let iv <- Mz [v,ov] (RV eb X.env)
   standAt f
   Mz [v,ov,iv] (setItem ov iv v)
   release [v,ov,iv] []):=by intro _;rfl)
  (h1:swapsWithSole [.Subscript (.Name x g) eb f] ea pos.line X.env=pure false:=by rfl) (h2:swappedStores [.Subscript (.Name x g) eb f] ea X.env=pure none:=by rfl) (h3:(MO [.Subscript (.Name x g) eb f] X.env).map (·.2)=[LR (.Subscript (.Name x g) eb f) X.env]:=by rfl):
  SS X sf io C (.Assign [.Subscript (.Name x g) eb f] ea pos) (.setI xx i b a):=
 b6 (Ep ha (D1 (br hN hv hd F) hb uT y) h1 h2 h3) λD σ H hw=>by obtain⟨pv,Z,Fs,η,w,L,A,ev,k⟩:=yZ hs D σ H hw;refine⟨pv,Z,Fs,η,w,L,A,ev,λv Z' H' l G d r s=>?_⟩;obtain⟨o,ho,I,Z2,p,P,w2,Q,A2,u,k2⟩:=k v Z' H' l G d r s;refine⟨o,ho,I,Z2,p,P,w2,Q,A2,u,λz Z3 H3 t G3 B3 r3 s3=>?_⟩;obtain⟨q,xs,n,m,rfl,rfl,g1,g2,g3⟩:=k2 z Z3 H3 t G3 B3 r3 s3;exact⟨q,xs,n,m,rfl,rfl,g1,g2,g3⟩
end
end MR

namespace MR
open PySem PySem.Spec PyProof.Rows L2 L3
section
variable {K:Kk}{Z:Fp}{H:Hp}
theorem kG:∀{a:U M.W} {n i:Y} {w:M.W},M.rd (a.map O++Ky n J) i=O w->a[i]?=O w
|[],0,i,w,h=>by simp[M.rd] at h
|[],n+1,0,w,h=>by simp[Mj,M.rd] at h
|[],n+1,i+1,w,h=>by
 have:M.rd (([]:U M.W).map O++Ky n J) i=O w:=by simpa[Mj,M.rd] using h
 have:=kG this;simp at this
|u::a,n,0,w,h=>by simpa[M.rd] using h
|u::a,n,i+1,w,h=>by
 have:M.rd (a.map O++Ky n J) i=O w:=by simpa[M.rd] using h
 simpa using kG this
theorem wD:∀{l:U M.W} {d:U V} {G:Fp},RepW K Z H l d G->∃c:Fps,(∀i a,c i a->G a)/\(∀i b a,c i a->c b a->i=b)/\∀i w,l[i]?=O w->∃v,d[i]?=O v/\Rep K Z H w.1 w.2 v (c i)
|[],d,G,_=>⟨λ_=>no,λ_ _ h=>h.elim,λ_ _ _ h=>h.elim,λi w h=>by simp at h⟩
| w::l,d,G,⟨x,r,n,z,e,t,y,m,p,q⟩=>by
 obtain⟨c,f,o,s⟩:=wD q;subst e;refine⟨λi=>match i with | 0=>n|i+1=>c i,λi a h=>?_,λi b a g k=>?_,λi u h=>?_⟩
 .cases i with
  |zero=>exact t a h
  |succ i=>exact y a<|f i a h
 .cases i with
  |zero=>
   cases b with
   |zero=>rfl
   |succ b=>exact RM (f b a k)<|m a g
  |succ i=>
   cases b with
   |zero=>exact RM (f i a g)<|m a k
   |succ b=>exact RY (·+1)<|o i b a g k
 .cases i with
  |zero=>simp only[NP,Ph] at h;subst h;exact⟨x,rfl,p⟩
  |succ i=>simpa using s i u<|by simpa using h
def slN (n:Y):Y->j Y:=λi=>if i<n then O i else J
theorem fQ {o:Cf}{s:L2.St}{g:Fps}{k:M.Env}{G:Fp}{d:U V}(A:At K o s Z H g k G):∀{c:U Y} {bs:U M.W},c.Nodup->(∀i∈c,o.pv i=d[i]?/\i<d.length)->M.backs c k=O bs->RepW K Z H bs (atV c d) (λa=>∃i∈c,g i a)
|[],bs,_,_,h=>by simp only[M.backs,Ph] at h;subst h;rfl
| i::c,bs,nd,n,h=>by
 simp only[M.backs] at h;cases e:M.rd k i with
 |none=>rw[e] at h;cases h
 | some w =>
  rw[e] at h;simp only[P9] at h;cases e2:M.backs c k with
  |none=>rw[e2] at h;cases h
  |some t=>
   rw[e2] at h;simp only[P9,Ph] at h;subst h;obtain⟨v,r,_,hp⟩:=A.env i w.1 w.2 e;have l:=n i Ku;obtain⟨u,m⟩:∃u,d[i]?=O u:=⟨d[i]'l.2,KN l.2⟩;have:=hp u<|l.1.trans m;subst this;refine⟨v,atV c d,g i,λa=>∃b∈c,g b a,?_,λa h=>⟨i,Ku,h⟩,λa ⟨b,f,h⟩=>⟨b,Kw _ f,h⟩,λa h ⟨b,f,p⟩=>?_,r,fQ A (Le.mp nd).2 (λb f=>n b<|Kw _ f) e2⟩
   .rw[atV,Mk,m];rfl
   .exact(Le.mp nd).1<|A.gd.dis i b a h p ▸ f
end
section
variable {P:RS}{w:Ks}{K:Kk}{mg:Str->j B}{base:RU}
theorem wB {Z:Fp}{H:Hp}{s:U M.W}{f:U V}{G:Fp}{N:U Str}{n:Y}{io:U Y}(r:RepW K Z H s f G)(o:Own Z H G)(z:∀a,Z a->H a≠J)(F:f.length<=N.length):
  ∃g,(∀a,tot g a->G a)/\At K ⟨slN N.length,λi=>if i∈io then f[i]? else J⟩ (L2.start N f) Z H g (s.map O++Ky n J) no:=by
 obtain⟨g,k,x,y⟩:=wD r;have p:∀i v,f[i]?=O v->(L2.start N f)[i]?=O (O v):=λi v h=>by have A:=(LJ.mp h).1;rw[L2.start,M1<|by simpa using A,KY,h];rfl
 refine⟨g,λa ⟨i,h⟩=>k i a h,⟨⟨λa ⟨i,h⟩=>o a<|k i a h,x,z⟩,λi m t e=>?_,λa h=>h.elim,λa h=>h.elim,λi u b d c=>?_,λi b c=>?_⟩⟩
 .obtain ⟨v,l,D⟩:=y i (m,t) (kG e);refine⟨v,D,λb c=>?_,λu d=>?_⟩
  .simp only [slN] at c;split at c
   .cases c;exact p i v l
   .cases c
  .simp only at d;split at d
   .rw[l] at d;cases d;rfl
   .cases d
 .simp only at d;simp only[slN] at c;split at c
  .cases c;split at d
   .exact p i u d
   .cases d
  .cases c
 .simp only [slN] at c;split at c
  .cases c;rename_i h;rw[L2.start,KJ,Kr,LO];lia
  .cases c
theorem Fun.okM {x m:Str}{st:R0}{f:RL}{fd:LF}{N ps:U Str}{k:Y}{C:M.Call}{d:M.Fn}(F:L2.Fun K x m st f fd)(S:au N ps<|defScope st)(hps:d.ps=ps.length)(hle:ps.length<=N.length)(nd:d.io.Nodup)(hio:∀i∈d.io,i<ps.length)
  (L:∀ (p:B) (A:KO) (l:U Env) (s:Ki) (H:Hp) (E:XK),Room k (A.deeper (LQ m (defScope st) s.heap.objs.size f p)) ->
   SSs (kx CX0 P w K mg base N m (defScope st) f p A l s H E).nox (slN N.length) d.io C (defBody st) d.body) {g:Y} {C':M.Call} (hC:∀ws,C' g ws=M.runF C d ws):fI P w K mg base CX0 (k+1) f fd ps (spS K C' g d.io):=by
 have len:∀D H Q E,spS K C' g d.io D H Q E->D.length=ps.length:=λD H Q E ⟨Z,ws,G,w,bs,r,_,_,hr,_⟩=>by
  rw[hC] at hr;unfold M.runF at hr;split at hr
  .rename_i h;rw[r.length,h,hps]
  .cases hr
 refine F.ok S len λp A l s H D Q E hr h=>⟨_,L p A l s H E hr,?_⟩;have y:=len D H Q E h;obtain⟨Z,ws,G,w,bs,r,o,z,c,q⟩:=h;rw[hC] at c;have hwl:ws.length=d.ps:=by rw[<- r.length,y,hps]
 rw[M.x_run _ _ _ hwl] at c;obtain⟨Fs,ft,A0⟩:=wB (n:=d.ns) (io:=d.io) r o z (N:=N) (by lia);refine⟨_,Z,Fs,_,⟨λi i' b h h'=>?_,λi h=>RK h⟩,A0,?_⟩
 .simp only [slN] at h h';split at h
  .split at h'
   .cases h;cases h';rfl
   .cases h'
  .cases h
 have hv:∀i∈d.io,(if i∈d.io then D[i]? else J)=D[i]?/\i<D.length:=λi hi=>⟨RJ hi,y ▸ hio i hi⟩;cases e:M.evSs C d.body (ws.map O++Ky d.ns J) with
 | nx η =>
  rw[e] at c;intro σ' Z' H' Fs' I t;simp only[M.Fl.out] at c;cases e2:M.backs d.io η with
  |none=>rw[e2] at c;cases c
  |some cs=>rw[e2] at c;cases c;refine q .non Z' H' no _ rfl (fQ I nd hv e2) (λ_ h=>h.elim) (λa h=>h.elim (λz=>z.elim) λ⟨i,_,z⟩=>I.gd.own a ⟨i,z⟩) (t.mono ft λa h=>h.elim (λz=>z.elim) λ⟨i,_,z⟩=>⟨i,z⟩)
 | rt u η =>
  rw[e] at c;intro v σ' Z' H' Fs' G' I rp t;simp only[M.Fl.out] at c;cases e2:M.backs d.io η with
  |none=>rw[e2] at c;cases c
  |some cs=>rw[e2] at c;cases c;exact q v Z' H' G' _ rp (fQ I nd hv e2) (λa h ⟨i,_,z⟩=>I.dis a h ⟨i,z⟩) (λa h=>h.elim (I.own a) λ⟨i,_,z⟩=>I.gd.own a ⟨i,z⟩)<|t.mono ft λa h=>h.elim .inr λ⟨i,_,z⟩=>.inl ⟨i,z⟩
 |bk η=>rw[e] at c;cases c
 |ex t η=>rw[e] at c;cases c
 |no=>rw[e] at c;cases c
end
end MR

namespace MR
open PySem PySem.Spec PyProof.Rows L2 L3
def TopV (K:Kk)(H:Hp):Th->V->Prop
|.tup _,x=>∃a c,x=.ref a/\SqT K H a c
|.lst _,x=>∃a c,x=.ref a/\SqL K H a c
|.non,x=>x=.non
|.bl b,x=>x=.bl b
|.int i,x=>x=.int i
|.str z,x=>x=.str z
theorem tZ {X:Cx}{c:R1}(F:c∈["tuple","str","bool","int","list"]):cy X (.builtin "isinstance") (λD H Q=>∃x t,D=[x,.ty c]/\TopV X.K H t x/\Q (.bl<|isI c t) H):=by
 intro k s M H D N Q I r h;obtain⟨x,t,rfl,f,q⟩:=h;obtain⟨u,P,rfl,g,y⟩:=mV r;cases y;have e:Mq X.K (.type t.ty) (.type c)=O (isI c t):=kit_type.trans<|n0 F t;have d:∀A,EP X k M Q (.bool (isI c t)) {s with toks:=A}:=λA=>⟨.bl<|isI c t,H,I.tok A,rfl,q⟩;cases t with
 |non=>obtain rfl:x=.non:=f;exact eA I g .non e d
 |bl b=>obtain rfl:x=.bl b:=f;exact eA I g (.bl b) e d
 |int i=>obtain rfl:x=.int i:=f;exact eA I g (.int i) e d
 |str z=>obtain rfl:x=.str z:=f;exact eA I g (.str z) e d
 |tup G=>obtain⟨a,L,rfl,v⟩:=f;cases g;obtain⟨w,_,p,_⟩:=I.tuple v;obtain⟨o,l,m,_⟩:=p;exact LP Pq I.kIn ⟨o,l,m⟩ e (λz=>nomatch z) d
 |lst G=>obtain⟨a,L,rfl,v⟩:=f;cases g;obtain⟨w,_,p,_⟩:=I.list v;obtain⟨o,n,l,m,_⟩:=p;exact LP Om I.kIn ⟨o,l,m⟩ e (λz=>nomatch z) d
theorem zc {X:Cx}{d f:R1}(h1:d∈["tuple","str","bool","int","list"])(h2:f∈["tuple","str","bool","int","list"]):
  cy X (.builtin "isinstance") (λN H Q=>∃x t p,N=[x,.ref p]/\SqT X.K H p [.ty d,.ty f]/\TopV X.K H t x/\Q (.bl (isI d t || isI f t)) H):=by
 intro v s σ H N us Q I r h;obtain⟨x,t,p,rfl,hp,k,q⟩:=h;obtain⟨u,w',rfl,l,L⟩:=mV r;cases L;obtain⟨m,rv,pt,_⟩:=I.tuple hp;obtain⟨y1,y2,rfl,r1,r2⟩:=mV rv;cases r1;cases r2;obtain⟨⟨oc,od,D,osl⟩,g,P,n,Z⟩:=pt;have w:oc=.type "tuple":=P;have y:D=.seq _ n:=Z;subst w y;have e1:Mq X.K (.type t.ty) (.type d)=O (isI d t):=kit_type.trans<|n0 h1 t;have e2:Mq X.K (.type t.ty) (.type f)=O (isI f t):=kit_type.trans<|n0 h2 t
 have e:O2 X.K (.type t.ty) [.type d,.type f]=O (isI d t || isI f t):=by
  unfold O2;rw[e1];cases isI d t with
  |true=>rfl
  |false=>unfold O2;rw[e2];cases isI f t<;>rfl
 have c:∀M,EP X v σ Q (.bool (isI d t || isI f t)) {s with toks:=M}:=λM=>⟨.bl _,H,I.tok M,rfl,q⟩;cases t with
 |non=>obtain rfl:x=.non:=k;cases l;exact Nu QP I.kIn LN g e (λz=>nomatch z) c
 |bl b=>obtain rfl:x=.bl b:=k;cases l;exact Nu QO I.kIn LN g e (λz=>nomatch z) c
 |int i=>obtain rfl:x=.int i:=k;obtain⟨t,rfl⟩:=l;exact Nu Q3 I.kIn LN g e (λz=>nomatch z) c
 |str z=>obtain rfl:x=.str z:=k;obtain⟨t,rfl⟩:=l;exact Nu Q2 I.kIn LN g e (λz=>nomatch z) c
 |tup ts=>obtain⟨a,vs,rfl,A⟩:=k;cases l;obtain⟨m,_,⟨o,F,G,_⟩,_⟩:=I.tuple A;exact Nu Pq I.kIn ⟨o,F,G⟩ g e (λz=>nomatch z) c
 |lst ts=>obtain⟨a,vs,rfl,A⟩:=k;cases l;obtain⟨m,_,⟨o,n,F,G,_⟩,_⟩:=I.list A;exact Nu Om I.kIn ⟨o,F,G⟩ g e (λz=>nomatch z) c
noncomputable def thT:M.T->Th
|.non=>.non | .bl b=>.bl b | .int i=>.int i | .str x=>.str x | .tup _=>.tup [] | .lst _=>.lst [] | .scr _=>.lst [] | .dct _ _=>.non | .ins _ _ _=>.non | .gone=>.non
theorem qq {K:Kk}{Z:Fp}{H:Hp}{t:M.T}{m:M.Md}{x:V}{G:Fp}(a:t.isH=Kg)(r:Rep K Z H m t x G):TopV K H (thT t) x/\(thT t).ty=t.ty:=by
 cases t with
 |non=>exact⟨r,rfl⟩
 |bl _=>exact⟨r,rfl⟩
 |int _=>exact⟨r,rfl⟩
 |str _=>exact⟨r.1,rfl⟩
 |tup _=>obtain⟨p,b,e,q,_⟩:=r;exact⟨⟨p,b,e,q⟩,rfl⟩
 |lst _=>obtain⟨p,b,e,_,q,_⟩:=r;exact⟨⟨p,b,e,.inl<|.inl<|by cases m<;>exact q.2⟩,rfl⟩
 |scr _=>obtain⟨p,e,_,q⟩:=r;exact⟨⟨p,_,e,q.sq⟩,rfl⟩
 |dct _ _=>cases a
 |ins _ _ _=>cases a
 |gone=>cases a
theorem kM {t:Th}{u:M.T}{c:R1}(h:t.ty=u.ty):isI c t=M.isOne c u:=by unfold isI M.isOne;rw[h]
section
variable {X:Cx}{sf sg:Y->j Y}{C:M.Call}{pos p2 p3:Pos}{ea eb ec:RT}{a b c:M.E}{h:RN}{n:Y}{io:U Y}
theorem pY {Z:Fp}{H d:Hp}{G:Fp}(same:∀a o,H a=O o->d a=O o):Step Z H G Z d G:=by
 have f:∀a,H a≠J->d a≠none:=λa h=>by
  cases e:H a with
  |none=>exact RM e h
  |some o=>rw[same a o e];simp
 exact⟨λa o h _=>same a o h,λ_ h=>h,λ_ h=>.inl h,λ_ h=>.inl h,f,λz a h=>f a<|z a h⟩
theorem ma {K:Kk}{Z:Fp}{H d:Hp}{G:Fp}{w:M.W}{Q:VK}(same:∀a o,H a=O o->d a=O o)(k:Out K Z H G w Q):Out K Z d G w Q:=λv g f e r o t=>k v g f e r o<|(pY same).trans t
theorem fF {H:Hp}{p:RL}{o:HO}(hp:H p=J):∀a u,H a=O u->upd H p o a=O u:=λa u e=>by
 have:a≠p:=λq=>by subst q;rw[hp] at e;cases e
 rw[af this];exact e
theorem TopV.same {K:Kk}{H g:Hp}{t:Th}{x:V}(d:∀a o,H a=O o->g a=O o)(h:TopV K H t x):TopV K g t x:=by
 cases t with
 |tup _=>
  obtain⟨a,f,e,q⟩:=h;refine⟨a,f,e,?_⟩;rcases q with(z|⟨o,z⟩)|z
  .exact .inl (.inl<|d _ _ z)
  .exact .inl (.inr ⟨o,d _ _ z⟩)
  .exact .inr z
 |lst _=>
  obtain⟨a,f,e,q⟩:=h;refine⟨a,f,e,?_⟩;rcases q with(z|⟨o,z⟩)|z
  .exact .inl (.inl<|d _ _ z)
  .exact .inl (.inr ⟨o,d _ _ z⟩)
  .exact .inr z
 |_=>exact h
theorem cM {c:R1}{k:Str}(F:c∈["tuple","str","bool","int","list"])(hv:L8 k=O (.type c))(N:X.mg "isinstance"=J)(g:X.mg k=J)(D:SE X sf C ea a)(L:Gl X "isinstance":=by rfl)(f:Gl X k:=by rfl)(P:k≠"__name__":=by decide)(I:(k==("__debug__":Str))=false:=by decide)
  (t:Kl [ea,.Name k p2] X.env=(Kg,RV ea X.env)::Kl [.Name k p2] X.env:=by rfl) (l:Kl [.Name k p2] X.env=(Kg,RV (.Name k p2) X.env)::Kl [] X.env:=by rfl) (i:(KQ pos<|Kl [.Name k p2] X.env).any (·.1)=false:=by rfl):
  SE X sf C (.Call (.Name "isinstance" p3) [ea,.Name k p2] [] pos) (.op (.isI [c]) h [a]):=
 ak (bp (tZ F) L N Q8 (aT D (aT (vF f g hv P I) cp l) t) (by decide) (by decide) t i) λσ H Q hw=>by obtain⟨pv,Z,v,η,w,p,A,ev,k⟩:=hw;obtain⟨ws,z,e⟩:=dz ev;obtain⟨⟨m,u⟩,η1,us,e1,e2,rfl⟩:=aH z;cases e2;obtain⟨o,e⟩:=ifN<|show(if u.isH=Kh then J else O _)=_ from e;cases e;refine⟨pv,Z,v,η,(m,u),p,A,e1,λx Z' H' y G d r s=>?_⟩;obtain⟨t1,t2⟩:=qq o r;refine⟨x,thT u,rfl,t1,?_⟩;have:=bR<|cJ d s k;rw[kM t2];rw[show([c].any λc=>M.isOne c u)=M.isOne c u by simp] at this;exact this
theorem Hl {i l:R1}{f e:Str}{g pt:Pos}{t:Y}(z:i∈["tuple","str","bool","int","list"])(hv1:L8 f=O (.type i))(D:l∈["tuple","str","bool","int","list"])(hv2:L8 e=O (.type l))(hm:X.mg "isinstance"=J)(P:X.mg f=J)(hm2:X.mg e=J)(ha:SE X sf C ea a)
  (hg:Gl X "isinstance":=by rfl) (L:Gl X f:=by rfl) (N:Gl X e:=by rfl) (hn1:f≠"__name__":=by decide) (F:(f==("__debug__":Str))=false:=by decide) (hn2:e≠"__name__":=by decide) (I:(e==("__debug__":Str))=false:=by decide)
  (hs:Kl [ea,.Tuple [.Name f p2,.Name e g] t pt] X.env=(Kg,RV ea X.env)::Kl [.Tuple [.Name f p2,.Name e g] t pt] X.env:=by rfl) (hs2:Kl [.Tuple [.Name f p2,.Name e g] t pt] X.env=(Kg,RV (.Tuple [.Name f p2,.Name e g] t pt) X.env)::Kl [] X.env:=by rfl)
  (hs3:Kl [.Name f p2,.Name e g] X.env=(Kg,RV (.Name f p2) X.env)::Kl [.Name e g] X.env:=by rfl) (hs4:Kl [.Name e g] X.env=(Kg,RV (.Name e g) X.env)::Kl [] X.env:=by rfl) (hpl:(KQ pos<|Kl [.Tuple [.Name f p2,.Name e g] t pt] X.env).any (·.1)=false:=by rfl):
  SE X sf C (.Call (.Name "isinstance" p3) [ea,.Tuple [.Name f p2,.Name e g] t pt] [] pos) (.op (.isI [i,l]) h [a]):=
 ak (bp (zc z D) hg hm Q8 (aT ha (aT (uI<|aT (vF L P hv1 hn1 F) (aT (vF N hm2 hv2 hn2 I) cp hs4) hs3) cp hs2) hs) (by decide) (by decide) hs hpl) λσ H Q hw=>by obtain⟨pv,Z,Fs,η,w,η',A,ev,k⟩:=hw;obtain⟨ws,h1,y⟩:=dz ev;obtain⟨⟨m,u⟩,η1,us,e1,e2,rfl⟩:=aH h1;cases e2;obtain⟨hug,y⟩:=ifN<|show(if u.isH=Kh then J else O _)=_ from y;cases y;refine⟨pv,Z,Fs,η,(m,u),η',A,e1,λx Z' H' v G d r s=>?_⟩;refine⟨(by show 2<=sizeLine;decide),λp hp=>?_⟩;have st:=pY (Z:=Z') (G:=λa=>tot v a\/G a)<|fF (o:=.tup [.ty i,.ty l]) hp;obtain⟨t0,t2⟩:=qq hug r;have t1:=t0.same<|fF (o:=.tup [.ty i,.ty l]) hp;refine⟨x,thT u,p,rfl,.inl<|.inl av,t1,?_⟩;have:=bR<|ma (fF (o:=.tup [.ty i,.ty l]) hp)<|cJ d s k;rw[kM t2,kM t2];rw[show([i,l].any λc=>M.isOne c u)=(M.isOne i u || M.isOne l u) by simp] at this;exact this
theorem FK (d:Y){i:Y}{x:Str}{e f l:Pos}(t:sf i=O d:=by rfl)(p:X.N[d]?=O x:=by rfl)(u:Vis X.env.scope x:=by first|exact KL rfl|exact Kx (KL rfl)|exact Kx<|Kx rfl)(r:(x==("__debug__":Str))=false:=by decide)(m:(x==("__classdict__":Str))=false:=by decide)
  (g:MC (.Name x l) "pop" X.env (RV (.Name x l) X.env)=RV (.Name x l) X.env:=by rfl) (k:(e.endLine==f.line)=true:=by rfl):
  SE X sf C (.Call (.Attribute (.Name x l) "pop" e) [] [] f) (.pop i []):=
 ak (sZ Nq QG QF Cb (br p u r m) g k) λz H Q v=>by obtain⟨a,o,y,s,hp,w,q⟩:=yr t z H Q v;exact⟨.ref a,s,.inl ⟨rfl,o,.inl<|.inl hp⟩,a,o,y,rfl,rfl,hp,w,q⟩
theorem l9 {e:U RT}{g:Y}{pt p:Pos}(hm:X.mg "enumerate"=J)(f:Gl X "enumerate":=by rfl)(ha:SE X sf C ea a)(d:Kl [ea] X.env=[(Kg,RV ea X.env)]:=by rfl):PI X (.Tuple e g pt) (.Call (.Name "enumerate" p) [ea] [] pos) (wI X.K sf C 2 .enm [a]):=jF (xK f hm (slc ha sl0 d) d) BY
end
end MR

namespace MR
open PySem PySem.Spec PyProof.Rows L2 L3
structure Txt (mg:Str->j B):Prop where
 isin:mg "isinstance"=J
 int:mg "int"=J
 tup:mg "tuple"=J
 list:mg "list"=J
 bool:mg "bool"=J
 sum:mg "sum"=J
 len:mg "len"=J
 all:mg "all"=J
 zip:mg "zip"=J
 range:mg "range"=J
 enum:mg "enumerate"=J
 any:mg "any"=J
 max:mg "max"=J
 min:mg "min"=J
 sorted:mg "sorted"=J
 str:mg "str"=J
 repr:mg "repr"=J
 abs:mg "abs"=J
 dict:mg "dict"=J
 set:mg "set"=J
 rev:mg "reversed"=J
theorem frc {X:Cx}{a:R6}{b:U<|Str×RL}{y:Str}{e:U Str}{i:Y}{d:U Y}{c:RL}(r:Frees X a b e d)(f:X.N[i]?=O y:=by rfl)(g:Vis X.env.scope y:=by first|exact KL rfl|exact Kx (KL rfl)|exact Kx<|Kx rfl)(h:X.env.kindOf y=O .cell\/X.env.kindOf y=O .free:=by first|exact KL rfl|exact Kx rfl)
  (k:X.env.cells.lookup y=O c:=by rfl) (l:b.lookup y=O c:=by rfl) (m:(MJ a X.env).names.lookup y=O .cell\/(MJ a X.env).names.lookup y=O .free:=by first|exact KL rfl|exact Kx rfl):Frees X a b (y::e) (i::d):=.cons f g h k l m r
theorem eY {X:Cx}{y:Str}{c:RL}{a:U<|Str×RL}(r:Clo X a)(h:X.env.cells.lookup y=O c:=by rfl):Clo X ((y,c)::a):=.cons h r
section
variable {X:Cx}{sf sg:Y->j Y}{C:M.Call}{pos p2 p3:Pos}{ea eb ec:RT}{a b c:M.E}{h:RN}{n:Y}{io:U Y}
section
variable {elt iter cnd:RT}{x y:Str}{px py pt:Pos}{kt:Y}{scope:R6}{tg:U Y}{k:M.Ik}{src:U M.E}{e cd:M.E}
theorem zC1 (d:Y)(P:U Y)(L:U Y)(l:U<|Str×RL)(I:U Str){z:Str}{Q f:Pos}{xx:M.X}{i t:Y}(hi:PI X (.Name x px) iter<|wI X.K sf C 1 k src)(he:∀m s H o,SE (ah X ([x]++I) scope l m s H o) (inF [t] P) C elt e)
  (S:ay [x] I scope) (r:Clo X l) (fr:Frees X scope l I L) (hN:X.N.Nodup) (A:i ∉ io:=by decide) (F:sf i=O d:=by rfl) (hj:X.N[d]?=O z:=by rfl) (hz:L2.Loc X.env.scope z:=by first|exact KL rfl|exact Kx rfl)
  (G:Ln (.ListComp elt [⟨(.Name x px),iter,[],0⟩] scope pos) (O<|.Name z Q) f.line X.env=pure true:=by rfl) (hc:X.calm=true:=by rfl) (hl:P.map sf=L.map some:=by rfl)
  (g:LD scope X.env=pure l:=by with_unfolding_all rfl) (w:(scope.names.all λp=>p.2 != .free || (l.lookup p.1).isSome)=true:=by rfl)
  (hs:∀v,Lj iter X.env v=pure v:=by intro _;rfl) (u:X.fn z=Kh\/X.env.scope.names.lookup z=O .local:=by first|exact .inl rfl|exact .inr rfl):SS X sf io C (.Assign [.Name z Q] (.ListComp elt [⟨(.Name x px),iter,[],0⟩] scope pos) f) (.asg xx i<|.comp h k src [t] J e):=
 b6 (rJ (pre:=[x]) hN hj hz G hc hi (sC S) (λm s H o=>he m s H o) g S r w fr hs u) λD Z H hw=>gU rfl (by simp) (cG hl) Z H _ (kB A F D Z H hw)
theorem Jg (d:Y)(P:U Y)(Q:U Y)(o:U<|Str×RL)(r:U Str){z:Str}{Z f:Pos}{xx:M.X}{i t:Y}(hi:PI X (.Name x px) iter<|wI X.K sf C 1 k src)(u:∀g s H l,SB (ah X ([x]++r) scope o g s H l) (inF [t] P) C cnd cd)(he:∀g s H l,SE (ah X ([x]++r) scope o g s H l) (inF [t] P) C elt e)
  (S:ay [x] r scope) (w:Clo X o) (fr:Frees X scope o r Q) (hN:X.N.Nodup) (G:i ∉ io:=by decide) (I:sf i=O d:=by rfl) (hj:X.N[d]?=O z:=by rfl) (hz:L2.Loc X.env.scope z:=by first|exact KL rfl|exact Kx rfl)
  (L:Ln (.ListComp elt [⟨(.Name x px),iter,[cnd],0⟩] scope pos) (O<|.Name z Z) f.line X.env=pure true:=by rfl) (hc:X.calm=true:=by rfl) (hl:P.map sf=Q.map some:=by rfl)
  (m:LD scope X.env=pure o:=by with_unfolding_all rfl) (F:(scope.names.all λp=>p.2 != .free || (o.lookup p.1).isSome)=true:=by rfl)
  (hs:∀v,Lj iter X.env v=pure v:=by intro _;rfl) (A:X.fn z=Kh\/X.env.scope.names.lookup z=O .local:=by first|exact .inl rfl|exact .inr rfl):SS X sf io C (.Assign [.Name z Z] (.ListComp elt [⟨(.Name x px),iter,[cnd],0⟩] scope pos) f) (.asg xx i<|.comp h k src [t] (O cd) e):=
 b6 (jV (pre:=[x]) hN hj hz L hc hi (sC S) (λg s H l=>he g s H l) (λg s H l=>u g s H l) m S w F fr hs A) λD σ H hw=>gL rfl (by simp) (cG hl) σ H _ (kB G I D σ H hw)
theorem J4 (d:Y)(Q:U Y)(is:U Y)(o:U<|Str×RL)(u:U Str){z:Str}{pz f:Pos}{xx:M.X}{i t r:Y}(hi:PI X (.Tuple [.Name x px,.Name y py] kt pt) iter<|wI X.K sf C 2 k src)(w:∀g s H l,SB (ah X ([x,y]++u) scope o g s H l) (inF [t,r] Q) C cnd cd)(he:∀g s H l,SE (ah X ([x,y]++u) scope o g s H l) (inF [t,r] Q) C elt e)
  (S:ay [x,y] u scope) (A:Clo X o) (fr:Frees X scope o u is) (hN:X.N.Nodup) (I:i ∉ io:=by decide) (L:sf i=O d:=by rfl) (hj:X.N[d]?=O z:=by rfl) (hz:L2.Loc X.env.scope z:=by first|exact KL rfl|exact Kx rfl)
  (P:Ln (.ListComp elt [⟨(.Tuple [.Name x px,.Name y py] kt pt),iter,[cnd],0⟩] scope pos) (O<|.Name z pz) f.line X.env=pure true:=by rfl) (Z:X.calm=true:=by rfl) (hl:Q.map sf=is.map some:=by rfl) (nd:[t,r].Nodup:=by decide)
  (m:LD scope X.env=pure o:=by with_unfolding_all rfl) (G:(scope.names.all λp=>p.2 != .free || (o.lookup p.1).isSome)=true:=by rfl)
  (hs:∀v,Lj iter X.env v=pure v:=by intro _;rfl) (F:X.fn z=Kh\/X.env.scope.names.lookup z=O .local:=by first|exact .inl rfl|exact .inr rfl):SS X sf io C (.Assign [.Name z pz] (.ListComp elt [⟨(.Tuple [.Name x px,.Name y py] kt pt),iter,[cnd],0⟩] scope pos) f) (.asg xx i<|.comp h k src [t,r] (O cd) e):=
 b6 (jV (pre:=[x,y]) hN hj hz P Z hi (GG Z S) (λg s H l=>he g s H l) (λg s H l=>w g s H l) m S A G fr hs F) λD σ H hw=>gL rfl nd (cG hl) σ H _ (kB I L D σ H hw)
end
end
end MR

namespace MR
open PySem PySem.Spec PyProof.Rows L2 L3
section
variable {P:RS}{w:Ks}{K:Kk}{mg:Str->j B}{base:RU}
theorem mU {C:M.Call}{g:Y}{c:U Y}{d:U V}{H:Hp}{Q:VK}{E:XK}(b:∀a,C g a=.no)(h:spS K C g c d H Q E):RX:=by obtain⟨Z,a,G,w,bs,_,_,_,e,_⟩:=h;rw[b] at e;cases e
theorem fn0 {f:RL}{b:LF}{d:U Str}{k g:Y}{c:U Y}{C:M.Call}(a:∀e,C g e=.no):fI P w K mg base CX0 k f b d (spS K C g c):=
 ⟨λ_ _ _ _ h=>(mU a h).elim,λ_ _ _ _ _ _ _ _ _ _ _ _ _ h=>(mU a h).elim⟩
theorem oF {Z:Fp}{H:Hp}{a:RL}{b:U Int}(c:uJ H)(e:b.length<=63)(h:SqL K H a<|b.map V.int):Rep K Z H .d (.scr b) (.ref a) no:=by
 refine⟨a,rfl,K0 e<|by decide,?_⟩;rcases h with(z|⟨o,z⟩)|z
 .rcases c a with y|⟨o,xs,y⟩<;>rw[y] at z<;>cases z
 .exact .inl ⟨o,z⟩
 .exact .inr (.inr z)
theorem CV {H:Hp}{a:RL}{b:U Int}{C:M.Call}{c:Y}(hp:∃m bs,C c [(.d,.scr b)]=.ok ((m,.bl Kh),bs))(g:b.length<=63)(f:uJ H)(h:SqL K H a<|b.map V.int):spS K C c [] [.ref a] H (λv _=>v=.bl Kh) λ_ _ _=>RX:=by obtain⟨m,bs,e⟩:=hp;exact⟨no,[(.d,.scr b)],no,(m,.bl Kh),bs,RepW.one<|oF f g h,cI,λ_ z=>z.elim,e,λv n l i k r _ _ _ _=>r⟩
end
end MR

namespace MR
open PySem PySem.Spec PyProof.Rows L2 L3
structure SBs (as:U RL)(H H':Hp):Prop where
 keep:∀b u,b ∉ as->H b=O u->H' b=O u
 al:∀b,H b≠J->H' b≠J
instance {as:U RL} {H H':Hp}:CoeFun (SBs as H H') (λ_=>∀b u,b ∉ as->H b=O u->H' b=O u):=⟨λs=>s.keep⟩
end MR

namespace MR
open PySem PySem.Spec PyProof.Rows L2 L3
section
variable {X:Cx}{sf sg:Y->j Y}{io:U Y}{C:M.Call}{pos p2:Pos}{ea eb ec:RT}{a b c:M.E}{h:RN}{n:Y}
theorem zy {rest:U RT}{o l:TE}(p:PE X ea o)(r:PE X (.BoolOp .And (eb::rest) pos) l):PE X (.BoolOp .And (ea::eb::rest) pos) (λe H Q=>o e H λx f=>∃k,vf X.K x f k/\if k=Kh then l e f Q else Q x f):=by
 intro d s e H Q I h;refine BoolOp_and<|thn (p d s e H _ I h) λv u ⟨x,f,I1,m,t⟩=>?_;refine thn (oG d u e f x v (λk g=>if k=Kh then l e g Q else Q x g) I1 m t) λk w ⟨g,I2,i⟩=>?_;cases k with
 |true=>exact r d w e g Q I2<|by rw[RJ rfl] at i;exact i
 |false=>exact⟨x,g,I2,m,by rw[RK KH] at i;exact i⟩
theorem vA1 (d:SE X sf C ea a):SE X sf C (.BoolOp .And [ea] pos) a:=BL d
theorem jn {rest:U RT}(m:SE X sf C ea a)(o:SE X sf C (.BoolOp .And (eb::rest) pos) b):SE X sf C (.BoolOp .And (ea::eb::rest) pos) (.and a b):=ak (zy m o) λx H Q h=>by obtain⟨p,Z,g,u,w,f,A,ev,k⟩:=Ck x H Q h;exact⟨p,Z,g,u,w,f,A,ev,λv l i e G d r s=>let ⟨c,t,q⟩:=k v l i e G d r s;⟨c,la t,q⟩⟩
theorem sBW (h:SE X sf C ea a):SE X sf C ea a:=h
theorem rC {K:Kk}:Loc K 1 .tuple h λu H Q=>∃p d,u=[.ref p]/\((SqL K H p d/\∀l,H l=J->Q (.ref l) (upd H l<|.tup d))\/(SqT K H p d/\Q (.ref p) H)):=by
 intro t w u Z H G Q v e r s A k;obtain⟨⟨m,a⟩,rfl⟩:∃a,t=[a]:=by match t,v with|[a],_=>exact⟨a,rfl⟩
 obtain⟨x,rfl,i⟩:=bG rfl r;cases a with
 |lst y=>obtain⟨p,d,rfl,g,o,q⟩:=bc i;cases e;exact⟨p,d,rfl,.inl ⟨SqL.of g,λl f=>pw (m:=m.kid.up) (G':=G) s (λ_ z=>z) o (by rw[fP];exact q.zmono λ_ z=>.inl z) k f⟩⟩
 |tup y=>obtain⟨p,d,rfl,g,o,q⟩:=dk i;cases e;exact⟨p,d,rfl,.inr ⟨g,fv s k i⟩⟩
 |_=>cases e
theorem Dz {p:Pos}(hm:X.mg "tuple"=J)(f:Gl X "tuple":=by rfl)(ha:SE X sf C ea a)(e:Kl [ea] X.env=(Kg,RV ea X.env)::Kl [] X.env:=by rfl)(d:(KQ pos<|Kl [] X.env).any (·.1)=false:=by rfl):SE X sf C (.Call (.Name "tuple" p) [ea] [] pos) (.op .tuple h [a]):=
 ak (ef jq f hm Np (slc ha sl0 e) (by decide) (by decide) e d) (dH rC rfl)
end
end MR


namespace MR
open PySem PySem.Spec PyProof.Rows L2 L3
section
variable {X:Cx}{sf sg:Y->j Y}{io:U Y}{C:M.Call}{pos p2:Pos}{ea eb ec:RT}{a b c:M.E}{h:RN}{n:Y}
theorem rP {K:Kk}{o p:M.Op}{g g':Int->Int->RN}(inv:∀{u v w:M.W},M.oSem o Kg [u,v]=O w->∃m n i e,u=(m,.int i)/\v=(n,.int e)/\w=(.d,.bl<|g i e))(D:∀{u v w:M.W},M.oSem p Kg [u,v]=O w->∃m n i e,u=(m,.int i)/\v=(n,.int e)/\w=(.d,.bl<|g' i e))
  (σ:L2.St) (H:Hp) (Q:VK) (hw:wE K sf C (.chain o p a b c) σ H Q):tN (rI0 λi e=>.bl<|g i e) (rI0 λi e=>.bl<|g' i e) (wE K sf C a) (wE K sf C b) (wE K sf C c) σ H Q:=by
 obtain⟨pv,Z,Fs,η,w,η',A,ev,k⟩:=hw;obtain⟨⟨x,η1⟩,h1,h2⟩:=aa<|show(M.evE C a η).bind (M.kC1 o p (M.evE C b)<|M.evE C c)=_ from ev;obtain⟨⟨y,r⟩,h3,h4⟩:=aa<|show(M.evE C b η1).bind (M.kC2 o p (M.evE C c) x)=_ from h2;obtain⟨⟨kk,η3⟩,h5,h6⟩:=aa<|show(M.ret r<|M.oSem o Kg [x,y]).bind (λk=>M.onB k.1.2 (M.then' (M.evE C c)<|M.kC3 p y) (M.okW (.d,.bl Kg)) k.2)=_ from h4;obtain⟨k',e5,e5'⟩:=aF h5;cases e5';obtain⟨m1,m2,i,e,rfl,rfl,rfl⟩:=inv e5;have dr:∀{Z:Fp} {H:Hp} {F Z1:Fp} {P:Hp} {l:Fps} {G1:Fp},Step Z H F Z1 P (λa=>tot l a\/G1 a)->Step Z H F Z1 P (tot l):=λs=>s.mono (λ_ z=>z) λ_ z=>.inl z;refine jo A h1 λvx Z1 P l G1 A1 r1 _ s1 _=>?_;have I:=A1.bare;refine jo I h3 λvy Z2 H2 L G2 A2 r2 _ s2 _=>⟨i,e,r1,r2,g i e,rfl,?_⟩;have t:=A2.bare;have G:=(dr s1).trans<|dr s2;have f:M.onB (.bl (g i e)) (M.then' (M.evE C c) (M.kC3 p (m2,.int e))) (M.okW (.d,.bl Kg)) r=.ok (w,η'):=h6;cases hg:g i e with
 |true=>rw[hg] at f;rw[RJ rfl];obtain⟨⟨z,η4⟩,h7,h8⟩:=aa<|show(M.evE C c r).bind (M.kC3 p (m2,.int e))=_ from f;obtain⟨z',e8,e8'⟩:=aF<|show M.ret η4 (M.oSem p Kg [(m2,.int e),z])=_ from h8;cases e8';obtain⟨n1,n2,i',j',e9,rfl,rfl⟩:=D e8;cases e9;refine jo t h7 λvz Z3 H3 N G3 A3 r3 _ s3 _=>⟨e,j',r2,r3,?_⟩;exact k _ Z3 H3 N no A3.bare rfl ((G.trans<|dr s3).mono (λ_ z=>z) λ_ z=>z.elim id λq=>q.elim)
 |false=>rw[hg] at f;rw[RK KH];cases f;exact k _ Z2 H2 L no t rfl (G.mono (λ_ z=>z) λ_ z=>z.elim id λq=>q.elim)
theorem qF (d:SE X sf C ea a)(e:SE X sf C eb b)(f:SE X sf C ec c)(g:lastMarks [.LtE,.Lt] [eb,ec]=false:=by with_unfolding_all rfl):SE X sf C (.Compare ea [.LtE,.Lt] [eb,ec] pos) (.chain .le .lt a b c):=
 ak (ub sW xp d e f g) (rP nW oE)
theorem wJ:OpR X (LC .IsNot) (λx y H Q=>∃a b,x=.bl a/\y=.bl b/\Q (.bl<|!(a==b)) H):=by intro d s f H x y v u Q I rx e h;obtain⟨a,b,rfl,rfl,q⟩:=h;cases rx;cases e;cases a<;>cases b<;>exact Ko<|Cg I q rfl
theorem lN {u v w:M.W}(e:M.oSem .isnB h [u,v]=O w):∃m n a b,u=(m,.bl a)/\v=(n,.bl b)/\w=(.d,.bl<|!(a==b)):=by obtain⟨m,a⟩:=u;obtain⟨n,b⟩:=v;cases a<;>first|(cases e;done)|(cases b<;>first|(cases e;done)|(cases e;exact⟨_,_,_,_,rfl,rfl,rfl⟩))
theorem uW {K:Kk}:Loc K 2 .isnB h λf H Q=>∀x y,f=[x,y]->∃a b,x=.bl a/\y=.bl b/\Q (.bl<|!(a==b)) H:=by intro A w f Z H G Q p e r s D k x y hx;subst hx;obtain⟨u,v,rfl⟩:=dN r.length.symm;obtain⟨l,o,t,z,d,g,i⟩:=cc r;obtain⟨m,n,a,b,rfl,rfl,rfl⟩:=lN e;exact⟨a,b,g,i,bR k⟩
theorem Dy (d:SE X sf C ea a)(f:SE X sf C eb b):SB X sf C (.Compare ea [.IsNot] [eb] pos) (.op .isnB h [a,b]):=dw wJ d f (bV _) (aL uW) λu v w e=>by obtain⟨_,_,_,_,_,_,rfl⟩:=lN e;exact⟨_,rfl⟩
theorem FW {e:RT}(d:SE X sf C ea a):PI X e ea (wI X.K sf C 2 .sq2 [a]):=jF (ky d) Cz
theorem yI {u w:M.W}(e:M.oSem .len Kg [u]=O w):∃n:Y,w=(.d,.int n):=by obtain⟨m,a⟩:=u;cases a<;>first|(cases e;exact⟨_,rfl⟩)|(cases e;done)
theorem Fh (e:Y){i:Y}{x:Str}{p y:Pos}(hm:X.mg "len"=J)(L:Gl X "len":=by rfl)(hs:sf i=O e:=by rfl)(G:X.N[e]?=O x:=by rfl)(hv:Vis X.env.scope x:=by first|exact KL rfl|exact Kx (KL rfl)|exact Kx<|Kx rfl)(I:(x==("__debug__":Str))=false:=by decide)
  (s:(x==("__classdict__":Str))=false:=by decide) (g:Kl [.Name x y] X.env=(Kg,RV (.Name x y) X.env)::Kl [] X.env:=by rfl) (t:(KQ pos<|Kl [] X.env).any (·.1)=false:=by rfl):SE X sf C (.Call (.Name "len" p) [.Name x y] [] pos) (.lenV i):=
 ak (bp lK L hm PR (aT (br G hv I s) cp g) (by decide) (by decide) g t) λσ H Q hw=>by
  obtain⟨pv,Z,F,D,w,η',A,ev,k⟩:=hw;obtain⟨w',e1,e2⟩:=aF<|show M.ret D ((M.rd D i).bind λw=>M.oSem .len Kg [w])=_ from ev;cases e2;cases m:M.rd D i with
  |none=>rw[m] at e1;cases e1
  |some l=>rw[m] at e1;have f:M.oSem .len Kg [l]=O w:=e1;obtain⟨n,rfl⟩:=yI f;obtain⟨v,r,u⟩:=A.env i l.1 l.2 m;obtain⟨x',n',hx,P,hq⟩:=lJ (K:=X.K) (h:=Kg) [l] (.d,.int n) [v] Z H (F i) (λv' _=>v'=.int n) rfl f (RepW.one r) (λa o=>A.gd.own a ⟨i,o⟩) A.gd.zal (λ_ _ _ _ r _ _=>r);cases hx;cases hq;exact⟨v,u.1 e hs,v,n,rfl,P,k _ Z H F no A rfl ((Step.refl _ _ _).mono (λ_ z=>z) λa o=>o.elim id λz=>z.elim)⟩
end
end MR

namespace MR
open PySem PySem.Spec PyProof.Rows L2 L3
section
variable {X:Cx}{sf sg:Y->j Y}{C:M.Call}{pos p2 p3:Pos}{ea eb ec:RT}{a b c:M.E}{h:RN}{n:Y}{io:U Y}
theorem F6 {K:Kk}{f d:U Y}{e:M.E}(g:L2.St)(H:Hp)(Q:VK)(h:wE K sf C (.qx f d e) g H Q):wE K sf C e g H Q:=by obtain⟨i,Z,m,o,w,l,A,ev,k⟩:=h;exact ku (x:=.q f d) (sl:=⟨sf,i⟩) A ev k
theorem sQ {f e:U Y}(d:SE X sf C ea a):SE X sf C ea (.qx f e a):=ak d F6
def Bb (K:Kk)(H:Hp):U Y->V->V->Prop
|[],v,u=>u=v
|d::p,v,u=>∃a e x,v=.ref a/\(SqL K H a e\/SqT K H a e)/\e[d]?=O x/\Bb K H p x u
def wP (K:Kk)(sf:Y->j Y)(i:Y)(p:U Y):TE:=λe H Q=>∃d v u,sf i=O d/\e[d]?=O (O v)/\Bb K H p v u/\Q u H
abbrev SP (X:Cx)(sf:Y->j Y)(d:RT)(i:Y)(p:U Y):Prop:=PE X d<|wP X.K sf i p
def Fq (d:Fps)(i:Y)(G:Fp):Fps:=λl a=>(l=i/\G a)\/(l≠i/\d l a)
end
end MR

namespace MR
open PySem PySem.Spec PyProof.Rows L2 L3
theorem fsc {N P:U Str}{a:R6}(b:a.kind=.function:=by rfl)(c:a.isCoroutine=false:=by rfl)(d:a.isGenerator=false:=by rfl)(e:N.Nodup:=by decide +kernel)(f:N.take P.length=P:=by rfl)(g:∀x∈P,a.names.lookup x=O .local\/a.names.lookup x=O .cell:=by decide +kernel)(h:∀y∈a.names,y.2≠.free:=by decide +kernel):au N P a:=⟨b,c,d,e,f,g,h⟩
theorem csc {pre b:U Str}{a:R6}(c:a.kind=.function:=by rfl)(d:∀y∈a.names,y.2≠.cell:=by decide +kernel)(e:∀y∈a.names,y.2=.local->a.names.lookup y.1=O .local:=by decide +kernel)(f:∀x∈pre,a.names.lookup x=O .local:=by decide +kernel)(g:(pre++b).Nodup:=by decide +kernel):ay pre b a:=⟨c,d,e,f,g⟩
section
variable {P:RS}{w:Ks}{K:Kk}{mg:Str->j B}{base:RU}{x:Str}{st:R0}{ps N:U Str}{n g:Y}{io:U Y}{C C':M.Call}{d:B}{t:M.T}
structure Df (K:Kk)(mg:Str->j B)(x:Str)(st:R0)(ps:U Str):Prop where
 ex:∃f fd,Fun K x x st f fd/\Binds K fd ps []/\mg x=O (.ref f)
theorem Df.ok (e:Df K mg x st ps)(h:∀f a,Fun K x x st f a->fI P w K mg base CX0 n f a ps (spS K C g io)):ae P w K mg base n C x g io:=by obtain⟨f,a,F,b,m⟩:=e.ex;exact⟨f,a,ps,h f a F,m,F.kp,b⟩
theorem Df.z (e:Df K mg x st ps)(a:∀b,C g b=.no:=by intro _;rfl):ae P w K mg base n C x g io:=e.ok λ_ _ _=>fn0 a
theorem Df.s (a:M.Fn)(e:Df K mg x st ps)(S:au N ps<|defScope st)
  (r:∀{f:RL} {c:B} {A:KO} {b:U Env} {s:Ki} {H:Hp} {E:XK},Room n (A.deeper<|LQ x (defScope st) s.heap.objs.size f c)->SSs (kx CX0 P w K mg base N x (defScope st) f c A b s H E).nox (slN N.length) a.io C (defBody st) a.body)
  (p:∀o,C' g o=M.runF C a o:=by intro _;rfl) (m:a.ps=ps.length:=by rfl) (l:ps.length<=N.length:=by decide) (nd:a.io.Nodup:=by decide) (k:∀i∈a.io,i<ps.length:=by decide):ae P w K mg base (n+1) C' x g a.io:=
 e.ok λ_ _ F=>Fun.okM F S m l nd k (λ_ _ _ _ _ _ h=>r h) p
def Raw (K:Kk)(x:Str)(st:R0)(c:B):Prop:=∃f h i l kV e k an a b,O5 K K3 x=O (O<|.ref f)/\K.lookup f=O ⟨h,i,.func<|Mu x x (defArgs st) (defBody st) (defScope st) c kV e k an a b,l⟩/\Ov K a x=Kh/\NA K (.ref f)=Kh
theorem a0 {h:RU}(X:K.In h)(G:h.Ns K3 mg)(r:Raw K x st .none)(p:∀(kV b i:B) (an:j RL) (a e:B) (c:U B),c.length=ps.length->bindArgs (Mu x x (defArgs st) (defBody st) (defScope st) .none kV b i an a e) ⟨c,[]⟩=pure (ps.zip c)):Df K mg x st ps:=by obtain⟨f,v,y,z,kV,u,i,an,s,e,k,l,m,o⟩:=r;have F:=tK (st:=st) l m o;exact⟨f,_,F,F.binds p,Qo X G k⟩
def Cu (K:Kk):U Str->Prop
|[]=>Sv
|x::r=>O5 K K3 x=O J/\Cu K r
theorem Dj {h:RU}(X:K.In h)(G:h.Ns K3 mg)(r:Cu K ["isinstance","int","tuple","list","bool","sum","len","all","zip","range","enumerate","any","max","min","sorted","str","repr","abs","dict","set","reversed"]):Txt mg:=by obtain⟨v,y,A,D,F,H,I,L,M,a,b,c,e,f,i,k,l,o,p,s,u,_⟩:=r;have m:=λ{x:Str} (z:O5 K K3 x=O J)=>PySem.W.mg_none_of X G z;exact⟨m v,m y,m A,m D,m F,m H,m I,m L,m M,m a,m b,m c,m e,m f,m i,m k,m l,m o,m p,m s,m u⟩
end
end MR

namespace MR
open PySem PySem.Spec PyProof.Rows L2 L3
section
variable {X:Cx}{sf sg:Y->j Y}{C:M.Call}{pos p p2 p3:Pos}{ea eb ec:RT}{a b c:M.E}{h:RN}{n:Y}{io:U Y}{K:Kk}
theorem Az:Loc K 1 .any h λi H Q=>∃(a:RL) (bs:U RN),i=[.ref a]/\SqL K H a (bs.map V.bl)/\Q (.bl<|bs.any id) H:=by
 intro u w i Z H G Q s e r y z k
 match u,s with
 | [(m,a)],_ =>
  obtain⟨x,rfl,t⟩:=bG rfl r;cases a with
  | lst o =>
   obtain⟨a,i,hx,l,v,p⟩:=bc t;have f:(M.boolsOf o).map (λg=>((.d,.bl (g.any id)):M.W))=O w:=e;cases e1:M.boolsOf o with
   |none=>rw[e1] at f;cases f
   |some g=>rw[e1] at f;cases f;rw[jJ e1 p] at l;exact⟨a,g,by rw[hx],.inl<|.inl l,bR k⟩
  |_=>cases e
theorem J2 (f:X.calm=true:=by rfl)(hm:X.mg "any"=J)(g:Gl X "any":=by rfl)(ha:SE X sf C ea a)(e:Kl [ea] X.env=(Kg,RV ea X.env)::Kl [] X.env:=by rfl)(d:(KQ pos<|Kl [] X.env).any (·.1)=false:=by rfl):SE X sf C (.Call (.Name "any" p) [ea] [] pos) (.op .any h [a]):=
 ak (bp (qY f) g hm (by rfl) (slc ha sl0 e) (by decide) (by decide) e d) (dH Az rfl)
theorem ke:∀{d:U Int} {m:Int},m∈d->(∀n∈d,n<=m)->M.maxI d=m
|[n],m,h,_=>(K1.mp h).symm
| n::i::d,m,h,f=>by
 show max n (M.maxI (i::d))=m;rcases KD.mp h with e|e
 .subst e
  have g:∀l:U Int,l≠[]->(∀x∈l,x<=m)->M.maxI l<=m:=by
   intro l;induction l with
   |nil=>intro z;exact RM rfl z
   | cons y l k =>
    intro _ z;cases l with
    |nil=>exact z y Ku
    |cons o l=>have:=k (by simp) λx hx=>z x<|Kw _ hx;have:=z y Ku;show max y (M.maxI (o::l))<=m;lia
  have:=g (i::d) (by simp) λx hx=>f x<|Kw _ hx;lia
 .have:=ke e fun x hx=>f x<|Kw _ hx;have:=f n Ku;lia
theorem uY:Loc K 1 .max1 h λl H Q=>∃(a:RL) (f:U Int),l=[.ref a]/\SqL K H a (f.map V.int)/\f≠[]/\∀M,M∈f->(∀n∈f,n<=M)->Q (.int M) H:=by
 intro A w l Z H G Q v e r F I k
 match A,v with
 | [(m,a)],_ =>
  obtain⟨x,rfl,y⟩:=bG rfl r;cases a with
  | lst s =>
   obtain⟨a,l,hx,o,D,p⟩:=bc y;have g:((M.intsOf s).bind λf=>if f.isEmpty then J else O ((.d,.int (M.maxI f)):M.W))=O w:=e;cases e1:M.intsOf s with
   |none=>rw[e1] at g;cases g
   | some f =>
    rw[e1] at g;have e2:(if f.isEmpty=Kh then J else O ((.d,.int (M.maxI f)):M.W))=O w:=g;split at e2
    .cases e2
    .rename_i i;cases e2;rw[dW e1 p] at o;refine⟨a,f,by rw[hx],.inl<|.inl o,λz=>i<|by rw[z];rfl,λm t u=>?_⟩;rw[<- ke t u];exact aN k
  |_=>cases e
theorem Ih (f:X.calm=true:=by rfl)(hm:X.mg "max"=J)(g:Gl X "max":=by rfl)(ha:SE X sf C ea a)(e:Kl [ea] X.env=(Kg,RV ea X.env)::Kl [] X.env:=by rfl)(d:(KQ pos<|Kl [] X.env).any (·.1)=false:=by rfl):SE X sf C (.Call (.Name "max" p) [ea] [] pos) (.op .max1 h [a]):=
 ak (bp (qM f) g hm (by rfl) (slc ha sl0 e) (by decide) (by decide) e d) (dH uY rfl)
theorem eZ {Z:Fp}{H:Hp}{G:Fp}{m:M.Md}{t:M.T}{x:V}(g:M.flatT t=Kh)(r:Rep K Z H m t x G):eM x=Kh/\∀(u:M.T) (y:V) {m':M.Md} {G':Fp},M.flatT u=Kh->Rep K Z H m' u y G'->eqV y x=M.eqT u t:=by
 cases t with
 |non=>cases r;refine⟨rfl,λu y m' G' f d=>?_⟩;cases u<;>first|(cases d;rfl)|(obtain⟨e,_⟩:=d;cases e;rfl)|cases f
 |bl b=>cases r;refine⟨rfl,λu y m' G' f d=>?_⟩;cases u<;>first|(cases d;rfl)|(cases d;cases b<;>rfl)|(obtain⟨e,_⟩:=d;cases e;rfl)|cases f
 |int i=>cases r;refine⟨rfl,λu y m' G' f d=>?_⟩;cases u with
  |bl c=>cases d;cases c<;>rfl
  |_=>first|(cases d;rfl)|(obtain⟨e,_⟩:=d;cases e;rfl)|cases f
 |str z=>obtain⟨e,_⟩:=r;cases e;refine⟨rfl,λu y m' G' f d=>?_⟩;cases u<;>first|(cases d;rfl)|(obtain⟨e,_⟩:=d;cases e;rfl)|cases f
 |_=>cases g
theorem pf {Z:Fp}{H:Hp}{G:Fp}{m:M.Md}{t:M.T}{x:V}(i:M.flatT t=Kh)(r:Rep K Z H m t x G):∀{f:U M.T} {g:U V} {m':M.Md} {G':Fp},f.all M.flatT=Kh->RepL K Z H m' f g G'->g.all eM=Kh/\L2.inV x g=f.any λu=>M.eqT u t
|[],_,_,_,_,h=>by cases h;exact⟨rfl,rfl⟩
|u::f,_,m',_,d,⟨y,s,v,w,e,_,_,_,q,o⟩=>by cases e;rw[Ox,KS] at d;obtain⟨k,l⟩:=pf i r d.2 o;refine⟨by rw[Ox,(eZ d.1 q).1,k];rfl,?_⟩;show(eqV y x || L2.inV x s)=_;rw[MY,l,(eZ i r).2 u y d.1 q]
theorem D8 {k:RN}{u v w:M.W}{o:M.Op}(ho:o=if k then .notin else .isin)(e:M.oSem o h [u,v]=O w):∃f,M.elems v=O f/\M.flatT u.2=Kh/\f.all M.flatT=Kh/\w=(.d,.bl<|if k then !f.any (λt=>M.eqT t u.2) else f.any λt=>M.eqT t u.2):=by
 obtain⟨m,a⟩:=u;obtain⟨n,b⟩:=v;subst ho;cases k with
 |true=>
  obtain⟨f,l,g⟩:=Rt.mp<|show(M.elems (n,b)).bind (λf=>if(M.flatT a&&f.all M.flatT)=Kh then O ((.d,.bl<|!f.any λt=>M.eqT t a):M.W) else J)=O w from e;split at g
  .rename_i i;rw[KS] at i;cases g;exact⟨f,l,i.1,i.2,rfl⟩
  .cases g
 |false=>
  obtain⟨f,l,g⟩:=Rt.mp<|show(M.elems (n,b)).bind (λf=>if(M.flatT a&&f.all M.flatT)=Kh then O ((.d,.bl<|f.any λt=>M.eqT t a):M.W) else J)=O w from e;split at g
  .rename_i i;rw[KS] at i;cases g;exact⟨f,l,i.1,i.2,rfl⟩
  .cases g
theorem Du (g:RN){o:M.Op}(ho:o=if g then .notin else .isin):Loc K 2 o h λf H Q=>∀x y,f=[x,y]->rIn K g x y H Q:=by
 intro ws w f Z H G Q F e r I za k x y hx;subst hx;obtain⟨⟨m,a⟩,⟨n,b⟩,rfl⟩:=dN r.length.symm;obtain⟨A,D,N,P,d,i,u⟩:=cc r;obtain⟨L,e1,e2,e3,rfl⟩:=D8 ho e;cases b with
 |lst z=>cases e1;obtain⟨p,f,rfl,t,v,q⟩:=bc u;obtain⟨l,s⟩:=pf e2 i e3 q;refine⟨p,f,rfl,.inl<|.inl<|.inl t,(eZ e2 i).1,l,?_⟩;rw[s];exact bR k
 |tup z=>cases e1;obtain⟨p,f,rfl,t,v,q⟩:=dk u;obtain⟨l,s⟩:=pf e2 i e3 q;refine⟨p,f,rfl,.inr t,(eZ e2 i).1,l,?_⟩;rw[s];exact bR k
 |_=>cases e1
theorem Gi (d:SE X sf C ea a)(e:SE X sf C eb b)(f:Nc .In eb=false:=by rfl):SE X sf C (.Compare ea [.In] [eb] pos) (.op .isin h [a,b]):=ak (dD rY d e f)<|aL<|Du Kg rfl
end
theorem rH {X:Cx}:cy X (.type "range") (λc H Q=>∃a,c=[.int a]/\∀p,H p=J->Q (.ref p) (upd H p<|.rng 0 a)):=by intro b s f H c d Q I r h;obtain⟨a,rfl,q⟩:=h;obtain⟨u,rfl,t,rfl⟩:=c5 r;refine call_range_1 ?_;exact⟨.ref s.heap.objs.size,upd H s.heap.objs.size<|.rng 0 a,I.laid (t':=s.toks+2) (λ_ _ e=>Heap.get?_push_of_some _ e) (Kt _) ⟨_,_,_,Heap.get?_push_size _ rfl⟩,rfl,q _ I.fresh⟩
section
variable {X:Cx}{sf sg:Y->j Y}{C:M.Call}{pos p p2 p3:Pos}{ea eb ec:RT}{a b c:M.E}{h:RN}{io:U Y}
theorem G9 (hm:X.mg "list"=J)(D:X.mg "range"=J)(g:SE X sf C ea a)(i:X.calm=true:=by rfl)(hg:Gl X "list":=by rfl)(x:Gl X "range":=by rfl)
  (P:Kl [.Call (.Name "range" p3) [ea] [] p2] X.env=(Kg,RV (.Call (.Name "range" p3) [ea] [] p2) X.env)::Kl [] X.env:=by rfl) (F:(KQ pos<|Kl [] X.env).any (·.1)=false:=by rfl)
  (r:Kl [ea] X.env=(Kg,RV ea X.env)::Kl [] X.env:=by rfl) (n:(KQ p2<|Kl [] X.env).any (·.1)=false:=by rfl) {p4:Pos}:
  SE X sf C (.Call (.Name "list" p4) [.Call (.Name "range" p3) [ea] [] p2] [] pos) (.op .rng h [.cst<|.int 0,a]):=
 ak (ef (oU i) hg hm Mw (aT (ef rH x D RF (aT g cp r) (by decide) (by decide) r n) cp P) (by decide) (by decide) P F) fun σ H Q hw=>by
  obtain⟨pv,Z,Fs,η,w,I,A,ev,k⟩:=hw;obtain⟨ws,h1,N⟩:=dz ev;obtain⟨⟨m,u⟩,η1,us,e1,e2,rfl⟩:=aH h1;obtain⟨⟨m',u'⟩,η2,us,e3,e4,rfl⟩:=aH e2;cases e4;cases e1;cases u' with
  | int f =>
   have v:(if(decide ((0:Int).natAbs<4611686018427387904)&&decide (f.natAbs<4611686018427387904)&&M.fits (f-0).toNat)=Kh then O ((.d,.lst ((Kq (f-0).toNat).map λ(k:Y)=>M.T.int (0+k))):M.W) else J)=O w:=N;split at v
   .rename_i i;rw[KS,KS,RP,RP] at i;cases v;refine⟨pv,Z,Fs,η,(m',.int f),I,A,e3,λy L t Fs2 G2 s r2 s2=>?_⟩;cases r2;refine⟨f,rfl,λp hp=>⟨p,0,f,rfl,av,⟨by lia,by lia,by lia,by lia⟩,bO (cB i.2),λl hl=>?_⟩⟩;have G:=fF (o:=.rng 0 f) hp;have ow:Own L (upd t p (.rng 0 f)) G2:=λa g=>by obtain⟨z1,ys,z2⟩:=s.own a g;exact⟨z1,ys,G a _ z2⟩
    have za:∀a,L a->upd t p (.rng 0 f) a≠none:=λa g q=>by
     cases e:t a with
     |none=>exact s.gd.zal a g e
     |some o=>rw[G a o e] at q;cases q
    have kk:=ma G<|cJ s s2 k;refine bK (m:=.d) (G':=no) ow za (λ_ z=>z.elim) ?_ ?_ (by simp) kk hl
    .rw[Kr,K9];exact cB i.2
    .have q1:((Kq (f-0).toNat).map fun (k:Y)=>M.T.int (0+(k:Int)))=((Kq (f-0).toNat).map fun (k:Y)=>0+(k:Int)).map M.T.int:=by rw [Lh]; rfl
     have q2:((Kq (f-0).toNat).map λ(k:Y)=>V.int (0+(k:Int)))=((Kq (f-0).toNat).map λ(k:Y)=>0+(k:Int)).map V.int:=by rw[Lh];rfl
     rw[q1,q2];exact fR _
   .cases v
  |_=>cases N
end
section
variable {X:Cx}{sf sg:Y->j Y}{C:M.Call}{pos p p2 p3:Pos}{ea eb ec:RT}{a b c:M.E}{h:RN}{io:U Y}{K:Kk}
theorem DZ {x y:Int}(h:y.natAbs<18446744073709551616):Builtin.divisionGoesByPylong x y=false:=by
 refine PyProof.noPylong_of_log2 ?_;by_cases d:y.natAbs=0
 .rw[d];decide +kernel
 .have e:y.natAbs.log2<64:=(Nat.log2_lt d).mpr h;lia
theorem uR:OpR X (Lw .FloorDiv) (rI (λ_ d=>d≠0/\d.natAbs<18446744073709551616) λi d=>.int<|i.fdiv d):=opI λ_ _ _ _ _ _ _ e q=>floordiv_int e.1 q<|.inl<|DZ e.2
theorem qR:Loc K 2 .fdivN h λo H Q=>∀x y,o=[x,y]->rI (λ_ f=>f≠0/\f.natAbs<18446744073709551616) (λi f=>.int<|i.fdiv f) x y H Q:=by
 intro I w o Z H G Q z e r A L k x y hx;subst hx;obtain⟨⟨m,a⟩,⟨n,b⟩,rfl⟩:=dN r.length.symm;obtain⟨u,v,D,F,d,s,t⟩:=cc r;cases a<;>first|(cases e;done)|(cases b<;>try (cases e;done))
 rename_i i f;have g:(if((f != 0)&&decide (f.natAbs<18446744073709551616))=Kh then O ((.d,.int (i.fdiv f)):M.W) else J)=O w:=e;split at g
 .rename_i l;rw[KS,RP,bne_iff_ne] at l;cases g;exact⟨i,f,s,t,l,aN k⟩
 .cases g
theorem tf:Loc K 2 .modN h λo H Q=>∀x y,o=[x,y]->rI (λ_ f=>f≠0) (λi f=>.int<|i.fmod f) x y H Q:=by
 intro I w o Z H G Q z e r A L k x y hx;subst hx;obtain⟨⟨m,a⟩,⟨n,b⟩,rfl⟩:=dN r.length.symm;obtain⟨u,v,D,F,d,s,t⟩:=cc r;cases a<;>first|(cases e;done)|(cases b<;>try (cases e;done))
 rename_i i f;have g:(if(f != 0)=Kh then O ((.d,.int (i.fmod f)):M.W) else J)=O w:=e;split at g
 .rename_i l;rw[bne_iff_ne] at l;cases g;exact⟨i,f,s,t,l,aN k⟩
 .cases g
theorem v8 (d:SE X sf C ea a)(e:SE X sf C eb b):SE X sf C (.BinOp ea .FloorDiv eb pos) (.op .fdivN h [a,b]):=ak (gj uR d e)<|aL qR
theorem gg (d:SE X sf C ea a)(e:SE X sf C eb b):SE X sf C (.BinOp ea .Mod eb pos) (.op .modN h [a,b]):=ak (gj xV d e)<|aL tf
end
end MR


namespace MR
open PySem PySem.Spec PyProof.Rows L2 L3 M
section
variable {X:Cx}{sf sg:Y->j Y}{C:M.Call}{pos p p2 p3:Pos}{io:U Y}{K:Kk}{Wx:L2.St->VK}{tg:U Y}
theorem zh {n:Y}{k:Ik}{w:U M.E}{js:U Y}{e:U M.S}(hn:tg.length=n)(nd:tg.Nodup)(hio:∀t∈tg,t ∉ io)(hjs:tg.map sf=js.map O)(D:bH)(σ:L2.St)(H:Hp)(h:wS K Wx sf io C (.forU k w tg e) D σ H):
  Eb (wI K sf C n k w) (gF K js) (wSs K Wx sf io C e) D σ H:=by
 obtain⟨r,Z,P,η,N,A,f⟩:=h;obtain⟨⟨ws,z⟩,h1,h2⟩:=bq<|show Fin K Wx ⟨sf,r⟩ Z H (tot P) D (Fl.of η (evL C w η)<|qi k tg<|evSs C e) from f;obtain⟨⟨g,F⟩,h3,h4⟩:=bq<|show Fin K Wx ⟨sf,r⟩ Z H (tot P) D (Fl.of z (M.ret z<|bN k ws)<|lY tg<|evSs C e) from h2;obtain⟨ts',ht,e3⟩:=aF h3;have e4:g=ts':=RY Oa e3;have e5:F=z:=RY Me e3;subst e4 e5;have h4':Fin K Wx ⟨sf,r⟩ Z H (tot P) D (aS tg (evSs C e) g F):=h4;refine⟨r,Z,P,η,ws,F,g,A,h1,ht,λd Z1 H1 Fs1 c s wk yl=>?_⟩;refine⟨λi m G I=>m=g.length-i/\i<=g.length/\∃u l o,At K ⟨sf,r⟩ G u I l o no/\Step Z1 H1 (tot Fs1) u I (tot l)/\Fin K Wx ⟨sf,r⟩ u I (tot l) D (aS tg (evSs C e) (g.drop i) o),⟨g.length,by simp,K4 _,_,_,_,c,Step.refl _ _ _,h4'.step s⟩,?_⟩;rintro i m σi L ⟨rfl,hi,u,l,o,Ai,si,Q⟩;have st:Stay Z1 H1 L:=c.gd.own.stay si;by_cases v:i<g.length
 .right;refine⟨wk.go L i st v,_,λG I hw=>⟨g.length-(i+1),by lia,hw⟩,λx I y=>?_⟩;have hw:g[i]?=O g[i]:=by simp[v]
  rw[eB hw] at Q;obtain⟨ηb,hb,fb⟩:=bq<|show Fin K Wx ⟨sf,r⟩ u L (tot l) D (Fl.of o (ofO<|bA tg g[i] o) λη1=>Fl.turn (evSs C e η1)<|aS tg (evSs C e)<|g.drop<|i+1) from Q;refine mO hn nd N hio hjs (λa h=>si.zm a h) st yl Ai hw (bZ hb) y λσ2 H2 Fs2 A2 t2=>?_;refine⟨r,u,Fs2,ηb,N,A2,iS (fb.step t2) λη' G Z' I Fs' _ f' A' s'=>⟨rfl,v,Z',Fs',η',A',(si.trans t2).trans s',f'.step s'⟩⟩
 .left;have hi':i=g.length:=by lia
  subst hi';rw[NV] at Q;exact⟨wk.stop L _ st<|Kt _,Q σi u L l Ai<|Step.refl _ _ _⟩
theorem GY (a:Y){t:Y}{x:Str}{f:Pos}{b:RT}{r:U R0}{s:U M.S}{k:M.Ik}{c:U M.E}(g:X.N.Nodup)(n:PI X (.Name x f) b<|wI X.K sf C 1 k c)(h:SSs X sf io C r s)(d:∀u∈[t],u ∉ io:=by decide)(e:[t].map sf=[a].map some:=by rfl)(o:X.N[a]?=O x:=by rfl)(hx:L2.Loc X.env.scope x:=by first|exact KL rfl|exact Kx rfl)
  (l:X.calm=true:=by rfl) (hp:M3 (Km X.prog X.w) X.A X.env X.xe:=by exact PassesOwn.never) (m:X.fn x=Kh\/X.env.scope.names.lookup x=O .local:=by first|exact .inl rfl|exact .inr rfl) (v:∀x,Lj b X.env x=pure x:=by intro _;rfl):SS X sf io C (.For (.Name x f) b r [] pos) (.forU k c [t] s):=
 b6 (nH hp l n (dj (i:=a) g o hx m) h v) (zh rfl (by simp) d e)
end
end MR


namespace L3
open PySem PySem.Spec PyProof.Rows L2
theorem fN:∀{a:U Int} {b:U B},Sa b a->Vals (a.map V.int) b
|_,_,.nil=>.nil
|_,_,.cons n t h=>.cons ⟨t,rfl⟩<|fN h
theorem oj {X:Cx}:cy X (.builtin "sorted") (λl H Q=>∃(a:RL) (c:U Int),l=[.ref a]/\SqL X.K H a (c.map V.int)/\c.length<64/\∀b:U Int,b.Perm c->b.Pairwise (·<=·)->∀p,H p=J->Q (.ref p) (upd H p<|.lst<|b.map V.int)):=by intro k s D H l A Q I r h;obtain⟨a,c,rfl,t,o,q⟩:=h;obtain⟨u,rfl,x⟩:=c5 r;cases x;obtain⟨d,y,p,z⟩:=I.list t;have g:=bS y;have i:d.length=c.length:=IntsAre.length g;refine sorted_ints p.isList g (by lia) λout b m f n=>?_;obtain⟨e,v⟩:=sortedAll_at s.heap d out;have w:b.length=c.length:=f.length_eq;refine⟨.ref<|s.heap.objs.size+1,upd H (s.heap.objs.size+1)<|.lst<|b.map V.int,I.laid (t':=s.toks) (λ_ _=>sortedAll_old) (Nf _) ⟨by rw[Kr,M4];lia,out.toList,e,fN m,by rw[v,Pa]⟩,rfl,q _ f n _<|I.hok.fresh<|Nf _⟩
end L3
namespace MR
open PySem PySem.Spec PyProof.Rows L2 L3
section
variable {X:Cx}{sf sg:Y->j Y}{C:M.Call}{pos p p2 p3:Pos}{ea eb ec:RT}{a b c:M.E}{h:RN}{n:Y}{io:U Y}{K:Kk}
theorem qc (x:Int):∀l:U Int,l.Pairwise (·<=·)->(M.insI x l).Perm (x::l)/\(M.insI x l).Pairwise (·<=·)
|[],_=>⟨.refl _,List.pairwise_singleton _ _⟩
| y::i,hp=>by
 obtain⟨g,k⟩:=Mt.mp hp;obtain⟨a,b⟩:=qc x i k;unfold M.insI;split
 .rename_i d;exact⟨.refl _,Mt.mpr ⟨λz f=>(KD.mp f).elim (λe=>e ▸ d) λf=>Int.le_trans d<|g z f,hp⟩⟩
 .rename_i d;refine⟨(a.cons y).trans (.swap x y i),Mt.mpr ⟨λz f=>?_,b⟩⟩;rcases KD.mp (a.mem_iff.mp f) with rfl|f
  .omega
  .exact g z f
theorem dQ:∀l:U Int,(M.sortI l).Perm l/\(M.sortI l).Pairwise (·<=·)
|[]=>⟨.refl _,.nil⟩
|x::l=>by obtain⟨a,b⟩:=dQ l;obtain⟨c,d⟩:=qc x _ b;exact⟨c.trans<|a.cons x,d⟩
theorem mi {d e:U Int}(g:e.Perm d)(i:e.Pairwise (·<=·)):e=M.sortI d:=
 List.Perm.eq_of_pairwise (le:=λa b:Int=>a<=b) (λa b _ _ h f=>Int.le_antisymm h f) i (dQ d).2 (g.trans (dQ d).1.symm)
theorem ph:Loc K 1 .sorted h λs H Q=>∃(a:RL) (f:U Int),s=[.ref a]/\SqL K H a (f.map V.int)/\f.length<64/\∀l:U Int,l.Perm f->l.Pairwise (·<=·)->∀p,H p=J->Q (.ref p) (upd H p<|.lst<|l.map V.int):=by
 intro L w s Z H G Q A e r F N k
 match L,A with
 | [(m,a)],_ =>
  obtain⟨x,rfl,I⟩:=bG rfl r;cases a with
  | lst u =>
   obtain⟨a,s,hx,t,P,p⟩:=bc I;have i:((M.intsOf u).bind λf=>if decide (f.length<64)=Kh then O ((.d,.lst ((M.sortI f).map M.T.int)):M.W) else J)=O w:=e;cases e1:M.intsOf u with
   |none=>rw[e1] at i;cases i
   | some f =>
    rw[e1] at i;have e2:(if decide (f.length<64)=Kh then O ((.d,.lst ((M.sortI f).map M.T.int)):M.W) else J)=O w:=i;split at e2
    .rename_i g;cases e2;have g:=R3 g;rw[dW e1 p] at t;refine⟨a,f,by rw[hx],.inl<|.inl t,g,λl v y q D=>?_⟩;rw[mi v y];have o:(M.sortI f).length=f.length:=(dQ f).1.length_eq;exact bK (G':=no) F N (λ_ z=>z.elim) (by rw[Kr,o];show _<=16777215;lia) (fR _) (by simp) k D
    .cases e2
  |_=>cases e
theorem As (hm:X.mg "sorted"=J)(f:Gl X "sorted":=by rfl)(ha:SE X sf C ea a)(e:Kl [ea] X.env=(Kg,RV ea X.env)::Kl [] X.env:=by rfl)(d:(KQ pos<|Kl [] X.env).any (·.1)=false:=by rfl):SE X sf C (.Call (.Name "sorted" p) [ea] [] pos) (.op .sorted h [a]):=
 ak (bp oj f hm (by rfl) (slc ha sl0 e) (by decide) (by decide) e d) (dH ph rfl)
end
end MR


namespace MR
open PySem PySem.Spec PyProof.Rows L2 L3
theorem slx {X:Cx}{d:Y->j Y}{C:M.Call}{b:RT}{a:M.E}{c:U RT}{bs:U M.E}(e:SE X d C b a)(f:SL X d C c bs)(g:Kl (b::c) X.env=(Kg,RV b X.env)::Kl c X.env):SL X d C (b::c) (a::bs):=slc e f g
theorem sTx {X:Cx}{b:Y->j Y}{C:M.Call}{pos:Pos}{a:U RT}{bs:U M.E}{d:Y}(c:bs.length<=M.LIM)(h:SL X b C a bs):SE X b C (.Tuple a d pos) (.tup bs):=sT h c
theorem sLx {X:Cx}{b:Y->j Y}{C:M.Call}{pos:Pos}{h:RN}{a:U RT}{bs:U M.E}(d:bs.length<=M.LIM)(c:SL X b C a bs):SE X b C (.List a pos) (.lst h bs):=sLs c d
theorem aj {X:Cx}{d:Y->j Y}{C:M.Call}{pos:Pos}{h:RN}{e c:RT}{a b:M.E}(f:SE X d C e a)(g:SE X d C c b)(i:kh c):SE X d C (.Subscript e c pos) (.op .ix h [a,b]):=sIx f g i
end MR

namespace TP
open PySem PySem.W
def en (P:Lk)(k:Str)(t:Y)(v:B):So:=⟨PyData.keyHash P k,.str k t,v⟩
def tu (a:U B):Obj:=⟨.type "tuple",J,.seq a.toArray 0,#[]⟩
def fe (a:U B):Obj:=⟨.none,J,.fields a.toArray,#[]⟩
def di (a:U So)(n:Y):Obj:=⟨.type "dict",J,.dict a.toArray n,#[]⟩
abbrev fl:Str:="/claim/cut.py"
def iv (i:Int):B:=.int i 0
def cdo (n q:Str)(t d:Y)(c e:Y)(f:Y)(a:Y)(b:RN)(x y z:B):Obj:=
 ⟨.type "code",J,.fields #[.str n t,.str q<|t+1,.str fl<|t+2,iv c,iv e,iv 0,iv 0,iv f,.ref a,.bool b,iv 181,.ref<|a+1,.none,x,y,z,iv d,iv c,.str fl<|d+1],#[]⟩
def ofn (c:B)(h:R0)(q:Str)(g:Y)(d m:B)(e:B):Obj:=match h with
|.FunctionDef n a b _ _ _ f _ _ _=>⟨c,J,.func {name:=n,qualname:=q,params:=a,body:=.stmts b,scope:=f,globals:=g,closure:=[],defaults:=d,kwdefaults:=.none,pyModule:=m,code:=e},#[]⟩
|_=>default
def tks:U Str->Y->U B
|[],_=>[]
|x::r,t=>.str x t::tks r (t+1)
structure R where
 os:U Obj
 ns:U So
 tb:U B
 n:Y
 tk:Y
 md:B
inductive Rc where
 |d|m|c
 |x (k:Str) (kt:Y) (v:B) (os:Lk->U Obj) (tb:U B) (n tk:Y)
def cv:RT->B
|.Constant (.bool b) _ _=>.bool b
|_=>.none
def dO (P:Lk)(n d:Y)(f:B)(g:R0):R:=match g with
| .FunctionDef e h b _ _ _ i _ _ pos =>
 let pr:U Obj×B×Y:=match h.defaults with
  |[]=>([],.none,n)
  |ds=>([tu<|ds.map cv],.ref n,n+1)
 let a:=pr.2.2
 match localNames h i (.stmts b) with
 | none=>⟨pr.1++[tu [],fe [],ofn .none g e 0 .none .none .none,cdo e e d (d+3) pos.line h.args.length 3 a Kh .none .none (.ref (a+2)),ofn (.type "function") g e 3 pr.2.1 f (.ref (a+3))],
   [en P e (d+5)<|.ref<|a+4],[iv pos.line,iv pos.col,.ref<|a+3],a+5,d+6,f⟩
 | some l =>
  let k:=l.1.length;let c:=l.2.length
  ⟨pr.1++[tu [],fe [],tu (tks l.1 (d+3)),tu (tks l.2 (d+3+k)),ofn .none g e 0 .none .none .none,cdo e e d (d+3+k+c) pos.line h.args.length 3 a Kh (.ref (a+2)) (.ref (a+3)) (.ref (a+4)),ofn (.type "function") g e 3 pr.2.1 f (.ref (a+5))],
   [en P e (d+5+k+c)<|.ref<|a+6],[iv pos.line,iv pos.col,.ref<|a+5],a+7,d+6+k+c,f⟩
|_=>⟨[],[],[],n,d,f⟩
def one (P:Lk)(n a:Y)(b:B)(e:R0):Rc->R
|.d=>dO P n a b e
|.m=>match e with
 |.Assign _ (.Constant (.str s) _ _) _=>⟨[],[],[],n,a+2,.str s a⟩
 |_=>⟨[],[],[],n,a,b⟩
|.c=>match e with
 |.Assign (.Name x _::_) (.Constant (.str s) _ _) _=>⟨[],[en P x (a+1)<|.str s a],[],n,a+2,b⟩
 |.Assign (.Name x _::_) (.Constant (.int i) _ _) _=>⟨[],[en P x (a+1)<|.int i a],[],n,a+2,b⟩
 |_=>⟨[],[],[],n,a,b⟩
|.x k g v os l h f=>⟨os P,[en P k g v],l,h,f,b⟩
def go (P:Lk):U (R0×Rc)->Y->Y->B->U R
|[],_,_,_=>[]
|(b,r)::l,n,c,a=>let x:=one P n c a b r
 x::go P l x.n x.tk x.md
def EZ (x:R):U R->R
|[]=>x
|y::l=>EZ y l
def ds:Data->U So
|.dict a _=>a.toList
|_=>[]
noncomputable def ep:Data->Y
|.dict _ n=>n
|_=>0
def r0:R:=⟨[],[],[],15,187,.str "__main__" 164⟩
def rs (P:Lk)(l:U<|R0×Rc):U R:=go P l 15 187<|.str "__main__" 164
def o3 (P:Lk)(l:U R):Obj:=di (en P "__name__" 165 (EZ r0 l).md::((ds (boot_o_3 P).data).tail++l.flatMap R.ns))<|ep (boot_o_3 P).data+(l.flatMap R.ns).length
def os (P:Lk)(l:U R):U Obj:=
 boot_o_0 P::boot_o_1 P::boot_o_2 P::o3 P l::boot_o_4 P::boot_o_5 P::boot_o_6 P::boot_o_7 P::boot_o_8 P::boot_o_9 P::boot_o_10 P ::
 tu []::fe (l.flatMap R.tb)::cdo "<module>" "<module>" 182 185 1 0 0 11 Kg .none .none .none ::
 ⟨.type "frame",J,.plain,#[O<|.ref 13,O<|.ref 3,O<|.ref 3,J,O<|.str "__main__" 164,J,O<|.ref 0]⟩::l.flatMap R.os
def odd {a:Type}:U a->U a×U a
|[]=>([],[])
|x::l=>(x::(odd l).2,(odd l).1)
def bt:Y->U Obj->BT
|0,_=>.nil
|_+1,[]=>.nil
|k+1,x::l=>.node x (bt k (odd l).1)<|bt k (odd l).2
abbrev p0:Pos:=⟨0,0,0,0⟩
abbrev B0:U Frame:=[topFrame p0]
abbrev an:j B:=O<|.ref 6
noncomputable def ev (p:RS):Env:={scope:=p.main.scope,locals:=mainNs,globals:=mainNs,cells:=[],code:=.ref 13,frame:=O 14}
def cE (p:RS):Code:=.body (NI p)<|ev p
def sT (p:RS)(rc:U Rc)(P:Lk)(m n a:Y)(o:SG):SharedT:=⟨bt 12<|os P<|rs P<|(p.main.body.zip rc).take m,n,{},#[],{},a,o⟩
def hp (p:RS)(rc:U Rc)(m n:Y)(P:Lk):RU:=absHeap (bt 12<|os P<|rs P<|(p.main.body.zip rc).take m) n {}
def Cut (p:RS)(rc:U Rc)(i n t:Y)(c:Pos)(k N b d:Y)(a:Pos)(w:Ks):Prop:=∀o,segRunT ME p w 11 an 1 N (sT p rc w.params i n t o) (piecesOf ((p.main.body.drop i).take k) (ev p) (cE p) c B0)=O (.next,sT p rc w.params (i+k) b d o,cE p,a)
def Ch (p:RS)(rc:U Rc)(m a c:Y)(i n t:Y)(b:Pos)(M:Y):Prop:=∀w o,topRun ME p w 11 an M (sT p rc w.params i n t o).abs (restOf (p.main.body.drop i) (ev p) (cE p) b B0)=O (sT p rc w.params m a c o).abs
theorem pM {p:RS}{rc:U Rc}{m d g i n t k N b f M:Y}{e a:Pos}(c:∀w,Cut p rc i n t e k N b f a w)(h:Ch p rc m d g (i+k) b f a M):Ch p rc m d g i n t e (N+M):=λw o=>by have x:=piece_app (segRun_of<|c w o)<|h w o;rw[<- List.drop_drop,OG] at x;exact x
theorem Cc {p:RS}{rc:U Rc}{m a b:Y}{d:Pos}(c:p.main.body.drop m=[]):Ch p rc m a b m a b d 2:=λw o=>by rw[c];exact piece_nil rfl
theorem xG (w:Ks):((LL w.params).isNs K3&&(Od []:RW Sy).size==0,(LL w.params).objs.size,(LL w.params).nsMap K3 "__annotations__")=(Kh,11,an):=by kernel_rfl
theorem Ac {p q:RS}{a:U Str}{Xt:Ki->RN}{n:Type}{l:Ki->n}{i:Ks->n}{N M m b h:Y}{rc:U Rc}
  (e:opening p=plainProg p.main.scope.names) (r:Nat.ble 600 N=Kh) (f:∀s,fenceModules? p s=O s) (t:NI p=p.main.body)
  (g:∀w:Ks,((LL w.params).isNs K3&&(Od []:RW Sy).size==0,(LL w.params).objs.size,(LL w.params).nsMap K3 "__annotations__")=(Kh,11,an))
  (pre:∀(w:Ks) (o:SG),topGo ME p w 11 an 12 ⟨LL w.params,Od [],boot_drawn,boot_toks,o⟩ (topStub p)=O ((sT p rc w.params 0 15 187 o).abs,⟨denote ME<|cE p,cE p,p0,B0⟩))
  (blk:∀(w:Ks) (o:SG),segRun ME p w 11 an 1 1 (sT p rc w.params 0 15 187 o).abs (blockOf (NI p) (ev p) (cE p) p0 B0)=O (.next,(sT p rc w.params 0 15 187 o).abs,cE p,p0))
  (ch:Ch p rc m b h 0 15 187 p0 M) (le:Nat.ble (12+(1+M)) N=Kh)
  (c:∀w:Ks,(λo=>((staticsOk (N4 p.main.body) (LL w.params) (hp p rc m b w.params)&&namesBound p (hp p rc m b w.params)&&gensDone ⟨hp p rc m b w.params,#[],{},h,o⟩&&laidKept (LL w.params) (hp p rc m b w.params)),
    openSeen q a (N4 p.main.body) Xt Kh ⟨hp p rc m b w.params,#[],{},h,o⟩,l ⟨hp p rc m b w.params,#[],{},h,o⟩))=λ_=>(Kh,openGood q a,i w)):LeftO p q a Xt l i N:=
 LeftO.of_pieces (H₀:=LL) (H₁:=hp p rc m b) (gs₁:=#[]) (d₁:={}) (k₁:=h) (boot_open e r f) g
  (λw o=>go_top (pre w o)<|piece_block (blk w o) (by have x:=ch w o;rw[M0,<- t] at x;exact x)) le c
def cb (c:R0)(a:Y):R0:=match c with
|.ClassDef _ _ _ b _ _ _ _ _ _ _=>b.getD a c
|_=>c
noncomputable def drec (d:R0):PySem.DefRec:=match d with
|.FunctionDef n a b _ _ _ c _ _ pos=>⟨n,a,b,c,pos⟩
|_=>⟨default,default,[],default,default⟩
theorem gG {b:Type}:∀(l:U b) (i:Y),(odd l).1[i]?=l[2 * i]?/\(odd l).2[i]?=l[2 * i+1]?
|[],i=>by simp[odd]
| x::l,i=>by
 refine⟨?_,?_⟩
 .cases i with
  |zero=>simp[odd]
  |succ a=>rw[show 2 * (a+1)=2 * a+1+1 by lia];simp only[odd,LI];exact(gG l a).2
 .simp only[odd,LI];exact(gG l i).1
theorem pV {a:Type}:∀(l:U a),(odd l).1.length=(l.length+1) / 2/\(odd l).2.length=l.length / 2
|[]=>by simp[odd]
|x::l=>by have h:=pV l;simp only[odd,Kz,h.1,h.2];exact⟨by lia,trivial⟩
theorem nX:∀(k:Y) (l:U Obj) (a:Y),l.length<2 ^ k->(bt k l).get a=l[a]?
|0,l,a,h=>by have:l=[]:=OI.mp (by simpa using h);subst this;simp[bt,BT.get]
|k+1,[],a,h=>by simp[bt,BT.get]
| k+1,x::l,a,h=>by
 have e:2 ^ (k+1)=2 * 2 ^ k:=by rw[Nat.pow_succ];lia
 have f:=pV l;simp only[Kz] at h;unfold bt;rw[BT.get_node];by_cases c:a=0
 .simp[c]
 .rw [RK c];by_cases d:a % 2=1
  .rw [RJ d,nX k _ _<|by lia,(gG l<|a / 2).1];obtain⟨b,rfl⟩:∃b,a=b+1:=⟨a-1,by lia⟩;rw[LI];congr 1;lia
  .rw [RK d,nX k _ _<|by lia,(gG l<|a / 2-1).2];obtain⟨b,rfl⟩:∃b,a=b+1:=⟨a-1,by lia⟩;rw[LI];congr 1;lia
def lL (p:RS)(rc:U Rc)(m:Y)(P:Lk):U Obj:=os P<|rs P<|(p.main.body.zip rc).take m
def kK (p:RS)(rc:U Rc)(m:Y)(as:U RL)(P:Lk):Frag:=as.map λa=>(a,(lL p rc m P).getD a default)
def okO:j Obj->RN
|some ⟨_,_,.freed,_⟩=>Kg
|some _=>Kh
|none=>Kg
theorem p6 {p:RS}{rc:U Rc}{m:Y}{P:Lk}{a:RL}{o:Obj}:∀{as:U RL},(kK p rc m as P).lookup a=O o->a∈as/\o=(lL p rc m P).getD a default
|[],h=>by simp[kK] at h
| b::as,h=>by
 unfold kK at h;rw[K2,Pr] at h;by_cases e:a=b
 .subst e;rw[R4] at h;exact⟨Ku ..,(K8 h).symm⟩
 .rw [beq_false_of_ne e] at h;have x:=p6 (as:=as) h;exact⟨Kw _ x.1,x.2⟩
def hkk (p:RS)(rc:U Rc)(m n:Y):Hook where
 α:=RW Obj
 obs s:=s.heap.objs
 val w:=(hp p rc m n w.params).objs
 says w h:=∀a o,(hp p rc m n w.params).get? a=O o->h.get? a=O o
 of w s e a o x:=by unfold Heap.get? at *;rw[e];exact x
 keeps w h h' X k a o x:=k _ _<|X a o x
theorem Jr {p:RS}{rc:U Rc}{m n:Y}{as:U RL}{w:Ks}{h:RU}(r:Nat.blt (lL p rc m w.params).length 4096=Kh)(l:(as.all λa=>Nat.blt a n&&okO (lL p rc m w.params)[a]?)=Kh)
  (b:(hkk p rc m n).says w h):(kK p rc m as w.params).In h:=λa o e=>by
 obtain⟨e1,e2⟩:=p6 e;obtain⟨f,c⟩:=O9.mp<|K5.mp l a e1;refine b a o ?_;have i:a<n:=Qz f;have k:(lL p rc m w.params).length<2 ^ 12:=Qz r;have g:=nX 12 (lL p rc m w.params) a k;unfold hp Heap.get?;rw[absHeap_at,RJ i];show(match O (((bt 12<|lL p rc m w.params).get a).getD default) with|some ⟨_,_,.freed,_⟩=>J|o=>o)=O o;rw[g];rw[Kv] at e2;rw[<- e2];cases q:(lL p rc m w.params)[a]? with
 |none=>rw[q] at c;cases c
 |some x=>rw[q] at c e2;have e3:o=x:=e2;subst e3;obtain⟨_,_,d,_⟩:=o;cases d<;>first|rfl|cases c
def pmO:j Obj->B
|some ⟨_,_,.func f,_⟩=>f.pyModule
|_=>.none
def rfO:j (j B)->Y
|some (O (.ref a))=>a
|_=>0
theorem raw_mk {K:Frag}{x:Str}{a:R0}{b:B}(c:nsIn K K3 x=O (O<|.ref<|rfO<|nsIn K K3 x))
  (d:K.lookup (rfO<|nsIn K K3 x)=O ⟨.type "function",J,.func<|fnOf x x (L2.defArgs a) (L2.defBody a) (L2.defScope a) b .none .none (pmO<|K.lookup<|rfO<|nsIn K K3 x) J (.ref<|rfO (nsIn K K3 x)-1) .none,#[]⟩)
  (e:codeIn K (.ref<|rfO (nsIn K K3 x)-1) x=Kh) (f:keepIn K (.ref<|rfO<|nsIn K K3 x)=Kh):MR.Raw K x a b:=⟨_,_,_,_,_,_,_,_,_,_,c,d,e,f⟩
end TP

namespace MR
open PySem PySem.Spec PyProof.Rows L2 L3
theorem walkX {sx:Str}{C:M.Call}{ix k:Y}{l:OS}{q:RS}{c:U Str}{v:(Str->j B)->RU->Prop}{o:Ks->RU->Prop}{d:DefRec}{K:Lk->Kk}(hp:∀g:U Int,g.length<=63->∃m bs,C ix [(.d,.scr g)]=.ok ((m,.bl Kh),bs))(G:l.most=O 63)(i:d.params.defaults=[])(H:Room k Mx)
  (D:∀(w:Ks) (h:RU),o w h->(K w.params).In h)
  (F:∀ (w:Ks) (e:Str->j B) (p:RL) (h:RU),(K w.params).In h->h.Ns K3 e->e d.name=O (.ref p) ->
   ∃r:LF,(∀(s:Ki) (u:B),My s r ⟨[u],[]⟩ [(sx,u)])/\∀b:RU,(K w.params).In b->b.Ns K3 e->fI l.prog w (K w.params) e b CX0 k p r [sx] (spS (K w.params) C ix [])):
  PN q c v o l.row.toRowW d [] (λf I=>ON f I):=
 L2.walk_of (n:=63) (k:=k) (x:=sx) (CX:=λ_=>CX0) (sp:=λw=>spS (K w.params) C ix []) G (by decide) i H D F (λ_ _ a g t y A=>CV (hp g t) t y A) λ_ _ _ _ _ z=>z
theorem AA {d:Str}{w:Ks}{K:Kk}{c:Str->j B}{st:R0}{h:RU}{o:RL}{pr:RS}{k:Y}{p:Sp}(X:K.In h)(G:h.Ns K3 c)(m:c "law"=O (.ref o))(r:Raw K "law" st .none)(z:∀(kV l n:B) (an:j RL) (g i:B) (s:Ki) (v:B),My s (Mu "law" "law" (defArgs st) (defBody st) (defScope st) .none kV l n an g i) ⟨[v],[]⟩ [(d,v)])
  (ok:∀f b,Fun K "law" "law" st f b->∀a,fI pr w K c a CX0 k f b [d] p):∃b:LF,(∀(s:Ki) (v:B),My s b ⟨[v],[]⟩ [(d,v)])/\∀a:RU,K.In a->a.Ns K3 c->fI pr w K c a CX0 k o b [d] p:=by
 obtain⟨f,A,D,F,kV,l,n,an,g,i,t,u,x,y⟩:=r;have e:=m.symm.trans<|Qo X G t;cases e;exact⟨_,z kV l n an g i,λa _ _=>ok _ _ (tK (st:=st) u x y) a⟩
end MR



namespace MR
open PySem PySem.Spec PyProof.Rows L2 L3
section
variable {X:Cx}{sf sg:Y->j Y}{C:M.Call}{pos p p2 p3:Pos}{ea eb ec:RT}{a b c:M.E}{h:RN}{n:Y}{io:U Y}{K:Kk}
theorem AY {Z:Fp}{H:Hp}{G:Fp}{Q:VK}{p:RL}(e:Own Z H G)(f:∀a,Z a->H a≠J)(k:Out K Z H G (.d,.dct [] []) Q)(hp:H p=J):Q (.ref p) (upd H p<|.dK []):=by refine k _ Z _ (λa=>a=p) ⟨p,[],rfl,K4 _,⟨rfl,av⟩,⟨O1,λ_ z=>nomatch z⟩,rfl,rfl⟩ ?_<|iF hp e (λa h=>.inr h) Z (λ_ z=>z) λ_ z=>.inl z;rintro a rfl;exact⟨λz=>f a z hp,.inr [],av⟩
theorem xH (e:L2.St)(H:Hp)(Q:VK)(l:wE K sf C (.op .dnew h []) e H Q):vb e H Q:=by obtain⟨m,Z,d,r,w,s,A,ev,k⟩:=l;obtain⟨t,g,i⟩:=dz ev;cases g;cases i;intro p hp;have f:At K ⟨sf,m⟩ e Z H d r no:=A;have o:=cJ (F:=tot d) f ((Step.refl Z H<|tot d).mono (λ_ z=>z) λ_ z=>z.elim id λq=>q.elim) k;exact AY cI A.gd.zal o hp
theorem FQ:SE X sf C (.Dict [] [] pos) (.op .dnew h []):=ak uE xH
end
end MR


namespace MR
open L2 L3 M
open PySem (Addr Str sizeLine)
section
variable {K:Kk}{Wx:L2.St->VK}{sl:Cf}{sf sg:Y->j Y}{C:Call}{σ σ2:L2.St}{Z Z' Z1:Fp}{H H' H1:Hp}{Fs Fs' Fs1:Fps}{η η' η1 ηb:Env}{G G' G1 R F F':Fp}{tg is vs ls io:U Y}{pv val:Y->j V}{D:bH}
theorem yK {Z:Fp}{H:Hp}{G:Fp}{a:RL}{o:HO}{m:Md}(b:m≠.s)(h:G a/\H a=O o):DctR Z H G a o m:=by
 cases m with
 |s=>exact RM rfl b
 |d=>exact h
 |o m=>exact h
theorem zO {i:Y}{a:RL}{f:U<|Int ⊕ Str}{P:U T}{g:U V}{m':Md}(hm:m'≠.s)(A:At K ⟨sf,pv⟩ σ Z H Fs η G){w0:W}(hi:rd η i=O w0)(ha:Fs i a)(hx:∀d,sf i=O d->σ[d]?=O (O<|.ref a))(hl:f.length<=LIM)(hnd:f.Nodup/\∀k∈f,kOk k=Kh)(hvl:P.length=f.length)(hpv:∀u,pv i=O u->V.ref a=u)
  (hg:∀b,G' b->(Fs i b\/G b)/\b≠a) (hR:∀b,R b->(Fs i b\/G b)/\b≠a) (hRG:∀b,R b->¬G' b) (p:RepL K (λb=>Z b\/((Fs i b\/G b)/\b≠a/\¬G' b/\¬R b)) H (dmd m') P g λ_=>RX) {Q:Hp->Prop}
  (k:∀Z' Fs',At K ⟨sf,pv⟩ σ Z' (upd H a<|.dK<|mkD f g) Fs' (M.put η i (m',.dct f P)) R->Step Z H (λb=>tot Fs b\/G b) Z' (upd H a<|.dK<|mkD f g) (λb=>tot Fs' b\/R b)->(∀{m t v},Rep K (λb=>Z b\/((Fs i b\/G b)/\b≠a/\¬G' b/\¬R b)) H m t v R->Rep K Z' (upd H a<|.dK<|mkD f g) m t v R)->Q (upd H a<|.dK<|mkD f g)):Q (upd H a<|.dK<|mkD f g):=by
 have L:tot Fs a:=⟨i,ha⟩;obtain⟨nza,ys,hya⟩:=A.gd.own a L;have nGa:¬G a:=λq=>A.dis a q L
 have I:∀b,(Z b\/((Fs i b\/G b)/\b≠a/\¬G' b/\¬R b))->b≠a:=λb h z=>by
  subst z;rcases h with h|h
  .exact nza h
  .exact h.2.1 rfl
 have keep:∀b o,H b=O o->b≠a->upd H a (.dK (mkD f g)) b=O o:=λb o e w=>by rw[af w];exact e
 have neT:∀b xs,H b=O (.tup xs)->b≠a:=λb xs e z=>by rw[z,hya] at e;exact kz e.symm
 have neF:∀b o u,H b=O (.frz o u)->b≠a:=λb o u e z=>by rw[z,hya] at e;exact eN e.symm
 have stay:∀{c:Fp},(∀b,c b->b≠a)->Stay c H (upd H a (.dK (mkD f g))):=λ{c} hY=>⟨λb o w e=>keep b o e<|hY b w,λb xs e=>by
  rcases e with e|⟨u,e⟩
  .exact .inl (keep b _ e<|neT b xs e)
  .exact .inr ⟨u,keep b _ e<|neF b u _ e⟩,λb o u e=>keep b _ e<|neF b o u e⟩
 have al:∀b,H b≠J->upd H a (.dK (mkD f g)) b≠none:=λb h=>by
  by_cases e:b=a
  .rw[e,av];simp
  .rw[af e];exact h
 have N:∀b,(Z b\/((Fs i b\/G b)/\b≠a/\¬G' b/\¬R b))->H b≠none:=λb h=>by
  rcases h with h|⟨h|h,_⟩
  .exact A.gd.zal b h
  .obtain⟨_,zs,e⟩:=A.gd.own b ⟨i,h⟩;rw[e];simp
  .obtain⟨_,zs,e⟩:=A.own b h;rw[e];simp
 have listAt:∀b,(tot Fs b\/G b)->∃zs:OO,upd H a (.dK (mkD f g)) b=O zs.ho:=λb h=>by
  by_cases e:b=a
  .exact⟨(.inr<|mkD f g),by rw[e,av];rfl⟩
  .rcases h with h | h
   .obtain⟨_,zs,q⟩:=A.gd.own b h;exact⟨zs,by rw[af e];exact q⟩
   .obtain⟨_,zs,q⟩:=A.own b h;exact⟨zs,by rw[af e];exact q⟩
 have nZ:∀b,(Fs i b\/G b)->¬Z b:=λb h z=>h.elim (λy=>(A.gd.own b ⟨i,y⟩).1 z) λy=>(A.own b y).1 z
 have de:∀b,tot (kj Fs i λb=>G' b\/b=a) b->(∃d,d≠i/\Fs d b)\/G' b\/b=a:=λb h=>by
  obtain⟨d,h|h⟩:=h
  .exact .inr h.2
  .exact .inl ⟨d,h⟩
 refine k (λb=>Z b\/((Fs i b\/G b)/\b≠a/\¬G' b/\¬R b)) (kj Fs i λb=>G' b\/b=a) ⟨⟨λb h=>⟨λz=>?_,?_⟩,λd l b x hk=>?_,λb h=>al b<|N b h⟩,λl m t e=>?_,λb h=>⟨λz=>?_,listAt b<|(hR b h).1.imp (λz=>⟨i,z⟩) id⟩,λb h q=>?_,A.lk,A.ln⟩ ⟨λb o e n=>keep b o e λz=>n<|.inl<|z ▸ L,λb h=>.inl h,λb h=>h.imp id λq=>.inl<|q.1.imp (λz=>⟨i,z⟩) id,λb h=>?_,al,λ_ b h=>al b<|N b h⟩ λ{m t v} r=>r.keep (stay I) (λ_ z=>z) λb o w e=>keep b o e (hR b w).2
 .rcases de b h with ⟨d,x,q⟩ | q | q
  .rcases z with z | ⟨z | z,_⟩
   .exact(A.gd.own b ⟨d,q⟩).1 z
   .exact x (A.gd.dis d i b q z)
   .exact A.dis b z ⟨d,q⟩
  .rcases z with z | z
   .exact nZ b (hg b q).1 z
   .exact z.2.2.1 q
  .exact I b z q
 .rcases de b h with ⟨d,x,q⟩ | q | q
  .exact listAt b (.inl ⟨d,q⟩)
  .exact listAt b ((hg b q).1.imp (λz=>⟨i,z⟩) id)
  .exact⟨(.inr<|mkD f g),by rw[q,av];rfl⟩
 .have key:∀ {d:Y},(G' b\/b=a)->Fs d b->d=i:=fun {d} h q=>by
   rcases h with h|h
   .rcases (hg b h).1 with y | y
    .exact A.gd.dis d i b q y
    .exact RM ⟨d,q⟩ (A.dis b y)
   .rw[h] at q;exact A.gd.dis d i a q ha
  rcases x with⟨rfl,x⟩|⟨nj,x⟩
  .rcases hk with ⟨rfl,_⟩ | ⟨nk,hk⟩
   .rfl
   .exact RM (key x hk) nk
  .rcases hk with ⟨rfl,hk⟩ | ⟨nk,hk⟩
   .exact RM (key hk x) nj
   .exact A.gd.dis d l b x hk
 .rw [bz] at e;split at e
  .rename_i hc;obtain⟨rfl,_⟩:=hc;cases e;refine⟨.ref a,⟨a,g,rfl,hl,yK hm ⟨.inl ⟨rfl,.inr rfl⟩,av⟩,hnd,hvl,?_⟩,hx,hpv⟩;exact p.keep (stay I) (λ_ z=>z) λb o w e=>w.elim
  .rename_i hc;have hl':l≠i:=λz=>hc ⟨z,dF hi⟩;obtain⟨v,r,h⟩:=A.env l m t e;have nea:∀b,Fs l b->b≠a:=λb q z=>hl'<|A.gd.dis l i a (z ▸ q) ha;exact⟨v,((r.keep (stay λb w z=>nza<|z ▸ w) (λ_ z=>z) λb o w e=>keep b o e<|nea b w).zmono λb h=>.inl h).mono λb h=>.inr ⟨hl',h⟩,h⟩
 .rcases z with z | z
  .exact nZ b (hR b h).1 z
  .exact z.2.2.2 h
 .rcases de b q with ⟨d,x,y⟩ | y | y
  .rcases (hR b h).1 with z | z
   .exact x (A.gd.dis d i b y z)
   .exact A.dis b z ⟨d,y⟩
  .exact hRG b h y
  .exact(hR b h).2 y
 .rcases h with h | h
  .rcases de b h with ⟨d,_,q⟩ | q | q
   .exact .inl (.inl ⟨d,q⟩)
   .exact .inl ((hg b q).1.imp (λz=>⟨i,z⟩) id)
   .exact .inl (.inl<|q ▸ L)
  .exact .inl ((hR b h).1.imp (λz=>⟨i,z⟩) id)
theorem yx {m:Md}{b:U<|Int ⊕ Str}{vs:U T}{v:V}(g:m≠.s)(r:Rep K Z H m (.dct b vs) v G):∃a c,v=.ref a/\b.length<=LIM/\G a/\H a=O (.dK<|mkD b c)/\(b.Nodup/\∀k∈b,kOk k=Kh)/\vs.length=b.length/\RepL K Z H (dmd m) vs c (λ_=>RX):=by
 obtain⟨a,c,e,l,q,n,f,p⟩:=r;cases m with
 |s=>exact RM rfl g
 |d=>exact⟨a,c,e,l,q.1,q.2,n,f,p⟩
 |o m=>exact⟨a,c,e,l,q.1,q.2,n,f,p⟩
def kT:Int ⊕ Str->T
|.inl n=>.int n
|.inr x=>.str x
theorem mr {k:T}{q:Int ⊕ Str}(h:keyT k=O q):k=kT q:=by
 cases k with
 |int n=>cases h;rfl
 |str x=>cases h;rfl
 |_=>cases h
theorem vK {m:Md}{q:Int ⊕ Str}{v:V}(r:Rep K Z H m (kT q) v G):v=kV q/\kOk q=true:=by
 cases q with
 |inl n=>exact⟨r,rfl⟩
 |inr x=>exact⟨r.1,r.2⟩
noncomputable def n6 (k:Int ⊕ Str)(y:V):U (Int ⊕ Str)->U V->U V
|[],_=>[y]
|z::b,x::a=>if z=k then y::a else x::n6 k y b a
|_::_,[]=>[]
theorem mh (k:Int ⊕ Str)(t:T):∀(c:U<|Int ⊕ Str) (vs:U T),vs.length=c.length->(aX k t c vs).2.length=(aX k t c vs).1.length/\(aX k t c vs).1.length<=c.length+1
|[],[],_=>⟨rfl,Kt _⟩
|[],_::_,e=>by cases e
|_::_,[],e=>by cases e
| z::d,v::vs,e=>by
 unfold aX;split
 .exact⟨e,Nf _⟩
 .obtain ⟨a,b⟩:=mh k t d vs<|LX e;exact⟨by rw[Kz,Kz,a],by rw[Kz,Kz];lia⟩
theorem gS (k:Int ⊕ Str)(t:T):∀(a:U<|Int ⊕ Str) (vs:U T),vs.length=a.length->∀z,z∈(aX k t a vs).1 ↔ z=k\/z∈a
|[],[],_,z=>by simp[aX]
|[],_::_,e,_=>by cases e
|_::_,[],e,_=>by cases e
| y::c,v::vs,e,z=>by
 unfold aX;split
 .rename_i b;subst b;simp
 .have:=gS k t c vs (LX e) z;rw[KD,this,KD];constructor
  .rintro (h | h | h)
   .exact .inr (.inl h)
   .exact .inl h
   .exact .inr (.inr h)
  .rintro (h | h | h)
   .exact .inr (.inl h)
   .exact .inl h
   .exact .inr (.inr h)
theorem ib (k:Int ⊕ Str)(t:T):∀(a:U<|Int ⊕ Str) (vs:U T),vs.length=a.length->a.Nodup->(aX k t a vs).1.Nodup
|[],[],_,_=>by simp[aX]
|[],_::_,e,_=>by cases e
|_::_,[],e,_=>by cases e
| y::b,v::vs,e,h=>by
 unfold aX;split
 .exact h
 .rename_i f;obtain⟨c,d⟩:=Le.mp h;refine Le.mpr ⟨λq=>?_,ib k t b vs (LX e) d⟩;rcases(gS k t b vs (LX e) y).mp q with q|q
  .exact f q
  .exact c q
theorem pL (k:Int ⊕ Str)(t:T)(y:V):∀(g:U<|Int ⊕ Str) (vs:U T) (c:U V),vs.length=g.length->c.length=g.length->g.Nodup->eJ (mkD g c) k y=mkD (aX k t g vs).1 (n6 k y g c)
|[],[],[],_,_,_=>rfl
|[],[],_::_,_,e,_=>by cases e
|[],_::_,_,e,_,_=>by cases e
|_::_,[],_,e,_,_=>by cases e
|_::_,_::_,[],_,e,_=>by cases e
| z::d,v::vs,x::c,e1,e2,nd=>by
 obtain⟨m,n⟩:=Le.mp nd;have l:=pL k t y d vs c (LX e1) (LX e2) n;unfold aX n6;by_cases f:z=k
 .rw [RJ f,RJ f];subst f;have i:∀p∈mkD d c,p.1≠z:=λp hp q=>by obtain⟨a,b⟩:=p;have:=(Nx hp).1;have o:a=z:=q;rw[o] at this;exact m this
  show eJ ((z,x)::mkD d c) z y=(z,y)::mkD d c;unfold eJ;rw[RJ<|by simp];rw[K2,RJ rfl];congr 1
  conv=>rhs;rw[<- List.map_id (mkD d c)]
  refine Mi λp hp=>?_;rw[RK<|i p hp];rfl
 .rw [RK f,RK f];show eJ ((z,x)::mkD d c) k y=(z,x)::mkD (aX k t d vs).1 (n6 k y d c);rw[<- l];have h:¬(z=k):=f;unfold eJ;rw[MY,RR h,PM];split
  .rw[K2,RK h]
  .rfl
end
end MR





namespace MR
open L2 L3 M
open PySem (Addr Str sizeLine)
section
variable {K:Kk}{Wx:L2.St->VK}{sl:Cf}{sf sg:Y->j Y}{C:Call}{σ σ2:L2.St}{Z Z' Z1:Fp}{H H' H1:Hp}{Fs Fs' Fs1:Fps}{η η' η1 ηb:Env}{G G' G1 R F F':Fp}{tg is vs ls io:U Y}{pv val:Y->j V}{D:bH}
theorem rf {u l w r:W}(h:fw u l w=O r):∃m c vs n k,u=(m,.dct c vs)/\l=(n,kT k)/\m≠.s/\c.length<LIM/\r=(.o .s,.dct (aX k w.2 c vs).1 (aX k w.2 c vs).2):=by
 obtain⟨m,t⟩:=u;obtain⟨n,k⟩:=l;obtain⟨v,x⟩:=w
 have g:∀c vs,((keyT k).bind λq=>if(decide (c.length<LIM))=Kh then O ((.o .s,.dct (aX q x c vs).1 (aX q x c vs).2):W) else J)=O r->∃f,(n,k)=(n,kT f)/\c.length<LIM/\r=(.o .s,.dct (aX f x c vs).1 (aX f x c vs).2):=λc vs h=>by
  cases e:keyT k with
  |none=>rw[e] at h;cases h
  | some q =>
   rw[e] at h;have i:(if(decide (c.length<LIM))=Kh then O ((.o .s,.dct (aX q x c vs).1 (aX q x c vs).2):W) else J)=O r:=h;split at i
   .rename_i p;cases i;exact⟨q,by rw[mr e],R3 p,rfl⟩
   .cases i
 cases m<;>first|(cases h;done)|(cases t<;>try (cases h;done))
 .obtain ⟨f,a,b,d⟩:=g _ _ h;exact⟨.d,_,_,n,f,rfl,a,by simp,b,d⟩
 .obtain ⟨f,a,b,d⟩:=g _ _ h;exact⟨.o _,_,_,n,f,rfl,a,by simp,b,d⟩
theorem jw {k:Int ⊕ Str}{t:T}{y:V}(g:Rep K Z H .s t y no):∀(d:U<|Int ⊕ Str) (vs:U T) (c:U V),vs.length=d.length->RepL K Z H .s vs c (λ_=>RX)->RepL K Z H .s (aX k t d vs).2 (n6 k y d c) (λ_=>RX)
|[],[],c,_,r=>by cases r;exact⟨y,[],λ_=>RX,λ_=>RX,rfl,λ_ z=>z,λ_ z=>z,λ_ z=>z.elim,g,rfl⟩
|[],_::_,_,e,_=>by cases e
|_::_,[],_,e,_=>by cases e
| z::i,v::vs,c,e,⟨x,f,G1,l,m,n,h,o,p,q⟩=>by
 subst m;unfold aX n6;by_cases b:z=k
 .rw [RJ b,RJ b];exact⟨y,f,λ_=>RX,l,rfl,λ_ z=>z,h,λ_ z=>z.elim,g,q⟩
 .rw [RK b,RK b];exact⟨x,n6 k y i f,G1,λ_=>RX,rfl,n,λ_ z=>z,λa _ z=>z,p,jw g i vs f (LX e)<|q.mono h⟩
theorem yz {x:M.X}{i d:Y}{k e:E}(hs:sf i=O d)(D:bH)(σ:L2.St)(H:Hp)(h:wS K Wx sf io C (.setS x i k e) D σ H):
  wE K sf C e σ H λy H1=>lQ d σ H1 λo H1=>wE K sf C k σ H1 λz H2=>∃a P q,o=.ref a/\z=kV q/\H2 a=O (.dK P)/\P.length<sizeLine/\D.nx σ (upd H2 a<|.dK<|eJ P q y):=by
 obtain⟨pv,Z,Fs,η,N,A,f⟩:=h;obtain⟨⟨w,η1⟩,h2,h3⟩:=bq<|show Fin K Wx ⟨sf,pv⟩ Z H (tot Fs) D (Fl.of η (evX C x e η)<|pQ i (evX C x k) η) from f;obtain⟨⟨Q,l⟩,h6,h7⟩:=bq<|show Fin K Wx ⟨sf,pv⟩ Z H (tot Fs) D (Fl.of η (evX C x k η1)<|oK i w) from h3;obtain⟨η3,v,h5⟩:=eI<|show Fin K Wx ⟨sf,pv⟩ Z H (tot Fs) D (nxO l<|((rd l i).bind λu=>fw u Q w).map λu=>M.put l i u) from h7;refine ku (sl:=⟨sf,pv⟩) A h2 λy Z' H' Fs' G c r s=>?_;cases e1:rd l i with
 |none=>rw[e1] at v;cases v
 | some u1 =>
  rw[e1] at v;cases e2:fw u1 Q w with
  |none=>rw[show(O u1).bind (λu=>fw u Q w)=fw u1 Q w from rfl,e2] at v;cases v
  | some r1 =>
   rw[show(O u1).bind (λu=>fw u Q w)=fw u1 Q w from rfl,e2] at v;cases v;obtain⟨m,t,vs,n,L,rfl,rfl,hm,hlen,rfl⟩:=rf e2;have n1:rd η1 i≠none:=λz=>by rw[uH h6 i z] at e1;cases e1
   cases e3:rd η1 i with
   |none=>exact RM e3 n1
   | some u3 =>
    obtain⟨v3,r3,l3,p3⟩:=c.env i u3.1 u3.2 e3;refine⟨v3,l3 d hs,ku (sl:=⟨sf,pv⟩) c.bare h6 λz Z2 H2 Fs2 G2 B2 rz s2=>?_⟩;obtain⟨B3,s3,d3⟩:=c.frame B2 s2;have r':=r.frame c.gd.own s2 c.dis;have B4:=B3.mono (G':=G) λ_ z=>.inl z;obtain⟨v4,r4,l4,p4⟩:=B4.env i m _ e1;have hv:v3=v4:=by have e5:=l3 d hs;have e6:=l4 d hs;rw[e5] at e6;cases e6;rfl
    subst hv;obtain⟨a,xs,rfl,hl,hf,hx,I,g,p⟩:=yx hm r4;have hxl:xs.length=t.length:=by rw[p.length,g]
    obtain⟨q1,q2⟩:=mh L w.2 t vs g;have rz':z=kV L/\kOk L=true:=vK rz;have nGa:¬G a:=λq=>B4.dis a q ⟨i,hf⟩;have pS:RepL K (λb=>Z2 b\/((Fs2 i b\/G b)/\b≠a/\¬no b/\¬no b)) H2 .s vs xs (λ_=>RX):=by have:=RepL.sh p;exact(this.zmono λb h=>h.elim .inl λz=>z.elim).mono λ_ z=>z
    have rS:Rep K (λb=>Z2 b\/((Fs2 i b\/G b)/\b≠a/\¬no b/\¬no b)) H2 .s w.2 y no:=(Rep.sh r').zmono λb h=>h.imp id λq=>⟨.inr q,λe=>nGa<|e ▸ q,λz=>z,λz=>z⟩;refine⟨a,mkD t xs,L,rfl,rz'.1,hx,?_,?_⟩
    .show (t.zip xs).length<_;rw[List.length_zip,hxl,Nat.min_self];exact Ld hlen<|bO<|Kt _
    .rw [pL L w.2 y t vs xs g hxl I.1];exact zO (K:=K) (m':=.o .s) (G':=no) (R:=no) (by simp) B4 e1 hf (λk hk=>by rw[show sf i=O k from hk] at hs;cases hs;exact l3 _ hk) (by lia) ⟨ib L w.2 t vs g I.1,λz hz=>((gS L w.2 t vs g z).mp hz).elim (λe=>e ▸ rz'.2)<|I.2 z⟩ q1 p4 (λ_ z=>z.elim) (λ_ z=>z.elim) (λ_ z=>z.elim) (jw rS t vs xs g pS) λZ5 Fs5 B5 s5 _=>h5 σ Z5 _ Fs5 B5<|(s.trans<|s3.mono (λ_ z=>z) λb h=>h.imp id .inl).trans<|s5.mono (λ_ z=>z) λ_ z=>.inl z
theorem iJ {m m':Md}{t:T}{v:V}{G G' Z':Fp}(a:t.leaf=Kh)(r:Rep K Z H m t v G):Rep K Z' H m' t v G':=r.leaf (λ_ _ _ e=>e) a
theorem qT {u w:W}{r:W×W}(h:jC u w=O r):∃m g n f t,u=(m,.lst g)/\m≠.s/\w=(n,.int (f:Y))/\f<1000/\leaves g=Kh/\g[f]?=O t/\r=((.d,t),(m,.lst<|g.eraseIdx f)):=by
 obtain⟨m,t⟩:=u;obtain⟨n,x⟩:=w
 have k:∀g (i:Int),(if(decide (0<=i)&&decide (i<1000)&&leaves g)=Kh then(g[i.toNat]?).map (λt=>(((.d,t),(m,.lst (g.eraseIdx i.toNat))):W×W)) else J)=O r->∃(f:Y) (t:T),i=(f:Int)/\f<1000/\leaves g=Kh/\g[f]?=O t/\r=((.d,t),(m,.lst (g.eraseIdx f))):=λg i h=>by
  split at h
  .rename_i l;rw[KS,KS,RP,RP] at l;cases e:g[i.toNat]? with
   |none=>rw[e] at h;cases h
   |some t=>rw[e] at h;cases h;exact⟨i.toNat,t,by lia,by lia,l.2,e,rfl⟩
  .cases h
 cases m<;>first|(cases h;done)|(cases t<;>first|(cases h;done)|(cases x<;>try (cases h;done)))
 .obtain ⟨f,t,rfl,a,b,c,d⟩:=k _ _ h;exact⟨.d,_,n,f,t,rfl,by simp,rfl,a,b,c,d⟩
 .obtain ⟨f,t,rfl,a,b,c,d⟩:=k _ _ h;exact⟨.o _,_,n,f,t,rfl,by simp,rfl,a,b,c,d⟩
theorem gi {m m':Md}{Z':Fp}:∀{c:U T} {f:U V} {G G':Fp} (a:Y),leaves c=Kh->RepL K Z H m c f G->RepL K Z' H m' (c.eraseIdx a) (f.eraseIdx a) G'
|[],_,_,_,a,_,h=>by rw[show _=[] from h];rfl
|t::c,_,G,G',0,d,⟨x,r,G1,g,e,_,_,_,p,q⟩=>by subst e;have b:(t.leaf&&leaves c)=true:=d;rw[KS] at b;exact RepL.leaves (λ_ _ _ e=>e) b.2 q
|t::c,_,G,G',a+1,d,⟨x,r,G1,g,e,_,_,_,p,q⟩=>by subst e;have b:(t.leaf&&leaves c)=true:=d;rw[KS] at b;exact⟨x,r.eraseIdx a,λ_=>RX,G',rfl,λ_ z=>z.elim,λ_ z=>z,λ_ z=>z.elim,iJ b.1 p,gi (G':=G') a b.2 q⟩
theorem xX {i f:Y}{e:E}(I:sf i=O f)(σ:L2.St)(H:Hp)(Q:VK)(h:wE K sf C (.popN i e) σ H Q):
  ∃a g,σ[f]?=O (O<|.ref a)/\H a=O (.lst g)/\wE K sf C e σ H λz H1=>∃g n y,z=.int ((n:Y):Int)/\n<1000/\H1 a=O (.lst g)/\g[n]?=O y/\Q y (upd H1 a<|.lst<|g.eraseIdx n):=by
 obtain⟨pv,Z,Fs,η,w,η',A,ev,k⟩:=h;obtain⟨_,h0,h1⟩:=aa<|show(fG<|rd η i).bind (i3 (evE C e) η<|ik i)=_ from ev;obtain⟨m0,t0,P⟩:=mM h0;obtain⟨a,xs0,hj,ha⟩:=A.listAt I P;obtain⟨⟨u,η1⟩,h2,h3⟩:=aa<|show(evE C e η).bind (ik i)=_ from h1;obtain⟨r,h4,h5⟩:=aa<|show(ofO<|(rd η1 i).bind λw=>jC w u).bind (λr=>.ok (r.1,M.put η1 i r.2))=_ from h3;cases h5;have x:=bZ h4;refine⟨a,xs0,hj,ha,pv,Z,Fs,η,u,η1,A,h2,λz Z' H' Fs' G c rz s=>?_⟩;cases e1:rd η1 i with
 |none=>rw[e1] at x;cases x
 |some u1=>rw[e1] at x;obtain⟨m,ts,n,q,t,rfl,hm,rfl,hq,l,ht,rfl⟩:=qT<|show jC u1 u=O r from x;obtain⟨g,hl,hf,hx,p,hpv⟩:=c.ourList I hm hj e1;obtain⟨y,hy,ry⟩:=RepL.get p ht;have v:t.leaf=true:=K5.mp l t<|L0 ht;refine⟨g,q,y,rz,hq,hx,hy,?_⟩;have pl:RepL K (λb=>Z' b\/((Fs' i b\/G b)/\b≠a/\¬no b)) H' m.kid (ts.eraseIdx q) (g.eraseIdx q) no:=gi q l p;have hle:(g.eraseIdx q).length<=LIM:=K0 (List.length_eraseIdx_le ..) hl;refine change (K:=K) (m':=m) (G':=no) (Q:=λN=>Q y N) hm c e1 hf (λk hk=>by rw[show sf i=O k from hk] at I;cases I;exact hj) hle hpv (λ_ z=>z.elim) (ts':=ts.eraseIdx q) pl λZ2 L B2 s2=>?_;exact k y Z2 _ L no B2 (by have:=iJ (m':=.d) (G':=no) (Z':=Z2) v ry;exact this.leaf (λb o u e=>by rw[af (λz=>by rw[z,hx] at e;cases e)];exact e) v)<|(s.trans s2).mono (λ_ z=>z) λb h=>h.elim id λz=>z.elim
end
end MR
namespace MR
open PySem PySem.Spec PyProof.Rows L2 L3
section
variable {X:Cx}{sf sg:Y->j Y}{C:M.Call}{pos p p2 p3:Pos}{ea eb ec:RT}{a b c:M.E}{h:RN}{n:Y}{io:U Y}{K:Kk}
theorem Hc (e:Y)(hr:Room n X.A){i:Y}{x:Str}{xx:M.X}{px Q:Pos}(ha:SE X sf C ea a)(hb:SE X sf C eb b)(hs:sf i=O e:=by rfl)(hN:X.N[e]?=O x:=by rfl)(hv:Vis X.env.scope x:=by first|exact KL rfl|exact Kx (KL rfl)|exact Kx<|Kx rfl)(hd:(x==("__debug__":Str))=false:=by decide)(t:(x==("__classdict__":Str))=false:=by decide)
  (u:Ln ea (O<|.Subscript (.Name x px) eb Q) pos.line X.env=pure false:=by rfl):
  SS X sf io C (.Assign [.Subscript (.Name x px) eb Q] ea pos) (.setS xx i b a):=
 b6 (xM (Bi hr) (br hN hv hd t) hb ha u) λD σ H hw=>by obtain⟨pv,Z,Fs,η,w,I,A,ev,k⟩:=yz hs D σ H hw;refine⟨pv,Z,Fs,η,w,I,A,ev,λv Z' H' f G d r s=>?_⟩;obtain⟨o,ho,F,Z2,g,L,w2,P,A2,m,k2⟩:=k v Z' H' f G d r s;refine⟨o,ho,F,Z2,g,L,w2,P,A2,m,λz Z3 H3 l G3 B3 r3 s3=>?_⟩;obtain⟨q,y,kk,rfl,rfl,g1,g2,g3⟩:=k2 z Z3 H3 l G3 B3 r3 s3;exact⟨q,_,rfl,.inl ⟨y,kk,g1,rfl,g2,rfl⟩,g3⟩
theorem EW (e:Y){i:Y}{x:Str}{l f z:Pos}(ha:SE X sf C ea a)(hs:sf i=O e:=by rfl)(hN:X.N[e]?=O x:=by rfl)(hv:Vis X.env.scope x:=by first|exact KL rfl|exact Kx (KL rfl)|exact Kx<|Kx rfl)(hd:(x==("__debug__":Str))=false:=by decide)(F:(x==("__classdict__":Str))=false:=by decide)
  (m:MC (.Name x z) "pop" X.env (RV (.Name x z) X.env)=RV (.Name x z) X.env:=by rfl)
  (t:((KQ f<|Kl [ea] X.env).all (λx=>!x.1)&&(SD f<|NF [] X.env).all (λx=>x.1.isSome)&&decide ([ea].length+([]:U L7).length+(if([]:U L7).isEmpty then 0 else 1)<30))=true:=by rfl)
  (o:(l.endLine==f.line)=true:=by rfl) (u:Kl [ea] X.env=(Kg,RV (ea) X.env)::Kl [] X.env:=by rfl) (g:(KQ f<|Kl [] X.env).any (·.1)=false:=by rfl):
  SE X sf C (.Call (.Attribute (.Name x z) "pop" l) [ea] [] f) (.popN i a):=
 ak (pB Nq QG QF uV (br hN hv hd F) (aT ha cp u) m t o u g) λσ H Q hw=>by obtain⟨p,xs,hj,hp,pv,Z,Fs,η,w,L,A,ev,k⟩:=xX hs σ H Q hw;refine⟨.ref p,hj,.inl ⟨rfl,xs,.inl<|.inl hp⟩,pv,Z,Fs,η,w,L,A,ev,λv Z' H' D G d r s=>?_⟩;obtain⟨P,n,y,rfl,hn,h1,M,h3⟩:=k v Z' H' D G d r s;have I:n<P.length:=(LJ.mp M).1;exact⟨p,P,(n:Int),n,y,rfl,rfl,h1,by lia,by lia,by unfold seqIndex?;rw[RK (by lia:¬((n:Int)<0))];simp[I],M,h3⟩
theorem mC {Z:Fp}{H:Hp}{G:Fp}{q:Int ⊕ Str}{t:M.T}:∀{d:U<|Int ⊕ Str} {g:U M.T} {l:U V},RepL K Z H .s g l G->M.lookD q d g=O t->∃x,gz (mkD d l) q=O x/\Rep K Z H .s t x no
|[],[],_,_,e=>by cases e
|[],_::_,_,_,e=>by cases e
|_::_,[],_,_,e=>by cases e
| k::d,v::g,l,⟨x,r,z,A,m,_,D,_,p,u⟩,e=>by
 subst m;have f:(if k=q then O v else M.lookD q d g)=O t:=e;by_cases hk:k=q
 .rw [RJ hk] at f;cases f;refine⟨x,?_,p.sany⟩;show(((k,x)::mkD d r).find? λi=>decide (i.1=q)).map (·.2)=O x;rw[List.find?_cons_of_pos<|by simpa using hk];rfl
 .rw [RK hk] at f;obtain⟨y,o,w⟩:=mC u f;refine⟨y,?_,w⟩;show(((k,x)::mkD d r).find? λi=>decide (i.1=q)).map (·.2)=O y;rw[List.find?_cons_of_neg<|by simpa using hk];exact o
theorem Aq:Loc K 2 .ixD h λu H Q=>∀x y,u=[x,y]->∃a v,x=.ref a/\DGet H a y (O v)/\Q v H:=by
 intro ws w u Z H G Q hn e r P za k x y hx;subst hx;obtain⟨⟨m,a⟩,⟨n,b⟩,rfl⟩:=dN r.length.symm;obtain⟨G1,G2,w1,w2,d,r1,r2⟩:=cc r;obtain⟨f,g,rfl,rfl⟩:∃f g,a=.dct f g/\m=.s:=by cases m<;>first|(cases e;done)|(cases a<;>first|exact⟨_,_,rfl,rfl⟩|(cases e;done))
 have i:((M.keyT b).bind λq=>(M.lookD q f g).map λt=>((.s,t):M.W))=O w:=e;cases e1:M.keyT b with
 |none=>rw[e1] at i;cases i
 | some q =>
  rw[e1] at i;have e2:((M.lookD q f g).map λt=>((.s,t):M.W))=O w:=i;cases e3:M.lookD q f g with
  |none=>rw[e3] at e2;cases e2
  |some t=>rw[e3] at e2;cases e2;obtain⟨ad,ys,F,hl,A,D,L,pr⟩:=r1;have z:=mr e1;subst z;obtain⟨N,_⟩:=vK r2;obtain⟨v,I,rv⟩:=mC pr e3;have l:x=.ref ad:=F;have o:y=kV q:=N;subst l o;refine⟨ad,v,rfl,?_,fv P k<|rv.sany⟩;rw[<- I];exact DGet.k A.2
theorem Ew (f:Room n X.A)(d:SE X sf C ea a)(e:SE X sf C eb b)(g:Ez eb:=by intro _ _;rfl):SE X sf C (.Subscript ea eb pos) (.op .ixD h [a,b]):=ak (AQ (Bi f) d e g)<|aL Aq
end
end MR

namespace MR
open PySem PySem.Spec PyProof.Rows L2 L3
section
variable {X:Cx}{sf sg:Y->j Y}{C:M.Call}{pos p p2 p3:Pos}{ea eb ec:RT}{a b c:M.E}{h:RN}{n:Y}{io:U Y}{K:Kk}
theorem my {Z:Fp}{H:Hp}:∀{d:U M.T} {f:U V} {G:Fp},RepL K Z H .s d f G->RepL K Z H .s d.reverse f.reverse no
|[],_,_,r=>by rw[show _=[] from r];rfl
|t::d,_,_,⟨x,r,G1,G2,e,_,_,_,p,q⟩=>by subst e;rw[Ny,Ny];exact RepL.append (G1:=no) (G2:=no) (λ_ z=>z) (λ_ z=>z) (λ_ z=>z.elim) (my q)<|RepL.one p.sany
end
end MR

namespace MR
open L2 L3 M
open PySem (Addr Str sizeLine)
section
variable {K:Kk}{sl:Cf}{sf sg:Y->j Y}{C:Call}{σ σ2:L2.St}{Z Z' Z1:Fp}{H H' H1:Hp}{Fs Fs' Fs1:Fps}{η η' η1 ηb:Env}{G G' G1 R F F':Fp}{tg is vs ls io:U Y}{pv val:Y->j V}{D:bH}
theorem yO {o:j W}{a:U T}(h:vwT o=O a):∃m,o=O (m,.lst a)/\m≠.s/\leaves a=true:=by
 unfold vwT at h;split at h
 .cases h
 .rename_i m d c;split at h
  .rename_i b;cases h;exact⟨m,rfl,λe=>c<|e ▸ rfl,b⟩
  .cases h
 .cases h
theorem At.away {i:Y}{w:W}(A:At K sl σ Z H Fs η no)(e1:rd η i=O w):At K sl σ Z H (kg Fs i) (del η i) (Fs i):=by
 refine⟨⟨λa ⟨l,d,b⟩=>A.gd.own a ⟨l,b⟩,λl k a d b=>A.gd.dis l k a d.2 b.2,A.gd.zal⟩,λl m o e=>?_,λa c=>A.gd.own a ⟨i,c⟩,λa c ⟨l,d,b⟩=>d<|A.gd.dis l i a b c,A.lk,A.ln⟩;rw[bz] at e;split at e
 .cases e
 .rename_i g;obtain⟨p,n,h⟩:=A.env l m o e;have f:l≠i:=λz=>g ⟨z,dF e1⟩;exact⟨p,n.mono λa c=>⟨f,c⟩,h⟩
theorem oh {h:RN}{t r j0:Y}{f:Env->Res (j W×Env)}{te:L2.St->Hp->(j V->Hp->Prop)->Prop}(I:eX sf sg [t] is)(hs:sf r=O j0)
  (hf:∀{η o η'},f η=.ok (o,η')->Nn η η')
  (hte:∀ {val:Y->j V} {σ2:L2.St} {Z:Fp} {H:Hp} {Fs:Fps} {η ηc:Env} {R:Fp} {o:j W} {Q:j V->Hp->Prop},At K ⟨sg,val⟩ σ2 Z H Fs η R->f η=.ok (o,ηc) ->
   (∀oy Z' H' Fs' G,At K ⟨sg,val⟩ σ2 Z' H' Fs' ηc (λc=>R c\/G c)->(match o,oy with|some w,O y=>Rep K Z' H' w.1 w.2 y G|none,J=>Sv|_,_=>RX)->(∀c,R c->¬G c)->Step Z H (tot Fs) Z' H' (λa=>tot Fs' a\/G a)->Q oy H')->te σ2 H Q)
  {e:E} (he:∀η,evE C e η=(ofO<|vwT<|rd η r).bind (kV1 h r t f η)) (σ:L2.St) (H:Hp) (Q:VK) (hw:wE K sf C e σ H Q):
  l6 K (lQ j0) σ H λg H1=>∃W:Y->Y->U V->Hp->Prop,(∃m,W 0 m [] H1)/\∀i m ys H,W i m ys H ->
   (g.stop i H/\ys.length<=sizeLine/\∀p,H p=J->Q (.ref p) (upd H p<|.lst ys)) \/
   (g.go i H/\ys.length<sizeLine/\∀x H',g.yld i H x H'->gT K 1 x (Ky 1 J++bQ σ is) H' λσ2 H2=>(σ2.length=1+(bQ σ is).length/\σ2.drop 1=bQ σ is)/\te σ2 H2 λoy H3=>∃m',m'<m/\W (i+1) m' (ys++oy.toList) H3):=by
 obtain⟨pv,Z,Fs,η,w,η',A,ev,kk⟩:=hw;rw[he] at ev;obtain⟨P,g1,g2⟩:=aa ev;obtain⟨m0,e1,hm0,hlv⟩:=yO<|bZ g1;obtain⟨⟨w',η2⟩,g3,g4⟩:=aa<|show((aA [t] f (P.map λu=>[(.s,u)]) (ag [t]<|del η r) []).bind<|je h).bind (kV2 r<|rd η r)=_ from g2;cases g4;obtain⟨⟨us,η3⟩,h3,g5⟩:=aa g3;obtain⟨w'',h4,g6⟩:=aF<|show ret η3 _=_ from g5;cases g6;obtain⟨v,r0,l0,p0⟩:=A.env r m0 (.lst P) e1;obtain⟨a,xs,rfl,hl,hfa,hxa,pl⟩:=er hm0 r0;have A0:=A.away e1;obtain⟨val,v1,A2,v2⟩:=(A0.dels (tg:=[t])).pin;generalize hN:P.map (λu=>[((.s,u):W)])=tss at h3;have hNl:tss.length=xs.length:=by rw[<- hN,Kr,pl.length]
 have sH:∀{Z':Fp} {H':Hp} {F':Fp},Step Z H (tot (dJ (kg Fs r) [t])) Z' H' F'->H' a=O (.lst xs):=λs=>s.keep a _ hxa λ⟨l,_,h1,h2⟩=>h1<|A.gd.dis l r a h2 hfa
 refine⟨.ref a,l0 j0 hs,a,rfl,⟨xs,.inl<|.inl hxa⟩,λi m ys H0=>m=tss.length-i/\i<=tss.length/\ys.length<=i/\∃(Zi:Fp) (Fsi:Fps) (N:Env) (acc:U W) (Ga:Fp),At K ⟨sf,val⟩ σ Zi H0 Fsi N (λc=>Fs r c\/Ga c)/\(∀c,Fs r c->¬Ga c)/\RepW K Zi H0 acc ys Ga/\aA [t] f (tss.drop i) N acc=.ok (us,η2)/\(∀n∈[t],rd N n=J)/\(∀n∈[t],∀b,¬Fsi n b)/\Nn (ag [t]<|del η r) N/\Step Z H (tot<|dJ (kg Fs r) [t]) Zi H0 (λb=>tot Fsi b\/Ga b),
  ⟨tss.length,by simp,K4 _,Kt _,Z,dJ (kg Fs r) [t],ag [t]<|del η r,[],no,A2.mono λc L=>L.elim id λz=>z.elim,λ_ _ z=>z,rfl,h3,λn hj=>by rw[aC,RJ hj],λn hj b hb=>hb.1 hj,Nn.refl _,(Step.refl _ _ _).mono (λ_ z=>z) λb hb=>hb.elim id λz=>z.elim⟩,?_⟩
 rintro i m ys H0 ⟨rfl,hi,hlen,Zi,Fsi,N,acc,Ga,Ai,dGa,ra,L,htg,hfp,hnn,si⟩;have hx0:=sH si;by_cases hlt:i<tss.length
 .right;have hix:i<xs.length:=by lia
  have hw:tss[i]?=O tss[i]:=by simp[hlt]
  have hu:∃u,tss[i]=[((.s,u):W)]/\P[i]?=O u:=by
   have hi0:i<P.length:=by rw[<- hN,Kr] at hlt;exact hlt
   refine⟨P[i],?_,by simp[hi0]⟩;have:tss[i]?=O [((.s,P[i]):W)]:=by rw[<- hN,KY];simp[hi0]
   rw[hw] at this;exact K8 this
  obtain⟨u,hu1,hu2⟩:=hu;refine⟨⟨xs,xs[i],.inl<|.inl hx0,by simp[hix]⟩,Oo (K0 hlen hi)<|fV<|by lia,λx H2 y=>?_⟩;obtain⟨e0,hyx⟩:=y;subst e0;have hx1:xs[i]?=O x:=hyx xs<|.inl<|.inl hx0;rw[eB hw,hu1] at L;obtain⟨ηb,o,ηc,hb,hfe,hc2⟩:=gV L;have hb':M.put N t (.s,u)=ηb:=K8<|show O (M.put N t (.s,u))=O ηb from hb;subst hb';have hul:u.leaf=true:=K5.mp hlv u<|L0 hu2;obtain⟨x',hx',rx⟩:=RepL.get pl hu2;have hxe:x'=x:=by rw[hx'] at hx1;exact K8 hx1
  subst hxe;have hfrz:∀b o u,H b=O (.frz o u)->H2 b=O (.frz o u):=λb o u eb=>si.keep b _ eb λ⟨l,hl1,hl2⟩=>by obtain⟨_,zs,e⟩:=A0.gd.own b ⟨l,hl2⟩;rw[e] at eb;exact(eN eb.symm).elim
  have r':Rep K Zi H2 (Md.s) u x' (Fsi t):=rx.leaf hfrz hul
  have A3:At K ⟨sg,inV val [t]⟩ (O x'::bQ σ is) Zi H2 Fsi (M.put N t (.s,u)) (λc=>Fs r c\/Ga c):=by
   refine(Ai.into (σ2:=O x'::bQ σ is) I htg (λk j0 v h1 h2=>?_)<|fT I<|by simp[bQ,MV]).put1 r' (λn hj=>?_)<|RJ<|by simp
   .rw[Lf,MV,LI];exact iX h1 h2
   .rcases I t n hj with ⟨k,hk,rfl⟩ | ⟨h,_⟩
    .cases n with
     |zero=>rfl
     |succ _=>simp at hk
    .exact RM (K1.mpr rfl) h
  show(_/\_)/\_;refine⟨⟨by simp[MV],rfl⟩,?_⟩;refine hte A3 hfe λoy Z4 H4 Fs4 G4 A4 r4 d4 s4=>⟨tss.length-(i+1),by lia,rfl,hlt,?_,?_⟩
  .cases oy<;>simp<;>lia
  .have ra4:RepW K Z4 H4 acc ys Ga:=ra.frame A3.gd.own s4 fun b hb=>A3.dis b (.inr hb)
   have vv:∀n m t',rd (ag [t] ηc) n=O (m,t')->val n≠none:=λn m t' e=>by
    rw[aC] at e;split at e
    .cases e
    .rename_i hj;have n1:rd (M.put N t (.s,u)) n≠none:=λz=>by rw[hf hfe n z] at e;cases e
     rw[dZ (tg:=[t]) (t:=[(.s,u)]) (η:=N) rfl n hj] at n1;have n2:rd (ag [t] (del η r)) n≠none:=λz=>n1<|hnn n z;cases e2:rd (ag [t]<|del η r) n with
     |none=>exact RM e2 n2
     |some u'=>exact v2 n u'.1 u'.2 e2
   have A5:=(A4.dels (tg:=[t])).outof (sf:=sf) (σ:=σ) (val:=val) (λn hj=>by rw[aC,RJ hj]) vv Ai.lk Ai.ln
   have s5:Step Z H (tot (dJ (kg Fs r) [t])) Z4 H4 (λb=>tot (dJ Fs4 [t]) b\/(Ga b\/G4 b)):=by
    refine(si.trans<|s4.frame Ga).mono (λ_ z=>z) λb hb=>?_;rcases hb with z|z|z
    .exact .inl (.inl<|b8 z)
    .exact .inr z
    .exact .inl (.inr z)
   refine⟨Z4,dJ Fs4 [t],ag [t] ηc,acc++o.toList,λc=>Ga c\/G4 c,A5.mono λc L=>?_,λc L z=>?_,?_,hc2,λn hj=>by rw[aC,RJ hj],λn hj b hb=>hb.1 hj,λn e=>?_,s5⟩
   .rcases L with z | z | z
    .exact .inl (.inl z)
    .exact .inl (.inr z)
    .exact .inr z
   .rcases z with z | z
    .exact dGa c L z
    .exact d4 c (.inl L) z
   .cases o with
    |none=>
     cases oy with
     |none=>rw[Ni,Ni,La,La];exact ra4.mono λ_ z=>.inl z
     |some _=>exact r4.elim
    |some w4=>
     cases oy with
     |none=>exact r4.elim
     |some y4=>exact RepW.append (λ_ z=>.inl z) (λ_ z=>.inr z) (λc L=>d4 c<|.inr L) ra4<|RepW.one r4
   .have e':=hnn n e;rw[aC];split
    .rfl
    .rename_i hj;exact hf hfe n<|by rw[dZ (tg:=[t]) (t:=[(.s,u)]) (η:=N) rfl n hj];exact e'
 .left;have hi':i=tss.length:=by lia
  subst hi';rw[NV] at L;cases L;refine⟨⟨xs,.inl<|.inl hx0,by lia⟩,bO<|by lia,?_⟩;have Ai':=Ai.unpin v1;have rl:Rep K Zi H0 m0 (.lst P) (.ref a) (Fs r):=r0.frame A0.gd.own (show Step Z H (tot<|kg Fs r) Zi H0 (λb=>tot Fsi b\/Ga b) from si.mono (λ_ z=>b8 z) λ_ z=>z) λb hb=>A0.dis b hb;refine ml (G:=Ga) (λb hb=>Ai'.own b<|.inr hb) Ai'.gd.zal ra (by lia) h4 ?_;intro v' Z' H' G' rv ow st;have hR:Own Zi H0 (Fs r):=λb hb=>Ai'.own b<|.inl hb;have oR:=hR.frame st dGa;have stR:Step Zi H0 (λc=>Fs r c\/Ga c) Z' H' (λc=>Fs r c\/G' c):=(st.frame<|Fs r).mono (λ_ z=>z.elim .inr .inl) λ_ z=>z.elim .inr .inl;obtain⟨d,sB⟩:=Ai'.op (G':=λc=>Fs r c\/G' c) (λc L=>L.elim (oR.1 c)<|ow c) stR;have rl':Rep K Z' H' m0 (.lst P) (.ref a) (Fs r):=rl.frame (λb hb=>Ai'.own b<|.inr hb) st dGa;have B2:=d.put (i:=r) (w:=(m0,.lst P)) (G1:=Fs r) (R:=G') rl' (λ_ z=>.inl z) (λ_ z=>.inr z) (λc L z=>oR.2 c z L) (λn hj=>l0 n hj) p0;rw[e1] at kk;refine kk v' Z' H' (kj Fsi r<|Fs r) G' B2 rv ?_
  have s1:Step Z H (tot Fs) Zi H0 (λc=>tot Fsi c\/(Fs r c\/Ga c)):=by
   refine(si.frame<|Fs r).mono (λc L=>?_) λc L=>?_
   .rcases L with z | z
    .obtain ⟨l,_,_,z2⟩:=z;exact⟨l,z2⟩
    .exact⟨r,z⟩
   .rcases L with z | z | z
    .exact .inl (.inl z)
    .exact .inr z
    .exact .inl (.inr z)
  refine(s1.trans sB).mono (λ_ z=>z) λc L=>?_
  .rcases L with z | z
   .rcases cf z with q | q
    .exact .inl q
    .exact .inr (.inl q)
   .exact .inr (.inr z)
theorem vQ {h:RN}{t i0 j0:Y}{g n:E}(I:eX sf sg [t] is)(hs:sf i0=O j0)(σ:L2.St)(H:Hp)(Q:VK)(hw:wE K sf C (.compV h i0 t n g) σ H Q):dP 1 (l6 K<|lQ j0) is (gT K 1) (wT K sg C n) (wE K sg C g) σ H Q:=by
 have N:=oh (te:=λσ2 H Q=>wT K sg C n σ2 H λok H2=>if ok=Kh then wE K sg C g σ2 H2 λy H'=>Q (O y) H' else Q J H2) I hs (f:=cw (evE C n)<|evE C g) (λ{η o η'} hf=>by
  obtain⟨⟨u,M⟩,P,h8⟩:=aa<|show(evE C n η).bind (onT (bJ<|evE C g)<|okW J)=_ from hf;obtain⟨d,h9,l⟩:=bx h8;cases d with
  |true=>rw[RJ rfl] at l;obtain⟨⟨u2,η5⟩,p,L⟩:=aa<|show(evE C g M).bind dE=_ from l;cases L;exact(aG n P).trans<|aG g p
  |false=>rw[RK KH] at l;cases l;exact aG n P) (λ{val σ2 Z H Fs η ηc R o Q} A hf k=>by
  obtain⟨⟨u,M⟩,P,h8⟩:=aa<|show(evE C n η).bind (onT (bJ<|evE C g)<|okW J)=_ from hf;obtain⟨d,h9,l⟩:=bx h8;refine mj A.bare P h9 λZ1 H1 Fs1 A1 s1=>?_;have A1':=A.frame (A1.mono (G':=no) λ_ z=>z)<|s1.mono (λ_ z=>z) λa ha=>ha.elim id λz=>z.elim;have A2:=A1'.1.mono (G':=R) λ_ z=>.inl z;cases d with
  |true=>rw[RJ rfl] at l ⊢;obtain⟨⟨u2,η5⟩,p,L⟩:=aa<|show(evE C g M).bind dE=_ from l;cases L;exact jo A2 p λv Z' H' Fs' G b r d s _=>k (O v) Z' H' Fs' G b r d<|s1.trans s
  |false=>
   rw[RK KH] at l ⊢;cases l;exact k J Z1 H1 Fs1 no (A2.mono λ_ z=>z.elim id λq=>q.elim) trivial (λ_ _ z=>z) (s1.mono (λ_ z=>z) λa ha=>ha.elim id λz=>z.elim)) (λη=>rfl) σ H Q hw
 obtain⟨x,hx,a,e,sq,W,w0,turn⟩:=N;refine⟨x,hx,a,e,sq,W,w0,λi m ys H w=>?_⟩;rcases turn i m ys H w with c|⟨go,hz,step⟩
 .exact .inl c
 .refine .inr ⟨go,hz,fun x H' y=>?_⟩;have st:=step x H' y;simp only[QX,Ni,La] at st;exact st
end
end MR
namespace MR
open PySem PySem.Spec PyProof.Rows L2 L3
section
variable {X:Cx}{sf sg:Y->j Y}{C:M.Call}{pos p p2 p3:Pos}{ea eb ec:RT}{a b c:M.E}{h:RN}{n:Y}{io:U Y}{K:Kk}{elt iter cnd:RT}{x y:Str}{px py pt:Pos}{kt:Y}{scope:R6}{cl:U (Str×RL)}{ys:U Str}{tg ls is:U Y}{k:M.Ik}{src:U M.E}{e cd:M.E}
theorem Ka (d:Y)(ls:U Y)(is:U Y)(cl:U<|Str×RL)(ys:U Str){t i:Y}(o:∀f s H g,SB (ah X ([x]++ys) scope cl f s H g) (inF [t] ls) C cnd cd)(F:∀f s H g,SE (ah X ([x]++ys) scope cl f s H g) (inF [t] ls) C elt e)
  (S:ay [x] ys scope) (r:Clo X cl) (fr:Frees X scope cl ys is) (w:sf i=O d:=by rfl) (z:X.N[d]?=O y:=by rfl) (L:Vis X.env.scope y:=by first|exact KL rfl|exact Kx (KL rfl)|exact Kx<|Kx rfl) (D:(y==("__debug__":Str))=false:=by decide) (m:(y==("__classdict__":Str))=false:=by decide) (A:X.calm=true:=by rfl) (G:ls.map sf=is.map some:=by rfl)
  (l:LD scope X.env=pure cl:=by with_unfolding_all rfl) (u:(scope.names.all λp=>p.2 != .free || (cl.lookup p.1).isSome)=true:=by rfl)
  (I:∀v,Lj (.Name y py) X.env v=pure v:=by intro _;rfl):SE X sf C (.ListComp elt [⟨.Name x px,.Name y py,[cnd],0⟩] scope pos) (.compV h i t cd e):=
 ak (j7 (pre:=[x]) A (ky<|br z L D m) (sC S) (λf s H g=>F f s H g) (λf s H g=>o f s H g) l S r u fr I) (vQ (cG G) w)
end
end MR

namespace L2
open PySem PySem.Spec PyProof.Rows
section
variable {X:Cx}{tg:RT}
def Itd (lo:Int)(n:Y):It:=⟨λi _=>i<n,λi H x a=>a=H/\x=.int (lo-i),λi _=>n<=i⟩
theorem rq {P:RS}{w:Ks}{K:Kk}{tg:RT}(c:RL)(lo:Int)(n:Y):nU P w K tg (Itd lo n) [c] c (λi h=>N9 h c (lo+(i:Y) * (-1)) ((n:Int)-(i:Y)) (-1)) where
 mem:=by simp
 obj:=λi h a b f=>by
  have e:b=c:=by simpa using f
  subst e
  exact⟨_,a,λv z=>by
   have z':Data.fields _=Data.cell v:=z;cases z'⟩
 keep:=λi h l a k=>k c (by simp) _ a
 item:=by intro X D L A F i d s N H E I m a G;subst D L A;obtain⟨p,r,Z,u,x,y⟩:=m c (by simp);have W:=Walks.range (prog:=X.prog) (w:=X.w) (I.ok.hd F) c lo (-1) n;refine W.item i s _ _ G a λv l M hv g kk=>?_;obtain⟨t,rfl⟩:=hv;have I1:Inv X d N H {s with heap:=l,toks:=M}:=I.turned (λb o f e=>kk b o (by simpa using f) e) p r u x y;refine⟨_,rfl,pD (s:={s with heap:=l,toks:=M}) (n:="range_iterator") g rfl rfl (by decide) ⟨.int<|lo-i,H,I1,⟨t,?_⟩,⟨rfl,rfl⟩,g,λb f=>(m b f).1⟩⟩;rw[show lo+(i:Int) * (-1)=lo-(i:Int) by lia]
 done:=by intro X D L A F i d s N H E I m a G;subst D L A;obtain⟨p,r,Z,u,x,y⟩:=m c (by simp);exact Sg (I.ok.hd F) a (by have:n<=i:=G;lia) λl Q=>⟨rfl,I.turned (t':=s.toks) (λb o f e=>Q b o f e) p r u x y⟩
 self:=λ_ _ _ _ _ a h=>Sh a h
theorem x6 {c:U<|RL×Obj}{f:St}{H:Hp}{s:Ki}{R:It->Hp->Prop}{E:B->Ki->Prop}{lo a:Int}{t u v:Tok}{d:Y}(I:Inv X c f H s)(g:-(2 ^ 62)<=lo)(h:lo<2 ^ 62)(i:-(2 ^ 62)<=a)(k:a<2 ^ 62)
  (q:R (Itd lo (lo-a).toNat) H):RO (Km X.prog X.w) X.A (SO<|.ref s.heap.objs.size) (PIE X c f tg R) E {s with heap:=s.heap.push {cls:=.type "range",data:=.fields #[.int lo t,.int a u,.int (-1) v]},toks:=d}:=by
 refine wpAny_pyIter_range (IsRange.new ..) (PySem.W.small_down g h i k) ?_;have I1:Inv X c f H {s with heap:=s.heap.push {cls:=.type "range",data:=.fields #[.int lo t,.int a u,.int (-1) v]},toks:=d}:=I.kept λb o e=>Heap.get?_push_of_some _ e
 refine⟨(s.heap.push {cls:=.type "range",data:=.fields #[.int lo t,.int a u,.int (-1) v]}).objs.size,[(s.heap.push {cls:=.type "range",data:=.fields #[.int lo t,.int a u,.int (-1) v]}).objs.size],_,_,H,rfl,
  I1.kept (t':=d) λb o e=>Heap.get?_push_of_some _ e,rq _ lo (lo-a).toNat,?_,λb l=>?_,q⟩
 .have e1:lo+((0:Y):Int) * (-1)=lo:=by simp
  have e2:(((lo-a).toNat:Y):Int)-((0:Y):Int)=Builtin.Range.rangeSize lo a (-1):=by rw[PySem.W.rangeSize_downNat];lia
  show N9 _ _ (lo+((0:Y):Int) * (-1)) ((((lo-a).toNat:Y):Int)-((0:Y):Int)) (-1);rw[e1,e2];exact Heap.get?_push_size _ rfl
 .have e:b=(s.heap.push { cls:=.type "range",data:=.fields #[.int lo t,.int a u,.int (-1) v] }).objs.size:=by simpa using l
  subst e;exact I1.fpOk (Kt _)<|I1.hok.fresh<|Kt _
def Bg (c:TA):TI:=λe H R=>c e H λd b=>∃i a:Int,d=[.int i,.int a,.int (-1)]/\(-(2 ^ 62)<=i/\i<2 ^ 62/\-(2 ^ 62)<=a/\a<2 ^ 62)/\R (Itd i (i-a).toNat) b
theorem rN {a b c:RT}{n:TA}{p pos:Pos}(u:Gl X "range")(v:X.mg "range"=J)(o:PA X [a,b,c] n)(w:Kl [a,b,c] X.env=[(Kg,RV a X.env),(Kg,RV b X.env),(Kg,RV c X.env)]:=by rfl)(f:Kl [b,c] X.env=[(Kg,RV b X.env),(Kg,RV c X.env)]:=by rfl):
  PI X tg (.Call (.Name "range" p) [a,b,c] [] pos) (Bg n):=by
 intro g s G H R I h;refine Call_ (cX I u v boot_range<|NC (thn (o pos g s G H _ I h) λP M ⟨Q,L,I1,D,l⟩=>?_) (by rw[w,f])<|by rw[f];rfl);obtain⟨i,d,e,⟨l,x,y,z⟩,q⟩:=l;subst e;cases D with
 | cons r k =>
  cases k with
  | cons A k =>
   cases k with
   |cons m k=>cases k;obtain⟨t,rfl⟩:=r;obtain⟨N,rfl⟩:=A;obtain⟨F,rfl⟩:=m;exact call_range_3 (by decide) (x6 I1 l x y z q)<|.inl<|QM<|by lia
end
end L2
namespace L3
open PySem PySem.Spec PyProof.Rows L2
def F5:V->U V->Hp->VK->Prop:=λx b H Q=>∃l a,x=.ref l/\b=[]/\H l=O (.lst a)/\a.length<sizeLine/\Q .non (upd H l<|.lst a.reverse)
theorem sj {b:U V}{a:U B}(h:Vals b a):Vals b.reverse a.reverse:=by
 induction h with
 |nil=>exact .nil
 |cons r _ c=>rw[Ny,Ny];exact c.append<|.cons r .nil
theorem xR {X:Cx}:MtM X "list.reverse" F5:=by
 intro c s o H x k v i Q I rx d h;obtain⟨l,m,rfl,rfl,b,g,q⟩:=h;cases rx;cases d;obtain⟨z,a,n,r,f,e⟩:=I.lstM b;refine ML Rp ⟨_,e,rfl⟩ PySem.F.entry_list_reverse (PySem.F.args_list_reverse_1 _) (RH l a.toArray n<|by rw[KU];lia) ⟨e,?_⟩;refine⟨.non,_,I.lset (its':=a.reverse) b e ?_ (sj r) ?_,rfl,q⟩
 .simp
 .rw [Ot];lia
end L3
namespace MR
open L2 L3 M
open PySem (Addr Str sizeLine)
section
variable {K:Kk}{Wx:L2.St->VK}{sl:Cf}{sf sg:Y->j Y}{C:Call}{σ σ2:L2.St}{Z Z' Z1:Fp}{H H' H1:Hp}{Fs Fs' Fs1:Fps}{η η' η1 ηb:Env}{G G' G1 R F F':Fp}{tg is vs ls io:U Y}{pv val:Y->j V}{D:bH}
theorem yL {lo:Int}{n:Y}(c:n<=LIM):Wk K (Itd lo n) Z H ((Kq n).map λ(k:Y)=>[(.d,.int<|lo-k)])/\rM K (Itd lo n) Z H ((Kq n).map λ(k:Y)=>[(.d,.int<|lo-k)]):=by refine⟨⟨λH' i s a=>by show i<n;simpa using a,λH' i s a=>by show n<=i;simpa using a,by simpa using c⟩,λH' i x b s a y=>?_⟩;obtain⟨rfl,rfl⟩:=y;refine⟨rfl,(.d,.int<|lo-i),?_,rfl⟩;rw[Kr,K9] at a;rw[KY,LZ a];rfl
theorem zE {e L u:E}(σ:L2.St)(H:Hp)(R:It->Hp->Prop)(h:wI K sf C 1 .rng [e,L,u] σ H R):Bg (wL K sf C [e,L,u]) σ H R:=by
 obtain⟨pv,Z,Fs,η,ws,η',ts,A,ev,v,k⟩:=h;refine⟨pv,Z,Fs,η,ws,η',A,ev,λvs Z' H' Fs' G f r s=>?_⟩;obtain⟨⟨m,a⟩,η1,Q,e1,e2,rfl⟩:=aH ev;obtain⟨⟨n,b⟩,η2,Q,e3,e4,rfl⟩:=aH e2;obtain⟨⟨o,c⟩,η3,Q,e5,e6,rfl⟩:=aH e4;cases e6
 obtain⟨x,y,z,hx⟩:∃x y z,vs=[x,y,z]:=by
  have hl:vs.length=3:=r.length
  match vs,hl with
  |[x,y,z],_=>exact⟨x,y,z,rfl⟩
 subst hx;obtain⟨G1,w,I,r1,N,P⟩:∃G1 w I,Rep K Z' H' m a x G1/\Rep K Z' H' n b y w/\Rep K Z' H' o c z I:=by obtain⟨x',r',G1,w,e,_,_,_,p,y',N,I,G4,e2,_,_,_,q,z',P,G5,G6,e3,_,_,_,q3,_⟩:=r;cases e;cases e2;cases e3;exact⟨_,_,_,p,q,q3⟩
 cases a with
 | int i =>
  cases b with
  | int g =>
   cases c with
   | int l =>
    have t:(if decide (i.natAbs<4611686018427387904)&&decide (g.natAbs<4611686018427387904)&&decide (l=-1)&&fits (i-g).toNat then O ((Kq (i-g).toNat).map λ(k:Y)=>[((.d,.int (i-k)):W)]) else J)=O ts:=v;split at t
    .rename_i M;rw[KS,KS,KS,RP,RP,RP] at M;cases t;obtain⟨⟨⟨c1,c2⟩,c3⟩,c4⟩:=M;subst c3;refine⟨i,g,by rw[show x=_ from r1,show y=_ from N,show z=_ from P],by rw[p62];lia,?_⟩;obtain⟨w1,w2⟩:=yL (K:=K) (Z:=λa=>Z' a\/G a) (H:=H') (lo:=i) (n:=(i-g).toNat)<|cB c4;exact k _ _ H' Fs' f.freeze (ba f.own s) w1 w2
    .cases t
   |_=>cases v
  |_=>cases v
 |_=>cases v
theorem vD {u r:W}(h:jt u=O r):∃m a,u=(m,.lst a)/\m≠.s/\a.length<LIM/\leaves a=Kh/\r=(m,.lst a.reverse):=by
 obtain⟨m,t⟩:=u
 have b:∀a:U T,(if(decide (a.length<LIM)&&leaves a)=Kh then O ((m,.lst a.reverse):W) else J)=O r->a.length<LIM/\leaves a=Kh/\r=(m,.lst a.reverse):=λa h=>by
  split at h
  .rename_i c;rw[KS] at c;cases h;exact⟨R3 c.1,c.2,rfl⟩
  .cases h
 cases m<;>first|(cases h;done)|(cases t<;>try (cases h;done))
 .exact⟨.d,_,rfl,by simp,b _ h⟩
 .exact⟨.o _,_,rfl,by simp,b _ h⟩
theorem Am {i d:Y}(o:sf i=O d)(D:bH)(σ:L2.St)(H:Hp)(h:wS K Wx sf io C (.revS i) D σ H):
  ∃a l,σ[d]?=O (O<|.ref a)/\H a=O (.lst l)/\l.length<sizeLine/\D.nx σ (upd H a<|.lst l.reverse):=by
 obtain⟨pv,Z,Fs,η,N,c,f⟩:=h;obtain⟨η2,g,P⟩:=eI<|show Fin K Wx ⟨sf,pv⟩ Z H (tot Fs) D (nxO η<|((rd η i).bind jt).map λu=>M.put η i u) from f;cases e1:rd η i with
 |none=>rw[e1] at g;cases g
 | some u1 =>
  rw[e1] at g;cases e2:jt u1 with
  |none=>rw[show(O u1).bind jt=jt u1 from rfl,e2] at g;cases g
  |some r1=>rw[show(O u1).bind jt=jt u1 from rfl,e2] at g;cases g;obtain⟨m,x,rfl,A,y,n,rfl⟩:=vD e2;obtain⟨a,xs0,v,ha⟩:=c.listAt o e1;obtain⟨l,hl,Q,hx,p,w⟩:=c.ourList o A v e1;have e3:=p.length;refine⟨a,l,v,hx,fV hl,?_⟩;have lr:leaves x.reverse=true:=K5.mpr λt ht=>K5.mp n t<|Oi.mp ht;have pl:RepL K (λb=>Z b\/((Fs i b\/no b)/\b≠a/\¬no b)) H m.kid x.reverse l.reverse no:=RepL.leaves (λ_ _ _ e=>e) lr<|my<|RepL.leaves (Z':=Z) (m':=.s) (G':=no) (λ_ _ _ e=>e) n p;exact change (K:=K) (m':=m) (G':=no) A c e1 Q (λk hk=>by rw[show sf i=O k from hk] at o;cases o;exact v) (by rw[Ot,e3];lia) w (λ_ z=>z.elim) (ts':=x.reverse) pl λL r I s2=>P σ L _ r I<|s2.mono (λ_ z=>z.elim id λq=>q.elim) λ_ z=>z
end
end MR
namespace MR
open PySem PySem.Spec PyProof.Rows L2 L3
section
variable {X:Cx}{sf sg:Y->j Y}{C:M.Call}{pos p p2 p3:Pos}{ea eb ec:RT}{a b c:M.E}{h:RN}{n:Y}{io:U Y}{K:Kk}
theorem wu {i:RT}{p:Pos}(hm:X.mg "range"=J)(g:Gl X "range":=by rfl)(ha:SE X sf C ea a)(hb:SE X sf C eb b)(hc:SE X sf C ec c)(f:Kl [ea,eb,ec] X.env=[(Kg,RV ea X.env),(Kg,RV eb X.env),(Kg,RV ec X.env)]:=by rfl)(d:Kl [eb,ec] X.env=[(Kg,RV eb X.env),(Kg,RV ec X.env)]:=by rfl)(e:Kl [ec] X.env=[(Kg,RV ec X.env)]:=by rfl):PI X i (.Call (.Name "range" p) [ea,eb,ec] [] pos) (wI X.K sf C 1 .rng [a,b,c]):=jF (rN g hm (slc ha (slc hb (slc hc sl0 e)<|by rw[d,e])<|by rw[f,d]) f d) zE
theorem Ij (d:Y){i:Y}{x:Str}{e f l:Pos}(w:sf i=O d:=by rfl)(s:X.N[d]?=O x:=by rfl)(y:Vis X.env.scope x:=by first|exact KL rfl|exact Kx (KL rfl)|exact Kx<|Kx rfl)(t:(x==("__debug__":Str))=false:=by decide)(m:(x==("__classdict__":Str))=false:=by decide)
  (g:MC (.Name x l) "reverse" X.env (RV (.Name x l) X.env)=RV (.Name x l) X.env:=by rfl)
  (k:(e.endLine==f.line)=true:=by rfl) (o:Ln (.Call (.Attribute (.Name x l) "reverse" e) [] [] f) J pos.line X.env=pure false:=by rfl):
  SS X sf io C (.Expr (.Call (.Attribute (.Name x l) "reverse" e) [] [] f) pos) (.revS i):=
 b6 (fu (sZ Nq Rp PySem.F.type_list_reverse xR (br s y t m) g k) o) λD A H z=>by obtain⟨p,r,u,hp,v,q⟩:=Am w D A H z;exact⟨.ref p,u,.inl ⟨rfl,r,.inl<|.inl hp⟩,p,r,rfl,rfl,hp,v,q⟩
end
end MR

namespace L3
open PySem PySem.Spec PyProof.Rows L2
def Great (b:U Int)(a:Y)(c:U B):Prop:=(a=0/\c=[])\/∃m t,c=[.int m t,.int m t]/\m∈b.take a/\∀n∈b.take a,n<=m
theorem Great.more {b:U Int}{a:Y}{m n:Int}{t u:Tok}(d:b[a]?=O n)(h:m∈b.take a/\∀k∈b.take a,k<=m):Great b (a+1) (if n>m then[.int n u,.int n u] else[.int m t,.int m t]):=by
 have e:b.take (a+1)=b.take a++[n]:=by rw[Pg,d];rfl
 refine .inr ?_;rw[e];by_cases c:n>m
 .rw [RJ c];exact⟨n,u,rfl,by simp,λk hk=>(Li.mp hk).elim (λz=>by have:=h.2 k z;lia) λz=>by rw[K1.mp z];exact Og _⟩
 .rw [RK c];exact⟨m,t,rfl,by simp[h.1],λk hk=>(Li.mp hk).elim (h.2 k) λz=>by rw[K1.mp z];lia⟩
section
variable {prog:RS}{w:Ks}{A:KO}{R:Ml->Ki->Prop}{E:B->Ki->Prop}{I l S:RL}{ns:U Int}{its:U B}{d:B}
theorem fq:toString "max"++toString ".loop"="max.loop":=rfl
theorem ie (W:Walks prog w A.in1 I [I,l] [I] its.length (λi v=>its.toArray[i]?=O v) λi h=>h.IsListIter I l i/\h.IsList l its.toArray)(hv:∀(a:Y) (v:B),its[a]?=O v->∃(n:Int) (t:Tok),ns[a]?=O n/\v=Value.int n t)(M:ns.length=its.length)(hS:S ∉ [I,l])
  (a:Y) (s:Ki) (vs:U B) (c:Y) (hj:a<=its.length) (st:s.heap.IsListIter I l a/\s.heap.IsList l its.toArray) (Z:s.heap.get? S=O (uj vs c)) (g:Great ns a vs)
  (out:∀(h:RU) (D:Y) (v:B),(∀b o,b≠I->b≠S->s.heap.get? b=O o->h.get? b=O o)->((ns=[]/\v=d)\/∃m t,v=.int m t/\m∈ns/\∀n∈ns,n<=m)->R (.ok<|.ret v) {s with heap:=h,toks:=D}):
  Lp (Km prog w) A (.builtin "max.loop" ⟨[.ref I,.none,.ref S],[("default",d)]⟩) R s:=by
 have Q:S ∉ [I]:=λm=>hS (by rw[K1.mp m];simp);apply MM F.entry_max_loop;rw[Around.under_plainId F.plain_max_loop];apply Kj;apply L9 Z rfl;by_cases hlt:a<its.length
 .apply Kj;refine Sl (W.item a s _ _ hlt st λv L D hv1 st1 k1=>?_);have P:=k1 S _ Q Z;obtain⟨n,u,hn,rfl⟩:=hv a v (by simpa using hv1)
  -- one turn more, with what is held now
  have on:∀(y:RU) (G:U B) (H:Y),Kp S L y->y.get? S=O (uj G H)->Great ns (a+1) G->Lp (Km prog w) A (.builtin "max.loop" ⟨[.ref I,.none,.ref S],[("default",d)]⟩) R {s with heap:=y,toks:=D}:=λy G H N r g2=>by refine ie W hv M hS (a+1) _ G H hlt (W.frame _ _ _ st1 λb Z o e=>N b o (λz=>hS<|z ▸ Z) e) r g2 λh3 tk3 v3 k3 o3=>out h3 tk3 v3 (λb o nI nS e=>k3 b o nI nS<|N b o nS<|k1 b o (λm=>nI<|K1.mp m) e) o3
  rcases g with⟨h0,p⟩|⟨m,t,p,gm⟩
  .subst p;refine Kj (Ko (Kj (Eo (s:={s with heap:=L,toks:=D}) (f:=λ_=>#[.int n u,.int n u]) P (K4 _) (show 2<=sizeLine+1 by decide) λy H r N=>?_)));rw[fq];refine Ko ⟨MB F.plain_max_loop _,on y _ H N r (.inr ⟨n,u,rfl,?_⟩)⟩;subst h0;have e:ns.take 1=[n]:=by rw[show 1=0+1 from rfl,Pg,hn];rfl
   rw[e];exact⟨K1.mpr rfl,λk hk=>by rw[K1.mp hk];exact Og _⟩
  .subst p;have gr:=Great.more (t:=t) (u:=u) hn gm
   have cmp:∀(s':Ki) (Q':B->Ki->Prop) (E':B->Ki->Prop),Q' (.bool (decide (n>m))) s'->RO (Km prog w) A.in1 (richCompare .Gt (.int n u) (.int m t)) Q' E' s':=λs' Q' E' hq=>
    richCompare_gives (op:=.Gt) (ND s' n u) (ND s' m t) F.slot_int_gt F.entry_int_gt (F.args_int_gt_2 _ _) (gives_int_gt _ _ u t) (λx=>nomatch x) hq
   apply Kj;apply Ko;apply Kj;apply Sl;apply Ls;apply Kj;apply cmp;apply Kj;apply Ls;apply M8;apply Kj;apply MP;apply Ko;by_cases c0:n>m
   .rw [RJ c0] at gr;rw[RJ<|RI c0];refine Kj<|Eo (s:={s with heap:=L,toks:=D}) (f:=λ_=>#[.int n u,.int n u]) P (show 2<=sizeLine by decide) (show 2<=sizeLine+1 by decide) λy H r N=>Kj<|MP ?_;rw[fq];exact Ko ⟨MB F.plain_max_loop _,on y _ H N r gr⟩
   .rw [RK c0] at gr;rw[RK<|by simpa using c0];refine Kj<|MP ?_;rw[fq];exact Ko ⟨MB F.plain_max_loop _,on L _ c (λ_ _ _ e=>e) P gr⟩
 .have hje:a=its.length:=by lia
  subst hje;apply Kj;refine Sl<|W.done s _ _ st λL D k1=>?_;have k1':∀b o,b≠I->s.heap.get? b=O o->L.get? b=O o:=λb o nI e=>k1 b o (λm=>nI<|K1.mp m) e;rcases g with⟨h0,p⟩|⟨m,t,p,gm⟩
  .subst p;exact Kj<|Mp<|Ko<|out L D d (λb o nI _ e=>k1' b o nI e)<|.inl ⟨Q9<|by lia,rfl⟩
  .subst p;rw[<- M,NW] at gm;exact Kj<|Eo (s:={s with heap:=L,toks:=D}) (f:=λ_=>#[]) (k1 S _ Q Z) (show 2<=sizeLine by decide) (K4 _) λy H _ N=>Kj<|MP<|Ko<|out y D _ (λb o nI nS e=>N b o nS<|k1' b o nI e)<|.inr ⟨m,t,rfl,gm⟩
termination_by its.length-a
theorem sA {s:Ki}{Q:B->Ki->Prop}(G:A.handled=J)(r:s.heap.IsList l its.toArray)(H:∀(a:Y) (v:B),its[a]?=O v->∃(n:Int) (t:Tok),ns[a]?=O n/\v=Value.int n t)(f:ns.length=its.length)
  (q:∀(h:RU) (x:Y) (v:B),(∀b o,s.heap.get? b=O o->h.get? b=O o)->((ns=[]/\v=d)\/∃m t,v=.int m t/\m∈ns/\∀n∈ns,n<=m)->Q v {s with heap:=h,toks:=x}):
  RO (Km prog w) A (call (.builtin "max") [.ref l] [("default",d)]) Q E s:=by
 have lt:l<s.heap.objs.size:=by obtain⟨_,e,_⟩:=r;exact Heap.lt_size e
 refine RB F.kind_max F.plain_max F.entry_max (by unfold argsOk;kernel_rfl) ?_;refine Kj<|MA (show Builtin.Builtins.bindParams "max" ["key","default"] 0 ⟨[],[("default",d)]⟩=pure [J,O d] from rfl)<|Kj<|Ko<|Kj<|Ma r<|Kj<|LK ?_;rw[fq];generalize p:s.heap.push {cls:=.type "list_iterator",data:=.fields #[.ref l,.int 0 0]}=g;have y:g.objs.size=s.heap.objs.size+1:=by rw[<- p,Heap.size_push]
 have i:∀b o,s.heap.get? b=O o->g.get? b=O o:=λb o e=>p ▸ Heap.get?_push_of_some _ e;have c:∀b o,g.get? b=O o->(g.push (uj [] 0)).get? b=O o:=λb o e=>Heap.get?_push_of_some _ e;refine Ko ⟨MB F.plain_max_loop _,ie (I:=s.heap.objs.size) (Walks.list (A:=A.in1) G _ l (KR lt) its.toArray) H f (λm=>?_) 0 _ [] 0 (K4 _) ⟨⟨_,c _ _<|p ▸ Heap.get?_push_size _ rfl,rfl,rfl⟩,r.at λo e=>c _ o<|i _ o e⟩ (Heap.get?_push_size _ rfl) (.inl ⟨rfl,rfl⟩) λh x v k o=>q h x v (λb u e=>?_) o⟩
 .rw [KD,K1] at m;have big:s.heap.objs.size<g.objs.size:=y ▸ MG _;exact m.elim (λz=>LS big z) λz=>LS (Ng lt big) z
 .have D:=Heap.lt_size e;exact k b u (KR D) (KR<|Ng D<|y ▸ MG _)<|c b u<|i b u e
end
def JK (K:Kk)(t:TA):TE:=λe H Q=>t e H λd c=>∃(a:RL) (b:U Int),d=[.ref a]/\SqL K c a (b.map V.int)/\(b=[]->Q (.int 0) c)/\∀M,M∈b->(∀n∈b,n<=M)->Q (.int M) c
theorem qt:∀{b:U Int} {c:U B},Vals (b.map V.int) c->∀(a:Y) (v:B),c[a]?=O v->∃(n:Int) (t:Tok),b[a]?=O n/\v=Value.int n t
|[],_,.nil,a,v,h=>by simp at h
|n::b,_,.cons ⟨t,e⟩ r,0,v,h=>by cases e;cases h;exact⟨n,t,rfl,rfl⟩
|n::b,_,.cons _ r,a+1,v,h=>qt r a v h
theorem x9 {X:Cx}{e:RT}{t:TA}{p pos P Z:Pos}{N:Y}(D:X.calm=Kh)(F:Gl X "max")(G:X.mg "max"=J)(y:PA X [e] t)
  (he:Kl [e] X.env=(Kg,RV e X.env)::Kl [] X.env:=by rfl) (c:(KQ pos<|Kl [e] X.env).any (·.1)=Kg) (z:KQ pos (Kl [e] X.env)=(Kg,RV e X.env)::KQ pos (Kl [] X.env)):
  PE X (.Call (.Name "max" p) [e] [⟨O "default",.Constant (.int 0) N Z,P⟩] pos) (JK X.K t):=by
 intro b s l H Q I h;refine Na (cX I F G (by rfl) ?_ (by decide)<|by decide);refine callWith_kw (thn (y pos b s l H _ I h) λus s1 ⟨vs,f,I1,r1,q1⟩=>?_) z c (by rfl) (by rfl);refine kws_cons<|thn (tX b s1 l f (λx g=>x=.int 0/\g=f) I1 ⟨rfl,rfl⟩) λd s2 ⟨x,g,I2,r2,e1,e2⟩=>?_;subst e1 e2;obtain⟨tk,rfl⟩:=r2;refine kws_nil ?_;obtain⟨a,ns,rfl,w,q0,q⟩:=q1;obtain⟨u,rfl,ru⟩:=c5 r1;cases ru;obtain⟨M,i,pl,hz⟩:=I2.list w;refine sA (ns:=ns) (show X.A.handled=J from I2.ok.hd D) pl.isList (qt i) (by rw[<- i.length,Kr]) λh' tk' v k o=>?_;rcases o with⟨L,rfl⟩|⟨m,t',rfl,n,r⟩
 .exact⟨.int 0,_,I2.kept k,⟨_,rfl⟩,q0 L⟩
 .exact⟨.int m,_,I2.kept k,⟨t',rfl⟩,q m n r⟩
end L3
namespace MR
open L2 L3 M
open PySem (Addr Str sizeLine)
section
variable {K:Kk}{sf:Y->j Y}{C:Call}{h:RN}
theorem s9:Loc K 1 .maxZ h λf H Q=>∃(a:RL) (b:U Int),f=[.ref a]/\SqL K H a (b.map V.int)/\(b=[]->Q (.int 0) H)/\∀M,M∈b->(∀n∈b,n<=M)->Q (.int M) H:=by
 intro u w f Z H G Q s e r y A k
 match u,s with
 | [(m,a)],_ =>
  obtain⟨x,rfl,t⟩:=bG rfl r;cases a with
  | lst l =>
   obtain⟨a,f,hx,i,v,p⟩:=bc t;have c:((M.intsOf l).bind λb=>O ((.d,.int (if b.isEmpty then 0 else M.maxI b)):M.W))=O w:=e;cases e1:M.intsOf l with
   |none=>rw[e1] at c;cases c
   | some b =>
    rw[e1] at c;have e2:O ((.d,.int (if b.isEmpty then 0 else M.maxI b)):M.W)=O w:=c;cases e2;rw[dW e1 p] at i;refine⟨a,b,by rw[hx],.inl<|.inl i,λz=>?_,λm g o=>?_⟩
    .subst z;exact aN k
    .cases b with
     |nil=>cases g
     |cons n b=>rw[<- ke g o];exact aN k
  |_=>cases e
end
end MR
namespace MR
open PySem PySem.Spec PyProof.Rows L2 L3
section
variable {X:Cx}{sf sg:Y->j Y}{C:M.Call}{pos p p2 p3:Pos}{ea eb ec:RT}{a b c:M.E}{h:RN}{n:Y}{io:U Y}{K:Kk}
theorem Bv {l m:Pos}{k:Y}(g:X.calm=true:=by rfl)(hm:X.mg "max"=J)(i:Gl X "max":=by rfl)(ha:SE X sf C ea a)(e:Kl [ea] X.env=(Kg,RV ea X.env)::Kl [] X.env:=by rfl)(d:(KQ pos<|Kl [ea] X.env).any (·.1)=false:=by rfl)(f:KQ pos (Kl [ea] X.env)=(Kg,RV ea X.env)::KQ pos (Kl [] X.env):=by rfl):
  SE X sf C (.Call (.Name "max" p) [ea] [⟨O "default",.Constant (.int 0) k m,l⟩] pos) (.op .maxZ h [a]):=
 ak (x9 g i hm (slc ha sl0 e) e d f) (dH s9 rfl)
end
end MR

namespace MR
open L2 L3 M
open PySem (Addr Str sizeLine)
section
variable {K:Kk}{Wx:L2.St->VK}{sl:Cf}{sf sg:Y->j Y}{C:Call}{σ σ2:L2.St}{Z Z' Z1:Fp}{H H' H1:Hp}{Fs Fs' Fs1:Fps}{η η' η1 ηb:Env}{G G' G1 R F F':Fp}{tg is vs ls io:U Y}{pv val:Y->j V}{D:bH}
theorem uB {a b c:j W}{r:W}(h:kE a b c=O r):∃g m f n t q i,a=O (.d,.lst g)/\b=O (m,.int f)/\c=O (n,t)/\M.ixN g.length f=O q/\g[q]?=O (.lst i)/\i.length<LIM/\t.leaf=Kh/\r=(.d,.lst<|g.set q<|.lst<|i++[t]):=by
 unfold kE at h;split at h
 .rename_i g m f n t;cases e:M.ixN g.length f with
  |none=>rw[e] at h;cases h
  | some q =>
   rw[e] at h;have k:apU g q t g[q]?=O r:=h;cases e2:g[q]? with
   |none=>rw[e2] at k;cases k
   | some u =>
    rw[e2] at k;cases u with
    | lst i =>
     have l:(if(decide (i.length<LIM)&&t.leaf)=Kh then O ((.d,.lst (g.set q (.lst (i++[t])))):W) else J)=O r:=k;split at l
     .rename_i o;rw[KS] at o;cases l;exact⟨g,m,f,n,t,q,i,rfl,rfl,rfl,e,e2,R3 o.1,o.2,rfl⟩
     .cases l
    |_=>cases k
 .cases h
theorem RepL.inner {y:V}{t:T}(L:t.leaf=Kh)(Q:Rep K Z H .d t y no)(oz:∀a,Z a->H a≠J):∀{v:U T} {m:U V} {G:Fp} {q:Y} {k:U T},Own Z H G->RepL K Z H .d v m G->v[q]?=O (.lst k)->k.length<LIM ->
 ∃b f,m[q]?=O (.ref b)/\G b/\H b=O (.lst f)/\f.length=k.length/\RepL K Z (upd H b<|.lst<|f++[y]) .d (v.set q<|.lst<|k++[t]) m G
|[],_,_,_,_,_,_,e,_=>by simp at e
| u::v,m,G,q,k,N,⟨x,r,G1,G2,ex,n,l,s,p,P⟩,e,M=>by
 have stay:∀{b:RL} {f zs:U V},G b->H b=O (.lst f)->Stay Z H (upd H b (.lst zs)):=λ{b f zs} g i=>by
  have A:∀a o,H a=O o->(∀f,o≠.lst f)->upd H b (.lst zs) a=O o:=λa o e no=>by rw[af λz=>by rw[z,i] at e;cases e;exact no _ rfl];exact e
  refine⟨λa o za e=>?_,λa m e=>?_,λa o u e=>A a _ e<|by intro f z;cases z⟩
  .rw[af<|show a≠b fromλz=>(N b g).1<|z ▸ za];exact e
  .rcases e with e | ⟨o,e⟩
   .exact .inl (A a _ e<|by intro f z;cases z)
   .exact .inr ⟨o,A a _ e<|by intro f z;cases z⟩
 have keep:∀{b:RL} {zs:U V} {G':Fp},¬G' b->∀a o,G' a->H a=O o->upd H b (.lst zs) a=O o:=λ{b zs G'} nb a o w e=>by rw[af<|show a≠b fromλz=>nb<|z ▸ w];exact e
 subst ex;cases q with
 |zero=>
  rw[NP] at e;cases e;obtain⟨b,f,rfl,hyl,g,i,pr⟩:=er (by simp) p;have h:f.length=k.length:=pr.length;have I:=stay (zs:=f++[y]) (n b g) i;refine⟨b,f,rfl,n b g,i,h,.ref b,r,G1,G2,rfl,n,l,s,⟨b,f++[y],rfl,?_,⟨g,av⟩,?_⟩,P.keep I (λ_ z=>z)<|keep<|s b g⟩
  .rw[KJ,Lf,h];exact M
  .exact RepL.append (G1:=λc=>G1 c/\c≠b) (G2:=no) (λ_ z=>z) (λ_ z=>z.elim) (λ_ _ z=>z) (pr.keep I (λ_ z=>z)<|keep λz=>z.2 rfl) (RepL.one<|Q.leaf I.2.2 L)
 |succ q=>rw[LI] at e;obtain⟨b,f,e1,g,i,h,pr⟩:=RepL.inner L Q oz (λa w=>N a<|l a w) P e M;refine⟨b,f,e1,l b g,i,h,x,r,G1,G2,rfl,n,l,s,p.keep (stay (l b g) i) (λ_ z=>z)<|keep λz=>s b z g,pr⟩
theorem xJ {i:Y}{b:RL}{d:U V}{w':W}{v:V}(A:At K ⟨sf,pv⟩ σ Z H Fs η no){w0:W}(P:rd η i=O w0)(I:Fs i b)(hx:∀c,sf i=O c->σ[c]?=O (O v))(s:∀u,pv i=O u->v=u)(p:Rep K Z (upd H b<|.lst d) w'.1 w'.2 v<|Fs i):
  At K ⟨sf,pv⟩ σ Z (upd H b<|.lst d) Fs (M.put η i w') no/\Step Z H (tot Fs) Z (upd H b<|.lst d) (tot Fs):=by
 have L:tot Fs b:=⟨i,I⟩;obtain⟨nz,ys,w⟩:=A.gd.own b L
 have g:∀a,H a≠J->upd H b (.lst d) a≠none:=λa h=>by
  by_cases e:a=b
  .rw[e,av];simp
  .rw[af e];exact h
 have f:∀a o,H a=O o->a≠b->upd H b (.lst d) a=O o:=λa o e ne=>by rw[af ne];exact e
 have stay:Stay Z H (upd H b (.lst d)):=⟨λa o y e=>f a o e λz=>nz<|z ▸ y,λa xs e=>by
  rcases e with e|⟨o,e⟩
  .exact .inl (f a _ e λz=>by rw[z,w] at e;exact kz e.symm)
  .exact .inr ⟨o,f a _ e λz=>by rw[z,w] at e;exact eN e.symm⟩,λa o u e=>f a _ e λz=>by rw[z,w] at e;exact eN e.symm⟩
 refine⟨⟨⟨λa ta=>?_,A.gd.dis,λa y=>g a<|A.gd.zal a y⟩,λl m t e=>?_,λa z=>z.elim,λa z=>z.elim,A.lk,A.ln⟩,⟨λa o e n=>f a o e λz=>n<|z ▸ L,λ_ z=>z,λ_ z=>.inl z,λ_ z=>.inl z,g,λz a h=>g a<|z a h⟩⟩
 .obtain ⟨x,zs,hz⟩:=A.gd.own a ta;refine⟨x,?_⟩;by_cases e:a=b
  .exact⟨.inl d,by rw[e,av];rfl⟩
  .exact⟨zs,by rw[af e];exact hz⟩
 .rw [bz] at e;split at e
  .rename_i k;obtain⟨rfl,_⟩:=k;cases e;exact⟨v,p,hx,s⟩
  .rename_i k;have Q:l≠i:=λz=>k ⟨z,dF P⟩;obtain⟨u,r,h⟩:=A.env l m t e;exact⟨u,r.keep stay (λ_ z=>z) λa o N e=>f a o e λz=>Q<|A.gd.dis l i b (z ▸ N) I,h⟩
theorem BO {i k l Q jk jl:Y}(hi:sf i=O Q)(hk:sf k=O jk)(hl:sf l=O jl)(D:bH)(σ:L2.St)(H:Hp)(h:wS K Wx sf io C (.apN i k l) D σ H):
  ∃a r o b u y,σ[Q]?=O (O<|.ref a)/\σ[jk]?=O (O<|.int o)/\σ[jl]?=O (O y)/\H a=O (.lst r)/\L2.atI r o=O (.ref b)/\H b=O (.lst u)/\u.length<sizeLine/\D.nx σ (upd H b<|.lst<|u++[y]):=by
 obtain⟨pv,Z,Fs,η,N,A,f⟩:=h;obtain⟨η2,x,h5⟩:=eI<|show Fin K Wx ⟨sf,pv⟩ Z H (tot Fs) D (nxO η<|(kE (rd η i) (rd η k)<|rd η l).map λw=>M.put η i w) from f;cases e:kE (rd η i) (rd η k) (rd η l) with
 |none=>rw[e] at x;cases x
 | some r1 =>
  rw[e] at x;cases x;obtain⟨ts,m,o,n,t,q,us,r1,r2,r3,hq,hu,hn,lf,rfl⟩:=uB e;obtain⟨v,rv,l1,p1⟩:=A.env i _ _ r1;obtain⟨z,rz,l2,_⟩:=A.env k _ _ r2;obtain⟨y,ry,l3,_⟩:=A.env l _ _ r3;obtain⟨a,r,rfl,L,ga,ha,p⟩:=er (by simp) rv;obtain rfl:z=V.int o:=rz;have P:=p.length;obtain⟨b,u,e1,gb,hb,hyn,pr⟩:=RepL.inner (y:=y) lf (ry.leaf (λ_ _ _ e=>e) lf) A.gd.zal (λc gc=>A.gd.own c ⟨i,gc.1⟩) p hu hn;refine⟨a,r,o,b,u,y,l1 Q hi,l2 jk hk,l3 jl hl,ha,?_,hb,fV<|by lia,?_⟩
  .have I:L2.ixN r.length o=O q:=by rw [P]; exact hq
   unfold L2.atI;rw[I];exact e1
  .obtain ⟨g,s⟩:=xJ (w':=(.d,.lst<|ts.set q<|.lst<|us++[t])) A r1 gb.1 l1 p1 ⟨a,r,rfl,L,⟨ga,by rw [af<|Lg gb.2]; exact ha⟩,pr⟩;exact h5 σ Z _ Fs g s
theorem rj {a b c:j W}{r:W}(h:gX a b c=O r):∃g e m d n t,a=O (g,.lst e)/\g≠.s/\b=O (m,.int d)/\c=O (n,t)/\0<=d/\d.toNat<=e.length/\e.length<1000/\leaves e=Kh/\t.leaf=Kh/\r=(g,.lst (e.take d.toNat++t::e.drop d.toNat)):=by
 unfold gX at h;split at h
 .cases h
 .rename_i g e m d n t i;split at h
  .rename_i f;simp only[KS,RP] at f;cases h;exact⟨g,e,m,d,n,t,rfl,λz=>i z,rfl,rfl,f.1.1.1.1,f.1.1.1.2,f.1.1.2,f.1.2,f.2,rfl⟩
  .cases h
 .cases h
end
end MR
namespace MR
open PySem PySem.Spec PyProof.Rows L2 L3
section
variable {X:Cx}{sf sg:Y->j Y}{C:M.Call}{pos p p2 p3:Pos}{ea eb ec:RT}{a b c:M.E}{h:RN}{n:Y}{io:U Y}{K:Kk}
theorem Fx (ji jk jl:Y){i k l:Y}{x y z:Str}{f e F G r A:Pos}(hi:sf i=O ji:=by rfl)(hk:sf k=O jk:=by rfl)(hl:sf l=O jl:=by rfl)(hN:X.N[ji]?=O x:=by rfl)(I:X.N[jk]?=O y:=by rfl)(L:X.N[jl]?=O z:=by rfl)
  (hv:Vis X.env.scope x:=by first|exact KL rfl|exact Kx (KL rfl)|exact Kx<|Kx rfl) (hv2:Vis X.env.scope y:=by first|exact KL rfl|exact Kx (KL rfl)|exact Kx<|Kx rfl) (hv3:Vis X.env.scope z:=by first|exact KL rfl|exact Kx (KL rfl)|exact Kx<|Kx rfl)
  (hd:(x==("__debug__":Str))=false:=by decide) (Q:(y==("__debug__":Str))=false:=by decide) (Z:(z==("__debug__":Str))=false:=by decide) (P:(x==("__classdict__":Str))=false:=by decide) (s:(y==("__classdict__":Str))=false:=by decide) (t:(z==("__classdict__":Str))=false:=by decide)
  (m:MC (.Subscript (.Name x F) (.Name y G) A) "append" X.env (RV (.Subscript (.Name x F) (.Name y G) A) X.env)=RV (.Subscript (.Name x F) (.Name y G) A) X.env:=by rfl)
  (u:((KQ e<|Kl [Expr.Name z r] X.env).all (λx=>!x.1)&&(SD e<|NF [] X.env).all (λx=>x.1.isSome)&&decide ([Expr.Name z r].length+([]:U L7).length+(if([]:U L7).isEmpty then 0 else 1)<30))=true:=by rfl)
  (o:(f.endLine==e.line)=true:=by rfl) (w:Kl [Expr.Name z r] X.env=(Kg,RV (.Name z r) X.env)::Kl [] X.env:=by rfl) (g:(KQ e<|Kl [] X.env).any (·.1)=false:=by rfl)
  (hsw:Ln (.Call (.Attribute (.Subscript (.Name x F) (.Name y G) A) "append" f) [.Name z r] [] e) J pos.line X.env=pure false:=by rfl):
  SS X sf io C (.Expr (.Call (.Attribute (.Subscript (.Name x F) (.Name y G) A) "append" f) [.Name z r] [] e) pos) (.apN i k l):=
 b6 (fu (pB Nq Ri Rh jP (Bx ix_any (br hN hv hd P) (br I hv2 Q s)<|by intro _ _;rfl) (aT (br L hv3 Z t) cp w) m u o w g) hsw) λD σ H hw=>by obtain⟨a,xs,d,b,ys,v,e1,e2,e3,ha,M,hb,hln,hq⟩:=BO hi hk hl D σ H hw;exact⟨.ref a,e1,.int d,e2,a,xs,d,.ref b,rfl,rfl,.inl<|.inl<|.inl ha,M,.inl ⟨rfl,ys,.inl<|.inl hb⟩,v,e3,b,ys,v,rfl,rfl,hb,hln,hq⟩
end
end MR

namespace L3
open PySem PySem.Spec PyProof.Rows L2
theorem Vals.takeN:∀{b:U V} {a:U B} (n:Y),Vals b a->Vals (b.take n) (a.take n)
|_,_,0,_=>by rw[Nz,Nz];exact .nil
|_,_,n+1,.nil=>.nil
|_,_,n+1,.cons r t=>.cons r<|Vals.takeN n t
theorem Vals.dropN:∀{b:U V} {a:U B} (n:Y),Vals b a->Vals (b.drop n) (a.drop n)
|_,_,0,h=>h
|_,_,n+1,.nil=>.nil
|_,_,n+1,.cons r t=>Vals.dropN n t
def HP:V->U V->Hp->VK->Prop:=λx c H Q=>∃l b a y,x=.ref l/\c=[.int a,y]/\H l=O (.lst b)/\0<=a/\a.toNat<=b.length/\b.length<1000/\Q .non (upd H l<|.lst (b.take a.toNat++y::b.drop a.toNat))
theorem yj {X:Cx}:MtM X "list.insert" HP:=by
 intro i s L H x D v A Q I rx d h;obtain⟨l,G,a,y,rfl,rfl,f,p,k,w,q⟩:=h;cases rx;cases d with
 | cons r0 d =>
  obtain⟨u,rfl,o⟩:=c5 d;obtain⟨t,rfl⟩:=r0;obtain⟨z,b,n,r,g,e⟩:=I.lstM f;have c:Builtin.List.listFitsIndex a=true:=by unfold Builtin.List.listFitsIndex;simp;lia
  refine ML Rg ⟨_,e,rfl⟩ PySem.F.entry_list_insert (PySem.F.args_list_insert_3 _ _ _) (RG l b.toArray n a t u (by rw[c];decide)<|by rw[KU,<- g];exact z) ⟨e,?_⟩;refine⟨.non,_,I.lset (its':=b.take a.toNat++u::b.drop a.toNat) f e ?_ ((Vals.takeN _ r).append<|.cons o<|Vals.dropN _ r) ?_,rfl,q⟩
  .apply Array.toList_inj.mp;have m:(if a<0 then(a+(b.toArray.size:Int)).toNat else min a.toNat b.toArray.size)=a.toNat:=by rw[RK (by lia),KU,<- g];lia
   show(((b.toArray.extract 0<|if a<0 then(a+(b.toArray.size:Int)).toNat else min a.toNat b.toArray.size).push u++b.toArray.extract (if a<0 then(a+(b.toArray.size:Int)).toNat else min a.toNat b.toArray.size))).toList=_;rw[m];simp;exact OH<|by rw[Mg];exact Kt _
  .rw [KJ,Kz,Ms,Mg];have:(1000:Y)<=sizeLine:=by decide
   lia
end L3
namespace MR
open L2 L3 M
open PySem (Addr Str sizeLine)
section
variable {K:Kk}{Wx:L2.St->VK}{sl:Cf}{sf sg:Y->j Y}{C:Call}{σ σ2:L2.St}{Z Z' Z1:Fp}{H H' H1:Hp}{Fs Fs' Fs1:Fps}{η η' η1 ηb:Env}{G G' G1 R F F':Fp}{tg is vs ls io:U Y}{pv val:Y->j V}{D:bH}
theorem yC {i k l ji P Q:Y}(r:sf i=O ji)(hk:sf k=O P)(hl:sf l=O Q)(D:bH)(σ:L2.St)(H:Hp)(h:wS K Wx sf io C (.insN i k l) D σ H):
  ∃a d c y,σ[ji]?=O (O<|.ref a)/\σ[P]?=O (O<|.int c)/\σ[Q]?=O (O y)/\H a=O (.lst d)/\0<=c/\c.toNat<=d.length/\d.length<1000/\D.nx σ (upd H a<|.lst (d.take c.toNat++y::d.drop c.toNat)):=by
 obtain⟨pv,Z,Fs,η,N,A,f⟩:=h;obtain⟨η2,o,h5⟩:=eI<|show Fin K Wx ⟨sf,pv⟩ Z H (tot Fs) D (nxO η<|(gX (rd η i) (rd η k)<|rd η l).map λw=>M.put η i w) from f;cases e:gX (rd η i) (rd η k) (rd η l) with
 |none=>rw[e] at o;cases o
 | some v =>
  rw[e] at o;cases o;obtain⟨m0,g,m,c,n,t,v,hm,r2,r3,j0,j1,j2,lv,lf,rfl⟩:=rj e;obtain⟨z,rz,l2,_⟩:=A.env k _ _ r2;obtain⟨y,ry,l3,_⟩:=A.env l _ _ r3;obtain rfl:z=V.int c:=rz;obtain⟨a,xs0,I,ha⟩:=A.listAt r v;obtain⟨d,hxl,hf,hx,p,L⟩:=A.ourList r hm I v;have e3:=p.length;have lt:∀t∈g,t.leaf=true:=λt ht=>K5.mp lv t ht;refine⟨a,d,c,y,I,l2 P hk,l3 Q hl,hx,j0,by rw[e3];exact j1,by rw[e3];exact j2,?_⟩
  have pl:RepL K (λb=>Z b\/((Fs i b\/no b)/\b≠a/\¬no b)) H m0.kid (g.take c.toNat++t::g.drop c.toNat) (d.take c.toNat++y::d.drop c.toNat) no:=by
   have q0:RepL K Z H .s g d no:=RepL.leaves (λ_ _ _ e=>e) lv p;refine RepL.leaves (Z:=Z) (m:=.s) (G:=no) (λ_ _ _ e=>e) (K5.mpr λu hu=>?_)<|RepL.append (G1:=no) (G2:=no) (λ_ z=>z) (λ_ z=>z) (λ_ z=>z.elim) (RepL.take _ q0) ⟨y,_,no,no,rfl,λ_ z=>z,λ_ z=>z,λ_ z=>z.elim,ry.leaf (λ_ _ _ e=>e) lf,RepL.drop _ q0⟩;rcases Li.mp hu with z|z
   .exact lt u (O8 z)
   .rcases KD.mp z with z | z
    .rw[z];exact lf
    .exact lt u (OE z)
  exact change (K:=K) (m':=m0) (G':=no) hm A v hf (λk hk=>by rw[show sf i=O k from hk] at r;cases r;exact I) (by
   rw[KJ,Kz,Ms,Mg,e3];show _<=16777215;lia) L (λ_ z=>z.elim) (ts':=g.take c.toNat++t::g.drop c.toNat) pl λZ2 x B2 s2=>h5 σ Z2 _ x B2<|s2.mono (λ_ z=>z.elim id λq=>q.elim) λ_ z=>z
end
end MR
namespace MR
open PySem PySem.Spec PyProof.Rows L2 L3
section
variable {X:Cx}{sf sg:Y->j Y}{C:M.Call}{pos p p2 p3:Pos}{ea eb ec:RT}{a b c:M.E}{h:RN}{n:Y}{io:U Y}{K:Kk}
theorem E3 (ji jk jl:Y){i k l:Y}{x y z:Str}{f e I s m:Pos}(hi:sf i=O ji:=by rfl)(hk:sf k=O jk:=by rfl)(hl:sf l=O jl:=by rfl)(hN:X.N[ji]?=O x:=by rfl)(L:X.N[jk]?=O y:=by rfl)(M:X.N[jl]?=O z:=by rfl)
  (hv:Vis X.env.scope x:=by first|exact KL rfl|exact Kx (KL rfl)|exact Kx<|Kx rfl) (hv2:Vis X.env.scope y:=by first|exact KL rfl|exact Kx (KL rfl)|exact Kx<|Kx rfl) (hv3:Vis X.env.scope z:=by first|exact KL rfl|exact Kx (KL rfl)|exact Kx<|Kx rfl)
  (hd:(x==("__debug__":Str))=false:=by decide) (Q:(y==("__debug__":Str))=false:=by decide) (Z:(z==("__debug__":Str))=false:=by decide) (P:(x==("__classdict__":Str))=false:=by decide) (t:(y==("__classdict__":Str))=false:=by decide) (u:(z==("__classdict__":Str))=false:=by decide)
  (o:MC (.Name x I) "insert" X.env (RV (.Name x I) X.env)=RV (.Name x I) X.env:=by rfl)
  (w:((KQ e<|Kl [Expr.Name y s,.Name z m] X.env).all (λx=>!x.1)&&(SD e<|NF [] X.env).all (λx=>x.1.isSome)&&decide ([Expr.Name y s,.Name z m].length+([]:U L7).length+(if([]:U L7).isEmpty then 0 else 1)<30))=true:=by rfl)
  (r:(f.endLine==e.line)=true:=by rfl) (A:Kl [Expr.Name y s,.Name z m] X.env=(Kg,RV (.Name y s) X.env)::Kl [.Name z m] X.env:=by rfl) (G:Kl [Expr.Name z m] X.env=(Kg,RV (.Name z m) X.env)::Kl [] X.env:=by rfl) (g:(KQ e<|Kl [Expr.Name z m] X.env).any (·.1)=false:=by rfl)
  (hsw:Ln (.Call (.Attribute (.Name x I) "insert" f) [.Name y s,.Name z m] [] e) J pos.line X.env=pure false:=by rfl):
  SS X sf io C (.Expr (.Call (.Attribute (.Name x I) "insert" f) [.Name y s,.Name z m] [] e) pos) (.insN i k l):=
 b6 (fu (pB Nq Rg PySem.F.type_list_insert yj (br hN hv hd P) (aT (br L hv2 Q t) (aT (br M hv3 Z u) cp G) A) o w r A g) hsw) λD σ H hw=>by obtain⟨a,xs,d,v,e1,e2,e3,ha,j0,j1,j2,hq⟩:=yC hi hk hl D σ H hw;exact⟨.ref a,e1,.inl ⟨rfl,xs,.inl<|.inl ha⟩,.int d,e2,v,e3,a,xs,d,v,rfl,rfl,ha,j0,j1,j2,hq⟩
end
end MR








namespace L3
open PySem PySem.Spec PyProof.Rows L2
abbrev Ris (a:RW Y):Prop:=a.toList.Pairwise (· < ·)
structure JS (L:RN)(t:Lv):Prop where
 led:t.led=L
 dum:t.dummies=#[]
 ris:Ris t.place
theorem nT {a:RW Y}(h:Ris a){i k:Y}(b:i<k)(hk:k<a.size){d:Y}:a.getD i d<a.getD k d:=by
 have e:∀m,m<a.size->a.getD m d=a.toList.getD m d:=λm g=>by simp[Oh,g,Kv]
 rw[e i<|by lia,e k hk];have c:i<a.toList.length:=by rw[K6];lia
 have f:k<a.toList.length:=by rw[K6];lia
 rw[Kv,Kv,KN c,KN f];exact PF.mp h i k c f b
theorem gP {c:RW Y}(h:Ris c)(a:Y):∀(f lo b:Y),b<=c.size->lo<=b->b-lo<=f->(∀i<lo,c.getD i a<a)->(∀i,b<=i->i<c.size->a<=c.getD i a) ->
 SetTable.below.go c a f lo b<=c.size/\(∀i<SetTable.below.go c a f lo b,c.getD i a<a)/\(∀i,SetTable.below.go c a f lo b<=i->i<c.size->a<=c.getD i a)
|0,lo,b,e,o,p,g,k=>by
 have:lo=b:=by lia
 subst this;exact⟨e,g,k⟩
| f+1,lo,b,e,o,p,g,k=>by
 unfold SetTable.below.go;by_cases n:lo<b
 .rw [RJ n];dsimp only;by_cases l:c.getD ((lo+b) / 2) a<a
  .rw [RJ l];refine gP h a f _ b e (by lia) (by lia) (λi m=>?_) k;rcases LW i ((lo+b) / 2) with z|z
   .exact Ng (nT h z<|by lia) l
   .have:i=(lo+b) / 2:=by lia
    rw[this];exact l
  .rw [RK l];refine gP h a f lo _ (by lia) (by lia) (by lia) g (λi m r=>?_);rcases LW ((lo+b) / 2) i with z|z
   .have:=nT h z r (d:=a);lia
   .have:i=(lo+b) / 2:=by lia
    rw[this];lia
 .rw [RK n];have:lo=b:=by lia
  subst this;exact⟨e,g,k⟩
theorem iL {b:RW Y}(h:Ris b)(a:Y):SetTable.below b a<=b.size/\(∀i<SetTable.below b a,b.getD i a<a)/\(∀i,SetTable.below b a<=i->i<b.size->a<=b.getD i a):=
 gP h a b.size 0 b.size (Kt _) (K4 _) (by lia) (λ_ z=>RM z<|Ly _) (λi c d=>by lia)
theorem uq (a:RW Y)(p x:Y):(SetTable.insertAt a p x).toList=a.toList.take p++x::a.toList.drop p:=by unfold SetTable.insertAt;rw[Array.toList_append,Pf,Qu,Qu,Ll];simp[List.extract_eq_drop_take];exact OH<|by rw[Mg,K6];lia
theorem dU (a:RW Y){m:Y}(d:Y)(c:m<a.toList.length):a.getD m d=a.toList[m]:=by
 have b:m<a.size:=by rw[<- K6];exact c
 simp[Oh,b]
theorem zB {d:RW Y}(h:Ris d){c:Y}(p:d[SetTable.below d c]?≠O c):Ris (SetTable.insertAt d (SetTable.below d c) c):=by
 obtain⟨u,n,l⟩:=iL h c;unfold Ris;rw[uq];have hp:(d.toList.take (SetTable.below d c)++d.toList.drop (SetTable.below d c)).Pairwise (· < ·):=by rw[OG];exact h
 rw[OD] at hp ⊢;obtain⟨r,s,t⟩:=hp;have lo:∀a∈d.toList.take (SetTable.below d c),a<c:=λa e=>by obtain⟨i,f,rfl⟩:=OJ e;rw[Ms] at f;rw[Q6,<- dU d c (by lia)];exact n i<|by lia
 have f:∀a∈d.toList.drop (SetTable.below d c),c<a:=λa e=>by
  obtain⟨i,f,rfl⟩:=OJ e;rw[Mg] at f;rw[List.getElem_drop];have k:SetTable.below d c+i<d.toList.length:=by lia
  have m:=l (SetTable.below d c+i) (by lia) (by rw[<- K6];exact k);rw[dU d c k] at m;rcases Nat.lt_or_eq_of_le m with z|z
  .exact z
  .exfalso;rcases QW i with rfl|hi0
   .refine p ?_;rw[<- Nl,KN<|by lia];rw[Option.some_inj];simpa using z.symm
   .have o:=l (SetTable.below d c) (Kt _) (by rw [<- K6]; lia);rw[dU d c<|by lia] at o;have:=PF.mp h (SetTable.below d c) (SetTable.below d c+i) (by lia) k (by lia);lia
 refine⟨r,Mt.mpr ⟨f,s⟩,λa e b g=>?_⟩;rcases KD.mp g with rfl|g
 .exact lo a e
 .exact t a e b g
theorem lR {t:Lv}(b:t.dummies=#[])(a:Y):SetTable.has t.dummies a=false:=by rw[b];unfold SetTable.has;simp
theorem f9 {t:Lv}(d:t.dummies=#[])(f:Y->Int)(h:Int):∀(k:Y) (p:SetTable.Probe) (a:Y) (c:j Y),p.dummy=J->SetTable.probe.go t f h k p=O (.empty a c)->c=J/\t.place[SetTable.below t.place a]?≠O a
|0,p,a,c,_,e=>by cases e
| k+1,p,a,c,hp,e=>by
 unfold SetTable.probe.go at e;cases b:t.slot p.j with
 |empty=>rw[b] at e;cases e;refine⟨hp,λz=>?_⟩;unfold SetTable.slot at b;dsimp only at b;rw[z] at b;simp at b
 | dummy =>
  unfold SetTable.slot at b;dsimp only at b;split at b
  .cases b
  .rw [lR d] at b;simp at b
 | live i =>
  rw[b] at e;dsimp only at e;split at e
  .cases e
  .refine f9 d f h k _ a c ?_ e;unfold SetTable.advance;split
   .exact hp
   .exact hp
section
variable {L:RN}{t:Lv}
theorem q9 (n:Y):Ris (Array.range n):=by unfold Ris;rw[Array.toList_range];exact Nm
theorem JS.standIn (a:JS L t)(n:Y):JS L (t.standIn n):=⟨a.led,rfl,q9 n⟩
theorem JS.orStandIn (a:JS L t)(n:Y):JS L (t.orStandIn n):=by
 unfold SetTable.orStandIn;split
 .exact a
 .exact a.standIn n
theorem JS.layNew (a:JS L t)(f:RW<|Int×B)(h:Int)(x:B):JS L (Oe t f h x).2.1:=by
 unfold Oe;cases b:t.freeSlot h with
 |none=>exact a.standIn _
 | some q =>
  obtain⟨d,i⟩:=q;unfold SetTable.freeSlot at b;split at b
  .rename_i c e hp;obtain⟨rfl,g⟩:=f9 a.dum _ h _ _ c e rfl hp;cases b;dsimp only[Pu]
   have k:JS L (t.put c).1:=⟨a.led,(by
    show(if SetTable.has t.dummies c=Kh then _ else t.dummies)=#[];rw[lR a.dum,RK KH];exact a.dum),zB a.ris g⟩
   exact k.orStandIn _
  .cases b
theorem n8 (f:Y->j (Y×Y))(d:∀a y,f a=O y->y.1=a)(n:Y):(((Kq n).filterMap f).map (·.1)).Pairwise (· < ·):=by rw[Ol,List.pairwise_filterMap];refine Nm.imp λ{a b} c y e z g=>?_;rw[d a y e,d b z g];exact c
theorem JS.relayAll (b:JS L t)(d:RW<|Int×B)(n:Y):JS L (O0 t d n).2.1:=by
 unfold O0;cases c:t.relaid (d.map (·.1)) n with
 |none=>exact b.standIn _
 | some q =>
  obtain⟨i,f⟩:=q;dsimp only;split
  .unfold SetTable.relaid SetTable.laid at c;cases h:SetTable.layClean (SetTable.sizeAbove n-1) (d.map (·.1)) with
   |none=>rw[h] at c;cases c
   |some g=>rw[h] at c;cases c;refine⟨b.led,rfl,?_⟩;show(List.toArray _).toList.Pairwise (· < ·);rw[List.toList_toArray];refine n8 _ (λa y e=>?_) _;obtain⟨z,_,rfl⟩:=QJ.mp e;rfl
  .exact b.standIn _
end
def kC:B->Int
|.int n _=>n
|_=>0
abbrev vals (a:RW<|Int×B):U Int:=a.toList.map λe=>kC e.2
def SetI (prog:RS)(w:Ks)(h:RU)(a:RL)(L:RN)(c:U Int):Prop:=
 ∃o b ep t,h.get? a=O o/\o.ExactSet/\o.data=.set b ep t/\SM (Mf prog w) b.toList/\b.size<Se/\t.fits b.size=Kh/\JS L t/\(vals b).Perm c
section
variable {prog:RS}{w:Ks}{A:KO}{E:B->Ki->Prop}{s:Ki}{a:RL}{L:RN}{ks:U Int}{n:Int}{u:Tok}
theorem wc {v:B}{k:Int}(h:(Mf prog w).is k v=Kh):∃t,v=.int k t:=Value.isInt_shape h
theorem tQ {b:U<|Int×B}(h:SM (Mf prog w) b){e:Int×B}(c:e∈b):∃k t,e.2=.int k t:=by obtain⟨⟨k,hk,_⟩,_⟩:=h e c;obtain⟨t,e⟩:=wc hk;exact⟨k,t,e⟩
theorem lT {c:RW<|Int×B}(h:SM (Mf prog w) c.toList)(k:Int):(∃e∈c.toList,(Mf prog w).is k e.2=Kh) ↔ k∈vals c:=by
 constructor
 .rintro ⟨e,b,hk⟩;obtain⟨t,q⟩:=wc hk;exact KG.mpr ⟨e,b,by rw[q];rfl⟩
 .intro hk;obtain⟨e,b,q⟩:=KG.mp hk;obtain⟨f,t,d⟩:=tQ h b;rw[d] at q;have q:f=k:=q;subst q;exact⟨e,b,by rw[d];exact intKind_is prog w _ t⟩
theorem pT {g:RN->Sem Unit}(P:∀(b:RN) (i:Ki) (x:Unit->Ki->Prop),x () i->RO (Km prog w) A (g b) x E i){o:Obj}{l:RW<|Int×B}{ep:Nat}{t:Lv}(ho:s.heap.get? a=O o)(hex:o.ExactSet)(D:o.data=.set l ep t)
  {c:RW<|Int×B} {e:Lv} (F:SM (Mf prog w) c.toList) (m:c.size<Se) (N:e.fits c.size=Kh) (H:JS L e) (hp:(vals c).Perm ks) {more:RN} {R:j RN->Ki->Prop}
  (h:∀r,Heap.SameBut a s.heap r->SetI prog w r a L ks->R (O Kh) {s with heap:=r}):
  RO (Km prog w) A (do
   storeSet a c e
   if more=Kh then do
    g (relayAll e c<|SetTable.grown c.size).2.2
    storeSet a (relayAll e c<|SetTable.grown c.size).1 (relayAll e c<|SetTable.grown c.size).2.1
    pure (O Kh)
   else pure (O Kh)) R E s:=by
 have f:∀(h:RU) (o:Obj) (l:RW (Int×B)) (ep:Nat) (t:Lv) (d:RW (Int×B)) (k:Lv),h.get? a=O o->o.data=.set l ep t->(h.update a (Obj.putSet d k)).get? a=O {o with data:=.set d (ep+1) k}:=λh o l ep t d k Q I=>by rw[Heap.get?_update_self (Obj.putSet d k) Q<|by rw[putSet_of d k I];rfl,putSet_of d k I]
 refine Kj<|wpAny_storeSet_of ho D ?_<|N7 m;have v:=f _ _ _ _ _ c e ho D;have M:=Heap.SameBut.update s.heap a<|Obj.putSet c e;cases more with
 |false=>rw[RK KH];exact Ko<|h _ M ⟨_,c,_,e,v,hex,rfl,F,m,N,H,hp⟩
 |true=>
  rw[RJ rfl];have p:=relayAll_perm e c<|SetTable.grown c.size;have y:=relayAll_fits e c<|SetTable.grown c.size;have G:=H.relayAll c<|SetTable.grown c.size;generalize O0 e c (SetTable.grown c.size)=Y at p y G ⊢;have z:Y.1.size=c.size:=by rw[<- K6,p.length_eq,K6]
  refine Kj<|P _ _ _<|Kj<|wpAny_storeSet_of v rfl ?_ (by rw[z];exact N7 m);exact Ko<|h _ (M.trans<|Heap.SameBut.update _ a _) ⟨_,Y.1,_,Y.2.1,f _ _ _ _ _ Y.1 Y.2.1 v rfl,hex,rfl,F.perm p,by rw[z];exact m,y,G,(p.map _).trans hp⟩
def dM (ks:U Int)(n:Int):U Int:=if n∈ks then ks else ks++[n]
theorem AH {Q:RN->Ki->Prop}(hS:SetI prog w s.heap a L ks)(hk:ks.length+1<Se)(h:∀b g,Heap.SameBut a s.heap g->SetI prog w g a L (dM ks n)->Q b {s with heap:=g}):
  RO (Km prog w) A (setAddHashed a (.int n u)<|MK n) Q E s:=by
 obtain⟨o,d,ep,t,ho,hex,D,l,hb,P,js,hp⟩:=hS;have hl:d.size=ks.length:=by rw[<- hp.length_eq,Kr,K6]
 unfold setAddHashed setAddHashedIn;refine Ls<|Kj<|M7 ho D P ?_;dsimp only;rw[byScan_of (knd:=Mf prog w) rfl hb l,RJ rfl];unfold setAddByScan;refine Kj<|Kj<|Mp<|Kj<|wpAny_setScan_of (knd:=Mf prog w) (intKind_is prog w n u) ho D P l ?_;cases hr:List.findIdx? (λe=>(Mf prog w).is n e.2) d.toList with
 |some c=>obtain⟨hj,hpj,_⟩:=List.findIdx?_eq_some_iff_getElem.mp hr;have Z:n∈ks:=hp.mem_iff.mp<|(lT l n).mp ⟨d.toList[c],NX hj,hpj⟩;have q:=h Kg s.heap (Heap.SameBut.refl a s.heap) ⟨o,d,ep,t,ho,hex,D,l,hb,P,js,by unfold dM;rw[RJ Z];exact hp⟩;exact Ko<|Ko q
 | none =>
  have Z:n ∉ ks:=λz=>by obtain⟨e,q1,q2⟩:=(lT l n).mpr<|hp.mem_iff.mpr z;have:=List.findIdx?_eq_none_iff.mp hr e q1;rw[q2] at this;cases this
  dsimp only;have m:=layNew_perm t d (MK n)<|.int n u;have H:=layNew_fits t d (MK n)<|.int n u;have I:=js.layNew d (MK n)<|.int n u
  have N:∀(b:RN) (f:Ki) (M:Unit->Ki->Prop),M () f->RO (Km prog w) A (match b with|true=>rule "set.scan.the-table-gave-way" |false=>pure ()) M E f:=λb f M hq=>by
   cases b
   .exact Ko hq
   .exact Mp hq
  show RO _ _ (match Oe t d (MK n) (.int n u) with|(d,t,p,v)=>_) _ _ _;generalize Oe t d (MK n) (.int n u)=Y at m H I ⊢;obtain⟨i,t1,wd,v⟩:=Y;dsimp only at m H I ⊢;rw[Pf] at m;have F:SM (Mf prog w) i.toList:=(l.push (k:=n) (x:=.int n u) (intKind_is prog w n u) rfl).perm m;have G:(vals i).Perm (dM ks n):=by unfold dM;rw[RK Z];refine(m.map λe=>kC e.2).trans ?_;rw[LY];exact hp.append_right _
  have y:i.size<Se:=by rw[<- K6,m.length_eq,KJ,K6];show d.size+1<_;lia
  refine Kj<|N _ _ _ ?_;have r:∀g,Heap.SameBut a s.heap g->SetI prog w g a L (dM ks n)->RO (Km prog w) A (pure Kh) Q E {s with heap:=g}:=λg sb q=>Ko<|h Kh g sb q;cases hpl:t1.plain with
  |true=>rw[RJ rfl];refine Kj ?_;rw[hashByValue_scannable 8 (x:=.int n u) rfl];refine Ko ?_;rw[show plainKind (.int n u)=Kh from rfl,RJ rfl];exact pT N ho hex D F y H I G r
  |false=>rw[RK KH];refine Kj<|Ko ?_;rw[RJ rfl];exact pT N ho hex D F y H I G r
end
end L3

namespace L3
open PySem PySem.Spec PyProof.Rows L2
section
variable {prog:RS}{w:Ks}{A:KO}{E:B->Ki->Prop}{s:Ki}
theorem xa (a:B){b:B->Ki->Prop}(h:b (.ref s.heap.objs.size) {s with heap:=s.heap.push {cls:=.type "set",dict:=J,data:=.set #[] 0 (.fresh 0 0<|!w.params.followText "set-order")}}):
  Lp (Km prog w) A (.call (.builtin "set.__new__") ⟨[.type "set",a],[]⟩) (wants b E) s:=by
 apply codeAny_of_tree
 have l:RO (Km prog w) A.in1 (Lu.«set.__new__» ⟨[.type "set",a],[]⟩) (λi c=>match i with | .done f=>wants b E (.ok f) c | .again k=>k.quiet=Kh/\Lp (Km prog w) A k (wants b E) c) (λe c=>wants b E (.error e) c) s:=by
  unfold Lu.«set.__new__» Builtin.Frozenset.newClass;have z:=sub_set_self;obtain⟨hp,g,d,m,os⟩:=s;dsimp only
  wp_walk
  exact M6<|Ko<|Kj<|wpAny_alloc<|Ko<|Ko h
 have ask:RO (Km prog w) A.in1 (do checkBuiltinCall "set.__new__" ⟨[.type "set",a],[]⟩;again (.builtin "set.__new__" ⟨[.type "set",a],[]⟩)) (λi c=>match i with | .done f=>wants b E (.ok f) c | .again k=>k.quiet=Kh/\Lp (Km prog w) A k (wants b E) c) (λe c=>wants b E (.error e) c) s:=
  Kj (MA (F.newCall_set_1 a)<|Ko ⟨MB F.plain_set_new _,MM F.entry_set_new<|by rw[Around.under_plainId F.plain_set_new _];exact l⟩)
 exact ask
end
theorem mD:∀{b:U B} {a:U Int} {i:Y} {v:B},Sa b a->b[i]?=O v->∃y t,a[i]?=O y/\v=Value.int y t
|_,_,_,_,.nil,h=>by simp at h
|_,_,0,_,.cons y t r,h=>by rw[NP] at h;cases h;exact⟨y,t,rfl,rfl⟩
|_,_,i+1,_,.cons y t r,h=>by rw[LI] at h;obtain⟨z,c,e1,e2⟩:=mD r h;exact⟨z,c,by rw[LI];exact e1,e2⟩
theorem SetI.at {prog:RS}{w:Ks}{h b:RU}{a:RL}{L:RN}{c:U Int}(x:SetI prog w h a L c)(e:∀o,h.get? a=O o->b.get? a=O o):SetI prog w b a L c:=by obtain⟨o,d,ep,t,f,g⟩:=x;exact⟨o,d,ep,t,e o f,g⟩
theorem mH (a:U Int)(n:Int):(dM a n).length<=a.length+1:=by
 unfold dM;split
 .omega
 .rw[KJ,Lf];lia
theorem jK {prog:RS}{w:Ks}{A:KO}(hh:A.handled=J){R:Ml->Ki->Prop}{I S t:RL}{L:RN}(n:S≠I)(Q:S≠t)(Z:t≠I){a:RW B}{c:U Int}(p:Sa a.toList c)(h:c.length<1000):∀(k i:Y) (s:Ki) (ks:U Int),i+k=c.length->ks.length<=i->s.heap.IsListIter I t i->s.heap.IsList t a->SetI prog w s.heap S L ks ->
 (∀g N,(∀b o,b≠S->b≠I->s.heap.get? b=O o->g.get? b=O o)->SetI prog w g S L ((c.drop i).foldl dM ks)->R (Except.ok<|Flow.ret Value.none) {s with heap:=g,toks:=N}) ->
 Lp (Km prog w) A (Code.builtin "set.update.loop" {pos:=[Value.ref S,Value.ref I]}) R s
|0,i,s,ks,hk,hl,z,r,G,q=>by have m:a.toList.length=c.length:=p.length;have hn:a[i]?=none:=Pb (by rw[<- K6];lia);refine MM Rv ?_;unfold Lu.«set.update.loop»;refine Kj<|Sj hh z r hn λg P=>?_;refine Ko ?_;have e:c.drop i=[]:=List.drop_eq_nil_of_le (by lia);rw[e] at q;exact q g s.toks (λb o _ d h=>P b o d h)<|G.at λo g1=>P S o n g1
| k+1,i,s,ks,hk,hl,z,r,G,q=>by
 have m:a.toList.length=c.length:=p.length;have hi:i<c.length:=by lia
 obtain⟨v,hv⟩:∃v,a.toList[i]?=O v:=⟨_,KN<|by lia⟩;obtain⟨y,t',hy,rfl⟩:=mD p hv;refine MM Rv ?_;unfold Lu.«set.update.loop»;refine Kj<|Sf z r (x:=Value.int y t') (by simpa using hv) λg D F=>?_;refine Kj<|Ls ?_;unfold setAdd;refine Ls<|Kj<|wpAny_pyHash_int ?_;refine AH (L:=L) (ks:=ks) (G.at λo e=>(F.2 S n).trans e) (by have hsb:2000<Se:=(by decide);lia) λb g2 f H=>?_;refine Ko ⟨(by first|rfl|kernel_rfl|(unfold Code.quiet;kernel_rfl)|simp[Code.quiet]),?_⟩;have ed:c.drop i=y::c.drop (i+1):=by rw[Oy hi];have:=KN hi;rw[this] at hy;cases hy;rfl
 rw[ed] at q;refine jK hh n Q Z p h k (i+1) _ (dM ks y) (by lia) ?_ (D.at λo e=>(f.2 I<|Lg n).trans e) ?_ H λu N keep M=>q u N (λb o l d h=>keep b o l d<|(f.2 b l).trans<|(F.2 b d).trans h) M
 .have:=mH ks y;lia
 .obtain ⟨o,e1,e2⟩:=r;exact⟨o,(f.2 t<|Lg Q).trans<|(F.2 t Z).trans e1,e2⟩
theorem rG {prog:RS}{w:Ks}{A:KO}{E:B->Ki->Prop}{s:Ki}{t:RL}{d:RW B}{Q:B->Ki->Prop}(G:A.handled=J)(u:s.heap.IsList t d){l:U Int}(M:Sa d.toList l)(k:l.length<1000)
  (q:∀g p,(∀b o,s.heap.get? b=O o->g.get? b=O o)->SetI prog w g s.heap.objs.size (!w.params.followText "set-order") (l.foldl dM [])->Q (.ref s.heap.objs.size) {s with heap:=g,toks:=p}):RO (Km prog w) A (call (Value.type "set") [Value.ref t]) Q E s:=by
 obtain⟨c0,Z,H⟩:=F.called_set.mro;generalize x:(!w.params.followText "set-order")=L at q;refine Sw<|codeAny_of_tree ?_;refine Ko ?_;refine⟨(by first|rfl|kernel_rfl),MM F.entry_type_call ?_⟩;rw[Around.under_plain (weight_type_call_type _ _ _) rfl];unfold Lu.«type.__call__»;refine NK (by rfl) ?_;refine NK (by show decide _=Kg;rw[F.called_set.canCreate];rfl) ?_;rw[F.typeCall_set_1];refine Kj<|Ko ?_;rw[H];refine Kj<|Ko ?_;refine NK (by rfl) ?_;rw[F.called_set.made];refine Kj<|Ko ?_;refine Kj<|Ko ?_;refine Kj<|Ls<|Sw<|xa _ ?_;rw[x];have m:Shared.TypeIs {heap:=s.heap.push {cls:=Value.type "set",data:=Data.set #[] 0 (SetTable.fresh 0 0 L)},gens:=s.gens,drawn:=s.drawn,toks:=s.toks,os:=s.os} (Value.ref s.heap.objs.size) "set":=⟨_,Heap.get?_push_size _ rfl,rfl⟩;refine Kj<|N6 (T:="set") (b:=Kh) m F.called_set.sub ?_;refine NK (by rfl) ?_;refine Kj<|Ls<|Mn m F.called_set.init<|Sw<|codeAny_call_builtin F.called_set.init.plain F.entry_set_init<|check_set_init_1 m ?_;have f:Heap.IsList (s.heap.push {cls:=Value.type "set",data:=Data.set #[] 0 (SetTable.fresh 0 0 L)}) t d:=by obtain⟨o,e,r⟩:=u;exact⟨o,Heap.get?_push_of_some _ e,r⟩
 have I:t≠s.heap.objs.size:=by obtain⟨o,e,_⟩:=u;exact KR<|Heap.lt_size e
 unfold Lu.«set.__init__»;have i:(s.heap.push {cls:=Value.type "set",data:=Data.set #[] 0 (SetTable.fresh 0 0 L)}).get? s.heap.objs.size=O {cls:=Value.type "set",data:=Data.set #[] 0 (SetTable.fresh 0 0 L)}:=Heap.get?_push_size _ rfl;have N:=F.sub_list_set;have P:=F.sub_list_frozenset;have z:Shared.TypeIs {heap:=s.heap.push {cls:=Value.type "set",data:=Data.set #[] 0 (SetTable.fresh 0 0 L)},gens:=s.gens,drawn:=s.drawn,toks:=s.toks,os:=s.os} (Value.ref t) "list":=by obtain⟨o,e,c,_⟩:=f;exact⟨o,e,c⟩
 refine Kj<|MA (a:=()) rfl ?_
 wp_walk using Ma f
 have e1:(s.heap.push {cls:=Value.type "set",data:=Data.set #[] 0 (SetTable.fresh 0 0 L)}).objs.size=s.heap.objs.size+1:=Heap.size_push ..;have n:t<s.heap.objs.size:=by obtain⟨o,e,_⟩:=u;exact Heap.lt_size e
 have y:SetI prog w ((s.heap.push {cls:=Value.type "set",data:=Data.set #[] 0 (SetTable.fresh 0 0 L)}).push {cls:=Value.type "list_iterator",data:=Data.fields #[Value.ref t,Value.int 0 0]}) s.heap.objs.size L []:=
  ⟨_,#[],0,SetTable.fresh 0 0 L,Heap.get?_push_of_some _ i,⟨rfl,rfl,rfl⟩,rfl,(λe D=>by cases D),by decide,by cases L<;>rfl,⟨rfl,rfl,Q7⟩,Ou _⟩
 refine jK (A:=A.in1.in1) (L:=L) G (by rw[e1];exact KR<|MG _) (Lg I) (by rw[e1];exact KR<|MW n) M k l.length 0 _ [] (MU _) (K4 _) ⟨_,Heap.get?_push_size _ rfl,rfl,rfl⟩ (by obtain⟨o,e,r⟩:=f;exact⟨o,Heap.get?_push_of_some _ e,r⟩) y λg p keep v=>?_;refine Ko<|Ko ?_;refine NK (by rfl)<|Ko ?_;refine q g p (λb o k=>?_) (by rw[M0] at v;exact v);have h:b<s.heap.objs.size:=Heap.lt_size k;exact keep b o (KR h) (by rw[e1];exact KR<|MW h)<|Heap.get?_push_of_some _<|Heap.get?_push_of_some _ k
end L3

namespace L3
open PySem PySem.Spec PyProof.Rows L2
theorem slot_setiter_next:Slot "set_iterator" "__next__" "set_iterator.__next__":=
 .of (owner:="set_iterator") (n:="__next__") (by rw[typeLookup_type,Sk];kernel_rfl) (by decide +kernel) (by decide +kernel) (by decide +kernel)
  (by first|exact .inl (by decide +kernel)|exact .inr<|by decide +kernel) (by rw[Sm];kernel_rfl)
theorem cH:entryFor table "set_iterator.__next__"=O Lu.«set_iterator.__next__»:=PySem.entryFor_of_tree<|by kernel_rfl
theorem i6:entryFor table "set.__iter__"=O Lu.«frozenset.__iter__»:=Qt (id':="frozenset.__iter__") (by kernel_rfl) rfl (by decide +kernel) (by kernel_rfl)
theorem cP (a:B):argsOk "set_iterator.__next__" ⟨[a],[]⟩:=by unfold argsOk;kernel_rfl
structure SetAt (h:RU)(a:RL)(es:RW (Int×B))(ep:Y)(t:Lv):Prop where
 at_:∃o,h.get? a=O o/\o.ExactSet/\o.data=.set es ep t
 fit:t.fits es.size=Kh
def SIt (h:RU)(I a:RL)(first:B)(i n ep:Y):Prop:=∃o,h.get? I=O o/\o.cls=.type "set_iterator"/\o.data=.fields #[first,KP i,.ref a,KP n,KP ep]
section
variable {prog:RS}{w:Ks}{A:KO}{E:B->Ki->Prop}{s:Ki}{I a:RL}{es:RW (Int×B)}{ep:Y}{t:Lv}{i n:Y}{slot:Y}
theorem lX {Q:j B->Ki->Prop}(g:A.handled=J)(k:∀f,(∀b o,s.heap.get? b=O o->f.get? b=O o)->Q J {s with heap:=f}):
  RO (Km prog w) A.in1 (SV (.type "StopIteration") [] >>= λe=>(raiseNew e:Sem Fin)) (λc d=>∃r,c=.done (.ret r)/\RO (Km prog w) A (pure (O r)) Q E d) (λe d=>RO (Km prog w) A (do if <- isInstance e (.type "StopIteration") then pure J else throw e) Q E d) s:=by
 refine Kj ?_;simp only[newTuple,SV];refine Kj (LK ?_<|by size_fits);refine Kj (m:=N3 _ _) (MA (a:=Value.none) (by first|rfl|(simp only[N3];rfl))<|LK ?_<|by size_fits);simp only[raiseNew];refine Kj<|wpAny_handled ?_;rw[show A.in1.handled=J from g];refine Kj<|Ko<|wpAny_throw ?_;refine Kj<|N6 (T:="StopIteration") (b:=Kh) ⟨_,Heap.get?_push_size _ rfl,rfl⟩ isSubtype_stop ?_;exact Ko<|k _ λb o e=>Heap.get?_push_of_some _<|Heap.get?_push_of_some _ e
theorem eF {Q:j B->Ki->Prop}(G:SIt s.heap I a (KP slot) i es.size ep)(H:SetAt s.heap a es ep t)(N:A.handled=J)(r:j<|B×Y)(P:∀(y:KO) (z:B->Ki->Prop) (l:j (B×Y)->Ki->Prop),l r s->RO (Km prog w) y (SH a slot i ep) l z s)
  (D:∀x f c,r=O (x,f)->SIt c I a (KP f) (i+1) es.size ep->Heap.SameBut I s.heap c->Q (O x) {s with heap:=c})
  (F:∀c,r=J->Heap.ExtBut I s.heap c->Q J {s with heap:=c}):
  RO (Km prog w) A (LM<|.ref I) Q E s:=by
 obtain⟨o,ho,v,d⟩:=id G;obtain⟨⟨os,h,hex,g⟩,M⟩:=H;have u:s.TypeIs (.ref I) "set_iterator":=⟨o,ho,v⟩;unfold LM
 refine Kj (N0 (Mn (name:=Str.ofString "__next__") u slot_setiter_next
  (LV slot_setiter_next u cH ?_<|cP _)))
 unfold Lu.«set_iterator.__next__»;refine Kj<|MA (a:=(Value.ref I,[])) rfl ?_;dsimp only;refine Kj<|wpAny_fieldsOf ho d ?_;show RO _ _ (setEntries a >>= _) _ _ s;refine Kj<|OK h g M ?_;rw[RK<|by simp];show RO _ _ (SH a (slot:Int).toNat (i:Int).toNat (ep:Int).toNat >>= _) _ _ s;rw[Lz,Lz,Lz];refine Kj<|P _ _ _ ?_;cases r with
 |some p=>obtain⟨x,f⟩:=p;dsimp only;refine Kj<|MD ho d (by simp) ?_;have m:=Heap.get?_update_self (Obj.mapFields (·.setIfInBounds 0 (KP f))) ho<|Obj.isFreed_of_fields<|Obj.data_mapFields d _;refine Kj<|MD m (Obj.data_mapFields d _) (by simp) ?_;refine Ko ⟨x,rfl,Ko<|D x f _ rfl ?_ ((Heap.SameBut.update _ I _).trans<|Heap.SameBut.update _ I _)⟩;refine⟨_,Heap.get?_update_self _ m<|Obj.isFreed_of_fields<|Obj.data_mapFields (Obj.data_mapFields d _) _,by rw[Obj.cls_mapFields,Obj.cls_mapFields];exact v,?_⟩;rw[Obj.data_mapFields<|Obj.data_mapFields d _];simp[KP]
 |none=>dsimp only;refine Kj<|MD ho d (by simp) ?_;show RO _ _ (SV (.type "StopIteration") [] >>= _) _ _ _;exact lX N λc k=>F c rfl λb o L e=>k b o<|(Heap.get?_update_other _ _<|Lg L).trans e
theorem gW {Q:j B->Ki->Prop}{T:RL}{f:U Y}(L:SIt s.heap I a (.ref T) i es.size ep)(M:SetAt s.heap a es ep t)(m:s.heap.IsTuple T (f.map λ(k:Y)=>KP k).toArray)(N:A.handled=J)
  (hp:∀k∈f,k<es.size)
  (G:∀x k c,f[i]?=O k->es[k]?=O x->SIt c I a (.ref T) (i+1) es.size ep->Heap.SameBut I s.heap c->Q (O x.2) {s with heap:=c})
  (H:∀c,f[i]?=J->Heap.ExtBut I s.heap c->Q J {s with heap:=c}):
  RO (Km prog w) A (LM<|.ref I) Q E s:=by
 obtain⟨o,ho,y,d⟩:=id L;obtain⟨⟨os,l,hex,g⟩,z⟩:=M;obtain⟨ot,p,P,Z,D⟩:=m;have u:s.TypeIs (.ref I) "set_iterator":=⟨o,ho,y⟩;unfold LM
 refine Kj (N0 (Mn (name:=Str.ofString "__next__") u slot_setiter_next
  (LV slot_setiter_next u cH ?_<|cP _)))
 unfold Lu.«set_iterator.__next__»;refine Kj<|MA (a:=(Value.ref I,[])) rfl ?_;dsimp only;refine Kj<|wpAny_fieldsOf ho d ?_;show RO _ _ (setEntries a >>= _) _ _ s;refine Kj<|OK l g z ?_;rw[RK<|by simp];show RO _ _ (seqItems? (.ref T) >>= _) _ _ s;refine Kj<|L9 p D ?_;dsimp only;show RO _ _ (match (f.map λ(k:Y)=>KP k).toArray[((i:Y):Int).toNat]? with|some (.int r _)=>_|some _=>_|none=>_) _ _ s;rw[Lz,List.getElem?_toArray,KY];cases hk:f[i]? with
 |some k=>have h:k<es.size:=hp k<|L0 hk;show RO _ _ (setNextDrawn a (k:Int).toNat ((ep:Y):Int).toNat >>= _) _ _ s;rw[Lz,Lz];unfold setNextDrawn;refine Kj<|Kj<|M7 l g z ?_;dsimp only;rw[RK<|by simp,NQ h];refine Kj<|Ko<|Ko ?_;refine Kj<|MD ho d (by simp) ?_;refine Ko ⟨_,rfl,Ko<|G es[k] k _ hk (NQ h) ?_ (Heap.SameBut.update _ I _)⟩;refine⟨_,Heap.get?_update_self _ ho<|Obj.isFreed_of_fields<|Obj.data_mapFields d _,by rw[Obj.cls_mapFields];exact y,?_⟩;rw[Obj.data_mapFields d];simp[KP]
 |none=>dsimp only[Option.map_none];refine Kj<|MD ho d (by simp) ?_;have F:=Heap.get?_update_self (Obj.mapFields (·.setIfInBounds 0 (KP 0))) ho<|Obj.isFreed_of_fields<|Obj.data_mapFields d _;refine Kj<|MD F (Obj.data_mapFields d _) (by simp) ?_;show RO _ _ (SV (.type "StopIteration") [] >>= _) _ _ _;exact lX N λc k=>H c hk λb o v e=>k b o<|(Heap.get?_update_other _ _<|Lg v).trans<|(Heap.get?_update_other _ _<|Lg v).trans e
end
end L3

namespace L3
open PySem PySem.Spec PyProof.Rows L2
theorem cQ:Slot "set_iterator" "__iter__" "set_iterator.__iter__":=
 .of (owner:="set_iterator") (n:="__iter__") (by rw[typeLookup_type,Sk];kernel_rfl) (by decide +kernel) (by decide +kernel) (by decide +kernel)
  (by first|exact .inl (by decide +kernel)|exact .inr<|by decide +kernel) (by rw[Sm];kernel_rfl)
theorem eW:entryFor table "set_iterator.__iter__"=O Lu.«dict_keyiterator.__iter__»:=Qt (id':="dict_keyiterator.__iter__") (by kernel_rfl) rfl (by decide +kernel) (by kernel_rfl)
theorem fA (a:B):argsOk "set_iterator.__iter__" ⟨[a],[]⟩:=by unfold argsOk;kernel_rfl
section
variable {prog:RS}{w:Ks}{A:KO}{E:B->Ki->Prop}{s:Ki}{I a:RL}{es:RW (Int×B)}{ep:Y}{t:Lv}{i n:Y}{slot:Y}
theorem iw {b:Type}{l:U b}{i:Y}(h:i<l.length):(l[i]::l.eraseIdx i).Perm l:=by rw[List.eraseIdx_eq_take_drop_succ];refine List.perm_middle.symm.trans ?_;rw[<- Oy h,OG]
theorem se {b:Source}{n:Y}{Q:Y->Ki->Prop}(c:0<n)(h:∀k d,k<n->Q k {s with drawn:=d}):RO (Km prog w) A (choose b n) Q E s:=fun e p _=>⟨by lia,h _ _<|Nat.mod_lt _ c⟩
theorem pE {f:Type}:∀(n:Y) (c:U f) {s:Ki} {Q:U f->Ki->Prop},c.length=n->(∀e d,e.Perm c->Q e {s with drawn:=d})->RO (Km prog w) A (drawOrder n c) Q E s
|0,c,s,Q,b,h=>by rw[OI.mp b] at h ⊢;unfold drawOrder;exact Ko<|h [] s.drawn<|Ou _
|n+1,[],s,Q,b,h=>by cases b
|n+1,x::c,s,Q,b,h=>by unfold drawOrder;refine Kj<|se (by rw[b];lia) λk d hk=>?_;rw[KN hk];dsimp only;refine Kj<|pE n ((x::c).eraseIdx k) (by rw[Pz hk,b];rfl) λe g hp=>Ko ?_;exact h _ _<|(hp.cons _).trans<|iw hk
theorem pX {b:Type}(next:Y->Y):∀(f k:Y) (left:U b) (out:RW b),left.length=f->(pickOrder.go next f k left out).toList.Perm (out.toList++left)
|0,k,left,out,h=>by rw[OI.mp h,La];exact Ou _
|f+1,k,left,out,h=>by
 have hk:next k % left.length<left.length:=Nat.mod_lt _<|by lia
 unfold pickOrder.go;rw[KN hk];refine(pX next f (k+1) _ _ (by rw[Pz hk,h];rfl)).trans ?_;rw[Pf,Ll];exact List.Perm.append_left _<|iw hk
theorem eg {c:Type}(next:Y->Y)(b:RW c):(Mo next b).toList.Perm b.toList:=by
 have:=pX next b.size 0 b.toList #[] (K6)
 exact this
theorem jY (g:SetAt s.heap a es ep t)(d:w.params.followText "set-order"=Kh){Q:j (B×Y)->Ki->Prop}(h:Q (((Mo (w.params.setOrder a ep) es)[i]?).map λe=>(e.2,slot)) s):RO (Km prog w) A (SH a slot i ep) Q E s:=by obtain⟨⟨os,c,hex,b⟩,f⟩:=g;unfold SH Sx;refine Kj<|M7 c b f ?_;dsimp only;refine Kj<|Kj<|M6<|Ko ?_;rw[show(Km prog w).w.params.followText "set-order"=Kh from d,RJ rfl,RK<|by simp];unfold setWalk Sx;refine Kj<|Kj<|M7 c b f ?_;dsimp only;refine Kj<|Kj<|M6<|Ko ?_;rw[show(Km prog w).w.params.followText "set-order"=Kh from d,RJ rfl];refine Kj<|M6<|Ko<|Ko ?_;exact h
theorem iK (f:SetAt s.heap a es ep t)(e:w.params.followText "set-order"=Kg)(k:t.led=Kh)(hp:(!t.plain&&decide (es.size>1))=Kg){Q:j (B×Y)->Ki->Prop}
  (h:Q (match es[SetTable.below t.place slot]?,t.place[SetTable.below t.place slot]? with|some (_,x),O b=>O (x,b+1)|_,_=>J) s):RO (Km prog w) A (SH a slot i ep) Q E s:=by
 obtain⟨⟨os,d,hex,c⟩,g⟩:=f;unfold SH Sx;refine Kj<|M7 d c g ?_;dsimp only;refine Kj<|Kj<|M6<|Ko ?_;rw[show(Km prog w).w.params.followText "set-order"=Kg from e,RK KH];rw[RK<|by show¬((!t.plain&&decide (es.size>1))=Kh);rw[hp];exact KH];show RO _ _ ((if(!t.led&&!es.isEmpty)=Kh then unsupported "set:maker-not-led" else pure ()) >>= _) _ _ _;rw[k,RK<|by simp];exact Kj<|Ko<|Ko h
end
end L3

namespace L3
open PySem PySem.Spec PyProof.Rows L2
abbrev itO (a:RL)(first:B)(n ep:Y):Obj:={cls:=.type "set_iterator",data:=.fields #[first,KP 0,.ref a,KP n,KP ep]}
section
variable {prog:RS}{w:Ks}{A:KO}{E:B->Ki->Prop}{s:Ki}{I a:RL}{es:RW (Int×B)}{ep:Y}{t:Lv}{i n:Y}
theorem SetAt.ty (d:SetAt s.heap a es ep t):s.TypeIs (.ref a) "set":=by obtain⟨⟨o,b,c,_⟩,_⟩:=d;exact⟨o,b,c.1⟩
theorem vI {Q:B->Ki->Prop}(u:SetAt s.heap a es ep t)(D:es.size<Se)(G:(w.params.followText "set-order"=Kh\/(w.params.followText "set-order"=Kg/\(!t.plain&&decide (es.size>1))=Kg))->Q (.ref s.heap.objs.size) {s with heap:=s.heap.push<|itO a (KP 0) es.size ep})
  (H:∀(h:U Y) d,h.Perm (Kq es.size)->Q (.ref<|s.heap.objs.size+1) {s with heap:=(s.heap.push {cls:=.type "tuple",data:=.seq (h.map λ(k:Y)=>KP k).toArray}).push<|itO a (.ref s.heap.objs.size) es.size ep,drawn:=d}):
  RO (Km prog w) A (SO<|.ref a) Q E s:=by
 have x:=u.ty;obtain⟨⟨os,g,hex,f⟩,m⟩:=id u;refine wpAny_pyIter_slot x F.slot_set_iter<|LV F.slot_set_iter x i6 ?_<|F.args_set_iter_1 _;unfold Lu.«frozenset.__iter__» Builtin.Frozenset.slot0 slotArgs;simp only[List.isEmpty_nil,Qn,QV,↓reduceIte,bind_assoc,NL,bne_self_eq_false];unfold Builtin.Frozenset.addrOf Builtin.Frozenset.sizeOf;refine Kj<|Ko ?_
 try dsimp only
 refine Kj<|Ko ?_;refine Kj<|Kj<|OK g f m<|Ko ?_;unfold setDrawn Sx;refine Kj<|Kj<|M7 g f m ?_;dsimp only;refine Kj<|Kj<|M6<|Ko<|Ko ?_
 have b:∀(first:B) (c:Ki),(∀o,s.heap.get? a=O o->c.heap.get? a=O o)->Q (.ref c.heap.objs.size) {c with heap:=c.heap.push<|itO a first es.size ep}->RO (Km prog w) A.in1 (do
   let ep' <- setEpoch a;let it <- newFields "set_iterator" [first,KP 0,.ref a,KP es.size,KP ep']
   ret it) (λb c=>∃v,b=.done (.ret v)/\∃p r,c.TypeIs v p/\typeLookup (.type p) "__next__"=pure (O r)/\Q v c) E c:=λfirst c k q=>
  Kj (wpAny_setEpoch_of (k _ g) f m<|Kj<|LK<|Ko ⟨_,rfl,"set_iterator",_,⟨_,Heap.get?_push_size _ rfl,rfl⟩,slot_setiter_next.lookup,q⟩)
 cases l:(!w.params.followText "set-order"&&(!t.plain&&decide (es.size>1))) with
 |false=>
  rw[RK<|by show¬((!w.params.followText "set-order"&&(!t.plain&&decide (es.size>1)))=Kh);rw[l];exact KH];refine Kj<|Ko<|b _ s (λ_ e=>e)<|G ?_;cases y:w.params.followText "set-order" with
  |true=>exact .inl rfl
  |false=>rw[y] at l;exact .inr ⟨rfl,l⟩
 | true =>
  rw[RJ<|by show(!w.params.followText "set-order"&&(!t.plain&&decide (es.size>1)))=Kh;exact l];refine Kj<|pE es.size (Kq es.size) (K9) λh d hp=>?_;unfold newTuple;refine Kj<|LK ?_<|by show(h.map λ(k:Y)=>KP k).toArray.size<=sizeLine;rw[KU,Kr,hp.length_eq,K9];exact N7 D
  exact b _ _ (λo e=>Heap.get?_push_of_some _ e) (by
   have z:=H h d hp;rw[Heap.size_push];exact z)
theorem SIt.at {h b:RU}{first:B}(x:SIt h I a first i n ep)(e:∀o,h.get? I=O o->b.get? I=O o):SIt b I a first i n ep:=by obtain⟨o,c,d⟩:=x;exact⟨o,e o c,d⟩
theorem SetAt.at' {h b:RU}(x:SetAt h a es ep t)(e:∀o,h.get? a=O o->b.get? a=O o):SetAt b a es ep t:=by obtain⟨⟨o,c,d⟩,f⟩:=x;exact⟨⟨o,e o c,d⟩,f⟩
theorem SIt.self {first:B}{Q:B->Ki->Prop}(x:SIt s.heap I a first i n ep)(h:Q (.ref I) s):RO (Km prog w) A (SO<|.ref I) Q E s:=by obtain⟨o,c,d,_⟩:=x;have b:s.TypeIs (.ref I) "set_iterator":=⟨o,c,d⟩;refine wpAny_pyIter_slot b cQ<|LV cQ b eW ?_<|fA _;show RO _ _ (ret<|.ref I) _ _ s;exact Ko ⟨_,rfl,"set_iterator",_,b,slot_setiter_next.lookup,h⟩
theorem rK (u:A.handled=J)(l:a≠I)(r:w.params.followText "set-order"=Kh):Walks prog w A I [I,a] [I] es.size (λi v=>((Mo (w.params.setOrder a ep) es).toList.map (·.2))[i]?=O v) (λi h=>SIt h I a (KP 0) i es.size ep/\SetAt h a es ep t) where
 sub:=λb d=>by simp at d;simp[d]
 frame:=λ_ _ _ c hk=>⟨c.1.at λo e=>hk I (by simp) o e,c.2.at' λo e=>hk a (by simp) o e⟩
 item:=λi s Q E N c g=>by
  have hp:=eg (w.params.setOrder a ep) es;have L:(Mo (w.params.setOrder a ep) es).size=es.size:=by rw[<- K6,hp.length_eq,K6]
  have k:(Mo (w.params.setOrder a ep) es)[i]?=O (Mo (w.params.setOrder a ep) es)[i]:=NQ (by lia);refine eF (slot:=0) c.1 c.2 u _ (λD F G m=>jY c.2 r m) (λx M f e y p=>?_) λf e _=>?_
  .rw [k] at e;cases e;exact g _ f s.toks (by rw[KY,Nl,k];rfl) ⟨y,c.2.at' λo e=>(p.2 a l).trans e⟩ λb o d e=>(p.2 b λz=>d<|by simp[z]).trans e
  .rw[k] at e;cases e
 done:=λs Q E c g=>by
  have hp:=eg (w.params.setOrder a ep) es;have L:(Mo (w.params.setOrder a ep) es).size=es.size:=by rw[<- K6,hp.length_eq,K6]
  have k:(Mo (w.params.setOrder a ep) es)[es.size]?=none:=Pb (by lia);refine eF (slot:=0) c.1 c.2 u _ (λD F G m=>jY c.2 r m) (λx M f e y p=>?_) λf e H=>?_
  .rw[k] at e;cases e
  .exact g f s.toks λb o d e=>H b o (λz=>d<|by simp[z]) e
 self:=λ_ _ _ _ c g=>c.1.self g
def slN (t:Lv):Y->Y
|0=>0
|i+1=>t.place.getD i 0+1
theorem l5 {t:Lv}(f:Ris t.place):∀i,i<=t.place.size->SetTable.below t.place (slN t i)=i
|0,_=>by
 obtain⟨g,c,e⟩:=iL f 0;rcases QW (SetTable.below t.place 0) with z|z
 .exact z
 .exact RM (c 0 z) (Ly _)
| i+1,u=>by
 show SetTable.below t.place (t.place.getD i 0+1)=i+1;obtain⟨g,c,e⟩:=iL f<|t.place.getD i 0+1;have l:∀k d h,k<t.place.size->t.place.getD k d=t.place.getD k h:=λk d h hk=>by simp[Oh,hk]
 generalize r:SetTable.below t.place (t.place.getD i 0+1)=b at g c e ⊢;rcases Nat.lt_trichotomy b (i+1) with z|z|z
 .have m:=e i (by lia) (by lia);have o:=l i (t.place.getD i 0+1) 0 (by lia);lia
 .exact z
 .have m:=c (i+1) z;have o:=nT f (show i<i+1 by lia) (by lia) (d:=0);have p:=l (i+1) (t.place.getD i 0+1) 0 (by lia);lia
theorem oB (D:A.handled=J)(p:a≠I)(y:w.params.followText "set-order"=Kg)(F:t.led=Kh)(G:Ris t.place)(hz:t.place.size=es.size)(hp:(!t.plain&&decide (es.size>1))=Kg):Walks prog w A I [I,a] [I] es.size (λi v=>(es.toList.map (·.2))[i]?=O v) (λi h=>SIt h I a (KP<|slN t i) i es.size ep/\SetAt h a es ep t) where
 sub:=λb f=>by simp at f;simp[f]
 frame:=λ_ _ _ c hk=>⟨c.1.at λo e=>hk I (by simp) o e,c.2.at' λo e=>hk a (by simp) o e⟩
 item:=λi s Q E Z c k=>by
  have d:=l5 G i (by lia);have l:es[i]?=O es[i]:=NQ Z;have m:t.place[i]?=O (t.place.getD i 0):=by rw[NQ<|by lia];simp[Oh,show i<t.place.size by lia]
  refine eF (slot:=slN t i) c.1 c.2 D _ (λL M N r=>iK c.2 y F hp r) (λx nx g e H u=>?_) λg e _=>?_
  .rw [d,l,m] at e;cases e;exact k _ g s.toks (by rw[KY,Nl,l];rfl) ⟨H,c.2.at' λo e=>(u.2 a p).trans e⟩ λb o f e=>(u.2 b λz=>f<|by simp[z]).trans e
  .rw[d,l,m] at e;cases e
 done:=λs Q E c k=>by
  have d:=l5 G es.size (by lia);have l:es[es.size]?=none:=Pb<|Kt _;refine eF (slot:=slN t es.size) c.1 c.2 D _ (λL M N r=>iK c.2 y F hp r) (λx nx g e H u=>?_) λg e P=>?_
  .rw[d,l] at e;cases e
  .exact k g s.toks λb o f e=>P b o (λz=>f<|by simp[z]) e
 self:=λ_ _ _ _ c k=>c.1.self k
theorem nO {T:RL}{d:U Y}(G:A.handled=J)(F:a≠I)(D:T≠I)(hp:d.Perm<|Kq es.size):Walks prog w A I [I,a,T] [I] es.size (λi v=>(d.map λk=>((es[k]?).getD (0,.none)).2)[i]?=O v) (λi h=>SIt h I a (.ref T) i es.size ep/\SetAt h a es ep t/\h.IsTuple T (d.map λ(k:Y)=>KP k).toArray) where
 sub:=λb f=>by simp at f;simp[f]
 frame:=λ_ _ _ c hk=>⟨c.1.at λo e=>hk I (by simp) o e,c.2.1.at' λo e=>hk a (by simp) o e,by obtain⟨o,r,u⟩:=c.2.2;exact⟨o,hk T (by simp) o r,u⟩⟩
 item:=λi s Q E M c l=>by
  have y:∀k∈d,k<es.size:=λk hk=>Lc.mp<|hp.mem_iff.mp hk;have m:d.length=es.size:=by rw[hp.length_eq,K9]
  refine gW c.1 c.2.1 c.2.2 G y (λx k g e1 e2 H p=>?_) λg e _=>?_
  .exact l _ g s.toks (by rw[KY,e1];show O ((es[k]?).getD (0,.none)).2=_;rw[e2];rfl) ⟨H,c.2.1.at' λo e=>(p.2 a F).trans e,by obtain⟨o,r,u⟩:=c.2.2;exact⟨o,(p.2 T D).trans r,u⟩⟩ λb o f e=>(p.2 b λz=>f<|by simp[z]).trans e
  .rw[KN<|by lia] at e;cases e
 done:=λs Q E c l=>by
  have y:∀k∈d,k<es.size:=λk hk=>Lc.mp<|hp.mem_iff.mp hk;have m:d.length=es.size:=by rw[hp.length_eq,K9]
  refine gW c.1 c.2.1 c.2.2 G y (λx k g e1 e2 H p=>?_) λg e L=>?_
  .rw[Mv<|by lia] at e1;cases e1
  .exact l g s.toks λb o f e=>L b o (λz=>f<|by simp[z]) e
 self:=λ_ _ _ _ c l=>c.1.self l
end
end L3

namespace L3
open PySem PySem.Spec PyProof.Rows L2
section
variable {prog:RS}{w:Ks}{A:KO}{E:B->Ki->Prop}{s:Ki}{I a:RL}{es:RW (Int×B)}{ep:Y}{t:Lv}{i n:Y}
theorem mE {Q:RN->Ki->Prop}(d:s.TypeIs (.ref a) "set")(h:Q Kg s):RO (Km prog w) A (Builtin.List.listLengthHint<|.ref a) Q E s:=by
 unfold Builtin.List.listLengthHint;refine Kj<|wpAny_specialOf d PySem.F.slot_set_len.lookup ?_;generalize c:("set.__len__":R1)=e
 wp_delta
 rw[show splitId e=O ("set","__len__") from by subst c;decide +kernel];subst c;refine Kj<|N6 (T:="set") (b:=Kh) d (by rw[Sm];kernel_rfl) ?_;refine wpAny_ite_split (λz=>RM z<|by decide) λ_=>?_;refine wpAny_ite_split (λ_=>?_) λz=>RM (by decide +kernel) z;exact Kj<|NG d<|Ko h
theorem vV {d:U B}{c:RW B}(h:ItemsOf (λi v=>d[i]?=O v) c d.length):c.toList=d:=by
 refine Pe λb=>?_;rw[Nl];cases e:c[b]? with
 |some v=>exact(h.2 b v e).symm
 |none=>have:=Array.getElem?_eq_none_iff.mp e;rw[h.1] at this;exact(Mv<|by lia).symm
theorem gM {R:Ml->Ki->Prop}{S:RL}{fp:U RL}{L:U B}{St:Y->RU->Prop}{l:B}{p:Y}{h0:RU}(W:Walks prog w A.in1 I fp [I] L.length (λi v=>L[i]?=O v) St)(st:St 0 s.heap)(hn:L.length<=sizeLine)(F:S ∉ fp)(hSI:S≠I)(P:s.heap.get? S=O {cls:=.type "list",data:=.seq #[] p})(hI:h0.get? I=J)
  (k0:∀b o,b≠S->h0.get? b=O o->s.heap.get? b=O o)
  (hR:∀N tk d D,(∀b o,b≠S->h0.get? b=O o->N.get? b=O o)->N.get? S=O {cls:=.type "list",dict:=J,data:=.seq d D,slots:=#[]}->d.toList=L->R (.ok<|.ret l) {s with heap:=N,toks:=tk}) {u:RN}:
  RO (Km prog w) A.in1 (if u=Kh then(rule "list.extend.makes-room" >>= λ_=>Builtin.List.listTouch (.ref S) >>= λ_=>again<|.builtin "list.extend.loop" ⟨[.ref S,.ref I,l],[]⟩) else again<|.builtin "list.extend.loop" ⟨[.ref S,.ref I,l],[]⟩)
   (λM y=>match M with | .done f=>R (.ok f) y | .again D=>D.quiet=Kh/\Lp (Km prog w) A D R y) (λe y=>R (.error e) y) s:=by
 have r:∀(h:RU) (g:Y),St 0 h->(∀b o,b≠S->h0.get? b=O o->h.get? b=O o)->h.get? S=O {cls:=.type "list",data:=.seq #[] g}->Lp (Km prog w) A (.builtin "list.extend.loop" ⟨[.ref S,.ref I,l],[]⟩) R {s with heap:=h}:=λh g st1 k1 Z=>by
  refine codeAny_extend_loopS W.toS hn S F l L.length 0 {s with heap:=h} #[] g rfl (K4 _) st1 Z (ItemsOf.nil _) λy d D hm Q G=>?_;rw[Moved.eq_with hm];refine hR y.heap y.toks d D (λb o m e=>hm.heap b o (λz=>?_)<|k1 b o m e) Q<|vV G;rcases KD.mp z with z|z
  .exact m z
  .rw[K1.mp z] at e;rw[hI] at e;cases e
 cases u with
 |false=>rw[RK KH];exact Ko ⟨MB Ro _,r _ p st k0 P⟩
 |true=>rw[RJ rfl];refine Kj<|Mp<|Kj ?_;show RO _ _ (updateSeq S (·.push .none) >>= λ_=>updateSeq S (·.pop)) _ _ _;refine Kj<|OM P rfl ?_;have k:=Heap.get?_update_self (Obj.mapSeq (·.push Value.none)) P rfl;refine OM (hz:=by seq_fits) k rfl ?_;have x:=Heap.get?_update_self (Obj.mapSeq (·.pop)) k rfl;have H:∀b o,b≠S->s.heap.get? b=O o->((s.heap.update S (Obj.mapSeq (·.push Value.none))).update S (Obj.mapSeq (·.pop))).get? b=O o:=λb o m e=>(Heap.get?_update_other _ _<|Lg m).trans<|(Heap.get?_update_other _ _<|Lg m).trans e;exact Ko ⟨MB Ro _,r _ _ (W.frame 0 _ _ st λb m o e=>H b o (λz=>F<|z ▸ m) e) (λb o m e=>H b o m<|k0 b o m e) x⟩
theorem nK {R:Ml->Ki->Prop}{S:RL}{ks:U Int}(hh:A.handled=J)(hX:SetI prog w s.heap a (!w.params.followText "set-order") ks)(H:S≠a)(res:B)(P:Y)(hS:s.heap.get? S=O {cls:=.type "list",data:=.seq #[] P})
  (hR:∀F N d h z,(∀b o,b≠S->s.heap.get? b=O o->F.get? b=O o)->F.get? S=O {cls:=.type "list",dict:=J,data:=.seq h z,slots:=#[]}->(h.toList.map kC).Perm ks->(∀v∈h.toList,∃k u,v=.int k u)->R (.ok<|.ret res) {s with heap:=F,toks:=N,drawn:=d}):
  RO (Km prog w) A.in1 (Builtin.List.listExtendWith (.ref S) (.ref a) res)
   (λp s'=>match p with | .done f=>R (.ok f) s' | .again z=>z.quiet=Kh/\Lp (Km prog w) A z R s') (λe s'=>R (.error e) s') s:=by
 obtain⟨o,es,ep,t,ho,hex,hd,he,hb,hf,js,hp⟩:=hX;have hA:SetAt s.heap a es ep t:=⟨⟨o,ho,hex,hd⟩,hf⟩;have hz:t.place.size=es.size:=by simp only[SetTable.fits,KS,R9,RP] at hf;exact hf.1
 have M:a<s.heap.objs.size:=Heap.lt_size ho;have m:S<s.heap.objs.size:=Heap.lt_size hS;have r:es.size<=sizeLine:=N7 hb
 -- what comes of a permutation of its things
 have p:∀vs:U B,vs.Perm (es.toList.map (·.2))->(vs.map kC).Perm ks/\∀v∈vs,∃k u,v=.int k u:=λvs hv=>by
  refine⟨(hv.map kC).trans ?_,λv hm=>?_⟩
  .rw[Lh];exact hp
  .obtain ⟨e,h1,rfl⟩:=KG.mp<|hv.mem_iff.mp hm;exact tQ he h1
 have hT:=hA.ty;unfold Builtin.List.listExtendWith;refine Kj<|NG (T:="set") hT ?_;have hs1:Builtin.List.listSameRef (.ref S) (.ref a)=false:=by simp[Builtin.List.listSameRef,H]
 rw[hs1,RK<|by decide +kernel];refine Kj<|vI hA hb (λhm=>?_) λD d y=>?_
 .have L:Shared.TypeIs { s with heap:=s.heap.push (itO a (KP 0) es.size ep) } (.ref a) "set":=⟨o,Heap.get?_push_of_some _ ho,hex.1⟩;refine Kj (Ls (mE L ?_));have st:SIt (s.heap.push (itO a (KP 0) es.size ep)) s.heap.objs.size a (KP 0) 0 es.size ep:=⟨_,Heap.get?_push_size _ rfl,rfl,rfl⟩;have sa:SetAt (s.heap.push (itO a (KP 0) es.size ep)) a es ep t:=hA.at' λo e=>Heap.get?_push_of_some _ e;have hI:s.heap.get? s.heap.objs.size=none:=Heap.get?_none_of_le (Kt _);have G:S ∉ [s.heap.objs.size,a]:=by simp only[KD,L5,R8,not_or];exact⟨KR m,H⟩
  rcases hm with hB|⟨hB,y⟩
  .have x:((Mo (w.params.setOrder a ep) es).toList.map (·.2)).length=es.size:=by rw [Kr,(eg _ _).length_eq,K6]
   have W:=rK (prog:=prog) (w:=w) (A:=A.in1) (I:=s.heap.objs.size) (a:=a) (es:=es) (ep:=ep) (t:=t) hh (KR M) hB;rw[<- x] at W;exact gM (s:={s with heap:=s.heap.push<|itO a (KP 0) es.size ep}) (h0:=s.heap) W ⟨by rw[x];exact st,sa⟩ (by rw[x];exact r) G (KR m) (Heap.get?_push_of_some _ hS) hI (λb o _ e=>Heap.get?_push_of_some _ e) λF N h z k1 k2 k3=>by obtain⟨Q,Z⟩:=p h.toList (by rw[k3];exact(eg _ _).map _);exact hR F N s.drawn h z k1 k2 Q Z
  .have x:(es.toList.map (·.2)).length=es.size:=by rw [Kr,K6]
   have W:=oB (prog:=prog) (w:=w) (A:=A.in1) (I:=s.heap.objs.size) (a:=a) (es:=es) (ep:=ep) (t:=t) hh (KR M) hB (by rw[js.led,hB];rfl) js.ris hz y;rw[<- x] at W;exact gM (s:={s with heap:=s.heap.push<|itO a (KP 0) es.size ep}) (h0:=s.heap) W ⟨by rw[x];exact st,sa⟩ (by rw[x];exact r) G (KR m) (Heap.get?_push_of_some _ hS) hI (λb o _ e=>Heap.get?_push_of_some _ e) λF N h z k1 k2 k3=>by obtain⟨Q,Z⟩:=p h.toList (by rw[k3]);exact hR F N s.drawn h z k1 k2 Q Z
 .have e1:(s.heap.push { cls:=.type "tuple",data:=.seq (D.map fun (k:Y)=>KP k).toArray }).objs.size=s.heap.objs.size+1:=Heap.size_push ..;have up:∀b o,s.heap.get? b=O o->((s.heap.push {cls:=.type "tuple",data:=.seq (D.map λ(k:Y)=>KP k).toArray}).push (itO a (.ref s.heap.objs.size) es.size ep)).get? b=O o:=λb o e=>Heap.get?_push_of_some _ (Heap.get?_push_of_some _ e);have L:Shared.TypeIs {s with heap:=(s.heap.push {cls:=.type "tuple",data:=.seq (D.map λ(k:Y)=>KP k).toArray}).push (itO a (.ref s.heap.objs.size) es.size ep),drawn:=d} (.ref a) "set":=⟨o,up _ _ ho,hex.1⟩;refine Kj (Ls (mE L ?_));have st:SIt ((s.heap.push {cls:=.type "tuple",data:=.seq (D.map λ(k:Y)=>KP k).toArray}).push (itO a (.ref s.heap.objs.size) es.size ep)) (s.heap.objs.size+1) a (.ref s.heap.objs.size) 0 es.size ep:=⟨_,by rw[<- e1];exact Heap.get?_push_size _ rfl,rfl,rfl⟩;have sa:SetAt ((s.heap.push {cls:=.type "tuple",data:=.seq (D.map λ(k:Y)=>KP k).toArray}).push (itO a (.ref s.heap.objs.size) es.size ep)) a es ep t:=hA.at' λo e=>up _ _ e;have tp:Heap.IsTuple ((s.heap.push {cls:=.type "tuple",data:=.seq (D.map λ(k:Y)=>KP k).toArray}).push (itO a (.ref s.heap.objs.size) es.size ep)) s.heap.objs.size (D.map λ(k:Y)=>KP k).toArray:=⟨_,Heap.get?_push_of_some _ (Heap.get?_push_size _ rfl),rfl,_,rfl⟩;have x:(D.map λk=>((es[k]?).getD (0,Value.none)).2).length=es.size:=by rw[Kr,y.length_eq,K9]
  have hI:s.heap.get? (s.heap.objs.size+1)=none:=Heap.get?_none_of_le<|Nf _;have G:S ∉ [s.heap.objs.size+1,a,s.heap.objs.size]:=by simp only[KD,L5,R8,not_or];exact⟨KR<|MW m,H,KR m⟩
  have W:=nO (prog:=prog) (w:=w) (A:=A.in1) (I:=s.heap.objs.size+1) (a:=a) (es:=es) (ep:=ep) (t:=t) (T:=s.heap.objs.size) hh (KR<|MW M) (KR<|MG _) y;rw[<- x] at W
  have pv:(D.map λk=>((es[k]?).getD (0,Value.none)).2).Perm (es.toList.map (·.2)):=by
   refine(y.map _).trans<|List.Perm.of_eq ?_;refine Pe λg=>?_;rw[KY,KY];by_cases hj:g<es.size
   .rw[LZ hj,KN (l:=es.toList)<|by rw[K6];exact hj];simp[hj]
   .rw[Mv<|by rw[K9];lia,Mv (l:=es.toList)<|by rw[K6];lia];rfl
  exact gM (s:={s with heap:=(s.heap.push {cls:=.type "tuple",data:=.seq (D.map λ(k:Y)=>KP k).toArray}).push<|itO a (.ref s.heap.objs.size) es.size ep,drawn:=d}) (h0:=s.heap) W ⟨by rw[x];exact st,sa,tp⟩ (by rw[x];exact r) G (KR<|MW m) (up _ _ hS) hI (λb o _ e=>up _ _ e) λF N h z k1 k2 k3=>by obtain⟨Q,Z⟩:=p h.toList (by rw[k3];exact pv);exact hR F N d h z k1 k2 Q Z
theorem lV {R:U B->Ki->Prop}{P:U Int}(hh:A.handled=J)(hX:SetI prog w s.heap a (!w.params.followText "set-order") P)
  (h:∀m p d Z,(∀b o,s.heap.get? b=O o->m.get? b=O o)->(Z.map kC).Perm P->(∀v∈Z,∃k u,v=Value.int k u)->R Z {s with heap:=m,toks:=p,drawn:=d}):RO (Km prog w) A (collect<|.ref a) R E s:=by
 have M:a<s.heap.objs.size:=by obtain⟨o,_,_,_,e,_⟩:=hX;exact Heap.lt_size e
 unfold collect;refine Kj<|wpAny_runValue<|MM entry_proto_collect' ?_;rw[Around.under_plainId PySem.F.plain_proto_collect _];show RO _ A.in1 (newList [] >>= λl=>again<|.builtin "list.__iadd__" ⟨[l,.ref a],[]⟩) _ _ s;refine Kj<|LK ?_;refine Ko ⟨MB Rr _,MM entry_list_iadd' ?_⟩;rw[Around.under_plainId Rr _];have hS:(s.heap.push {cls:=.type "list",data:=.seq ([]:U B).toArray}).get? s.heap.objs.size=O {cls:=.type "list",data:=.seq #[]}:=Heap.get?_push_size _ rfl;show RO _ A.in1 (Builtin.List.listExtendWith (.ref s.heap.objs.size) (.ref a)<|.ref s.heap.objs.size) _ _ _
 have N:=nK (A:=A) (s:={s with heap:=s.heap.push {cls:=.type "list",data:=.seq ([]:U B).toArray}})
  (R:=λ(q:Ml) (Q:Ki)=>∃(m:RU) (p:Y) (d:Drawn) (g:RW B) (r:Y),q=.ok (.ret<|.ref s.heap.objs.size)/\Q={s with heap:=m,toks:=p,drawn:=d}/\(∀b o,s.heap.get? b=O o->m.get? b=O o)/\m.get? s.heap.objs.size=O {cls:=.type "list",dict:=J,data:=.seq g r,slots:=#[]}/\(g.toList.map kC).Perm P/\∀v∈g.toList,∃k u,v=Value.int k u)
  hh (hX.at λo e=>Heap.get?_push_of_some _ e) (LS M) (.ref s.heap.objs.size) 0 hS λm p d g r z D G H=>⟨m,p,d,g,r,rfl,rfl,λb o e=>z b o (KR<|Heap.lt_size e)<|Heap.get?_push_of_some _ e,D,G,H⟩
 refine Lb N (λL Q x=>?_) λe Q x=>?_
 .cases L with
  |done f=>obtain⟨m,p,d,g,r,e,rfl,z,D,G,H⟩:=x;cases e;show RO _ A (load s.heap.objs.size >>= _) _ _ _;exact Kj<|wpAny_load D<|Ko<|h m p d g.toList z G H
  |again c₁=>refine⟨x.1,NZ x.2 λq s₂ y=>?_⟩;obtain⟨m,p,d,g,r,rfl,rfl,z,D,G,H⟩:=y;show RO _ A (load s.heap.objs.size >>= _) _ _ _;exact Kj<|wpAny_load D<|Ko<|h m p d g.toList z G H
 .obtain ⟨_,_,_,_,_,e,_⟩:=x;cases e
end
theorem f6:∀{a:U B},(∀v∈a,∃k u,v=Value.int k u)->Sa a (a.map kC)
|[],_=>.nil
|v::a,h=>by obtain⟨k,u,rfl⟩:=h v Ku;exact .cons k u<|f6 λx hx=>h x<|Kw _ hx
theorem Inv.drawn {X:Cx}{a:U<|RL×Obj}{b:L2.St}{H:Hp}{s:Ki}(I:Inv X a b H s)(d:Drawn):Inv X a b H {s with drawn:=d}:=
 ⟨I.ok,I.os,I.bare,I.base,I.loc,I.cell,I.free,I.freeC,I.pin,I.hok,I.len⟩
def ny (K:Kk)(d:U V)(H:Hp)(Q:VK):Prop:=∃(a:RL) (b:U Int),d=[.ref a]/\SqL K H a (b.map V.int)/\b.length<64/\(b.foldl dM []).length<64/\∀c:U Int,c.Perm (b.foldl dM [])->c.Pairwise (·<=·)->∀p,H p=J->Q (.ref p) (upd H p<|.lst<|c.map V.int)
theorem pb {X:Cx}{i:RT}{Z:TA}{p t pos c:Pos}(M:X.calm=Kh)(hg:Gl X "sorted")(hm:X.mg "sorted"=J)(x:Gl X "set")(y:X.mg "set"=J)(ha:PA X [i] Z)(hs:Kl [i] X.env=(Kg,RV i X.env)::Kl [] X.env)(z:(KQ c<|Kl [] X.env).any (·.1)=Kg)(r:Kl [.Call (.Name "set" t) [i] [] c] X.env=(Kg,RV (.Call (.Name "set" t) [i] [] c) X.env)::Kl [] X.env)(o:(KQ pos<|Kl [] X.env).any (·.1)=Kg):
  PE X (.Call (.Name "sorted" p) [.Call (.Name "set" t) [i] [] c] [] pos) (tCB (ny X.K) Z):=by
 intro g s σ H Q I h;refine Na (cX I hg hm (by rfl) ?_ (by decide)<|by decide);refine Rb ?_ r o;rw[r];show RO _ _ (spliced ((Kg,RV (.Call (.Name "set" t) [i] [] c) X.env)::KQ pos (Kl [] X.env))) _ _ s;refine Calls.spliced_cons ?_;refine Na (cX I x y Rz ?_ (by decide)<|by decide);refine NC (thn (ha c g s σ H _ I h) λus P ⟨vs,L,I1,r1,q1⟩=>?_) hs z;obtain⟨a,ns,rfl,hS,v,w,q⟩:=q1;obtain⟨u,rfl,ru⟩:=c5 r1;cases ru;obtain⟨its,rv,tp,hz⟩:=I1.list hS;refine rG (I1.ok.hd M) tp.isList (by have:=bS rv;simpa using this) (by lia) λh' tk keep so=>?_;refine Calls.spliced_nil ?_;refine call_function_tree kind_sorted plain_sorted entry_sorted (args_sorted1 _) ?_;unfold Builtin.sorted;refine Kj<|MA (a:=()) rfl ?_;refine Kj<|lV (s:={P with heap:=h',toks:=tk}) (show X.A.in1.handled=J from I1.ok.hd M) so λk l d vs k1 F k3=>?_;have hI:=f6 k3;have D:vs.length<64:=by rw[<- Kr (f:=kC),F.length_eq];exact w
 refine Kj (wpAny_newList (items:=vs) ?_<|by rw[M4];lia);refine Kj<|Ls<|LV slot_list_sort (T:="list") ⟨_,Heap.get?_push_size _ rfl,rfl⟩ entry_list_sort (list_sort_tree (a:=k.objs.size) (vs:=vs) (n:=0) (Heap.get?_push_size _ rfl) hI D λout G m1 N m3=>⟨_,rfl,?_⟩)<|args_list_sort _;have I2:Inv X g σ L {P with heap:=k,toks:=l,drawn:=d}:=Inv.drawn ((I1.kept (t':=tk) keep).kept (t':=l) k1) d;obtain⟨e,he⟩:=sortedHeap_at (h:=k.push {cls:=Value.type "list",data:=Data.seq vs.toArray}) (a:=k.objs.size) (vs:=vs) (n:=0) (out:=out)<|Heap.get?_push_size _ rfl;have hml:G.length=(ns.foldl dM []).length:=(N.trans F).length_eq;refine Ko ?_;refine⟨.ref k.objs.size,upd L k.objs.size<|.lst<|G.map V.int,I2.laid (t':=l) (λb u v=>?_) (Kt _) ⟨by rw[Kr,M4];lia,out.toList,e,fN m1,by rw[he,Pa]⟩,rfl,q G (N.trans F) m3 _<|I2.hok.fresh<|Kt _⟩;have m:b<k.objs.size:=Heap.lt_size v;rw[sortedHeap_old (KR m)<|by rw[Heap.size_push];exact MW m];exact Heap.get?_push_of_some _ v
end L3

namespace MR
open PySem PySem.Spec PyProof.Rows L2 L3
section
variable {X:Cx}{sf sg:Y->j Y}{C:M.Call}{pos p p2 p3 pos2:Pos}{ea eb ec:RT}{a b c:M.E}{h:RN}{n:Y}{io:U Y}{K:Kk}
theorem nE:∀(e d:U Int),(e.foldl dM d).length<=d.length+e.length
|[],_=>Kt _
|n::e,d=>by have f:=nE e<|dM d n;have g:=mH d n;rw[Nw,Kz];lia
theorem mJ:Loc K 1 .sortedSet h (ny K):=by
 intro F w I Z H G Q v e r A L k
 match F,v with
 | [(m,a)],_ =>
  obtain⟨x,rfl,D⟩:=bG rfl r;cases a with
  | lst s =>
   obtain⟨a,I,hx,o,N,p⟩:=bc D;have i:((M.intsOf s).bind λf=>if decide (f.length<64)=Kh then O ((.d,.lst ((M.sortI (f.foldl M.addZ [])).map M.T.int)):M.W) else J)=O w:=e;cases e1:M.intsOf s with
   |none=>rw[e1] at i;cases i
   | some f =>
    rw[e1] at i;have e2:(if decide (f.length<64)=Kh then O ((.d,.lst ((M.sortI (f.foldl M.addZ [])).map M.T.int)):M.W) else J)=O w:=i;split at e2
    .rename_i g;cases e2;have g:=R3 g;rw[dW e1 p] at o;have fl:=nE f [];rw[NL] at fl;refine⟨a,f,by rw[hx],.inl<|.inl o,g,by lia,λP t u q y=>?_⟩;rw[mi t u];have l:(M.sortI (f.foldl dM [])).length=(f.foldl dM []).length:=(dQ _).1.length_eq;exact bK (G':=no) A L (λ_ z=>z.elim) (by rw[Kr,l];show _<=16777215;lia) (fR _) (by simp) k y
    .cases e2
  |_=>cases e
theorem vB (k:X.calm=true:=by rfl)(hm:X.mg "sorted"=J)(hm2:X.mg "set"=J)(l:Gl X "sorted":=by rfl)(e:Gl X "set":=by rfl)(ha:SE X sf C ea a)(i:Kl [ea] X.env=(Kg,RV ea X.env)::Kl [] X.env:=by rfl)(f:(KQ pos2<|Kl [] X.env).any (·.1)=false:=by rfl)(g:Kl [.Call (.Name "set" p2) [ea] [] pos2] X.env=(Kg,RV (.Call (.Name "set" p2) [ea] [] pos2) X.env)::Kl [] X.env:=by rfl)(d:(KQ pos<|Kl [] X.env).any (·.1)=false:=by rfl):
  SE X sf C (.Call (.Name "sorted" p) [.Call (.Name "set" p2) [ea] [] pos2] [] pos) (.op .sortedSet h [a]):=
 ak (pb k l hm e hm2 (slc ha sl0 i) i f g d) (dH mJ rfl)
end
end MR

namespace MR
open PySem PySem.Spec PyProof.Rows L2 L3
def nIo:M.E->RN
|.io _=>Kg
|_=>Kh
def lcl (o:j OZ):RN:=match o with
|some .local=>Kh
|some .cell=>Kh
|_=>Kg
def lcO (o:j OZ):RN:=match o with
|some .local=>Kh
|_=>Kg
theorem DS {a:M.E}(h:nIo a=Kh)(i:Y):a≠.io i:=by rintro rfl;cases h
theorem yB {a:R6}{x:Str}(h:lcl (a.names.lookup x)=Kh):L2.Loc a x:=by
 unfold lcl at h;split at h
 .rename_i e;exact KL e
 .rename_i e;exact Kx e
 .cases h
theorem yi {o:j OZ}{b:RN}(h:(b || lcO o)=Kh):b=Kh\/o=O .local:=by
 cases b
 .refine Kx ?_;unfold lcO at h;simp at h;split at h
  .rfl
  .cases h
 .exact KL rfl
section
variable {X:Cx}{sf:Y->j Y}{io:U Y}{C:M.Call}{pos:Pos}{ea eb:RT}{a b:M.E}{h:RN}
theorem zA (c:Y){i:Y}{x:Str}{o:M.X}{d:Pos}(g:X.N.Nodup)(k:SE X sf C ea a)(f:io.contains i=Kg)(n:sf i=O c)(m:X.N[c]?=O x)(hx:lcl (X.env.scope.names.lookup x)=Kh)
  (e:Ln ea (O<|.Name x d) pos.line X.env=pure Kg) (l:(X.fn x || lcO (X.env.scope.names.lookup x))=Kh):SS X sf io C (.Assign [.Name x d] ea pos) (.asg o i a):=IS c g k (λz=>by rw[show io.contains i=Kh from List.elem_eq_true_of_mem z] at f;cases f) n m (yB hx) e<|yi l
theorem say {c:U RT}{bs:U M.E}(d:SE X sf C ea a)(e:SA X sf C c bs)(f:nIo a=Kh)(g:Kl (ea::c) X.env=(Kg,RV ea X.env)::Kl c X.env):SA X sf C (ea::c) (a::bs):=sac d e (DS f) g
end
end MR

namespace MR
open PySem
section
variable {p:U B->Prop}
theorem u0 (h:p [])(a:U B)(e:a.length=0):p a:=by cases a;exact h;cases e
theorem uS {n:Y}(h:∀a b,MH b=n->p (a::b))(b:U B)(e:b.length=n+1):p b:=by
 cases b with
 |nil=>cases e
 |cons a r=>exact h a r<|LX e
theorem u1 (h:∀a,p [a])(b:U B)(e:b.length=1):p b:=uS (λa=>u0<|h a) b e
theorem u2 (h:∀a b,p [a,b])(c:U B)(e:c.length=2):p c:=uS (λa=>u1<|h a) c e
theorem u3 (h:∀a b c,p [a,b,c])(d:U B)(e:d.length=3):p d:=uS (λa=>u2<|h a) d e
end
end MR

namespace A78
open M
open PySem (Str)
noncomputable abbrev q:=Str.ofString
noncomputable def aQ:Fn:={ps:=2,ns:=2,io:=[],body:=[
  .ite (.q [0,1] []) (.op .ne Kg [.call 264 [.var 0],.call 264 [.var 1]]) [
   .ret [] (.cst<|.bl Kg)] [],
  .ite (.q [0] []) (.not (.op (.isI ["list","tuple"]) Kg [.var 0])) [
   .ret [] (.op .eq Kg [.mv 0,.mv 1])] [],
  .ite (.q [0,1] []) (.op .ne Kg [.op .len Kg [.var 0],.op .len Kg [.var 1]]) [
   .ret [] (.cst<|.bl Kg)] [],
  .forS [0,1] [] .zip [.var 0,.var 1] [2,3] [
   .ite (.q [2,3] []) (.not (.call 263 [.var 2,.var 3])) [
    .ret [] (.cst<|.bl Kg)] []],
  .ret [] (.cst<|.bl Kh)]}
noncomputable def bb:Fn:={ps:=1,ns:=0,io:=[],body:=[
  .ite (.q [0] []) (.op (.isI ["bool"]) Kg [.var 0]) [
   .ret [] (.cst<|.str<|q "truth")] [],
  .ite (.q [0] []) (.op (.isI ["int"]) Kg [.var 0]) [
   .ret [] (.cst<|.str<|q "number")] [],
  .ite (.q [0] []) (.op (.isI ["str"]) Kg [.var 0]) [
   .ret [] (.cst<|.str<|q "text")] [],
  .ite (.q [0] []) (.op (.isI ["list"]) Kg [.var 0]) [
   .ret [] (.cst<|.str<|q "list")] [],
  .ret [] (.ifx (.op (.isI ["tuple"]) Kg [.mv 0]) (.cst<|.str<|q "tuple")<|.cst<|.str<|q "none")]}
noncomputable def bE:Fn:={ps:=1,ns:=1,io:=[],body:=[
  .ret [0] (.and (.op (.isI ["tuple"]) Kg [.var 0])<|.op .all Kg [.comp Kg .seq [.var 0] [1] J<|.op .eq Kg [.call 264 [.var 1],.cst<|.str<|q "number"]])]}
noncomputable def b7:Fn:={ps:=2,ns:=12,io:=[],body:=[
  .asg (.q [0] []) 2 (.comp Kg .seq [.var 0] [10] J<|.op .ix Kg [.var 10,.cst<|.int 2]),
  .asg (.q [0] []) 3 (.comp Kg .seq [.var 0] [11] J<|.op .len Kg [.op .ix Kg [.var 11,.cst<|.int 3]]),
  .asg (.q [0] []) 4 (.call 290 [.var 0]),
  .asg (.q [0,3] []) 5 (.comp Kh .rng [.op .sub Kg [.op .len Kg [.var 0],.cst<|.int 1],.op .neg Kg [.cst<|.int 1],.op .neg Kg [.cst<|.int 1]] [12] (O<|.op .eq Kg [.op .ix Kg [.var 3,.var 12],.cst<|.int 0])<|.var 12),
  .asg (.q [] []) 6 (.lst Kh []),
  .whl (.q [5] []) (.var 5) [
   .asg (.l [1]) 7 (.call 311 [.io 5,.io 2,.var 1]),
   .forU .seq [.qx [2,7] [] (.comp Kh .seq [.var 7] [13] (O (.op .eq Kg [.op .ix Kg [.var 2,.op .ix Kg [.var 13,.cst (.int 0)]],.cst (.int 0)])) (.op .ix Kg [.var 13,.cst (.int 0)]))] [8] [
    .forS [4] [8] .seq [.op .ix Kg [.var 4,.var 8]] [9] [
     .setI (.q [3,9] []) 3 (.var 9) (.op .sub Kg [.op .ix Kg [.var 3,.var 9],.cst<|.int 1]),
     .ite (.q [3,9] []) (.op .eq Kg [.op .ix Kg [.var 3,.var 9],.cst (.int 0)]) [
      .exp (.l [9]) (.call 299 [.io 5,.var 9])] []]],
   .app (.l []) 6 (.mv 7)],
  .ret [] (.mv 6)]}
noncomputable def bw:Fn:={ps:=1,ns:=5,io:=[],body:=[
  .asg (.q [0] []) 1 (.comp Kh .seq [.var 0] [5] J<|.lst Kh []),
  .forS [0] [] .enm [.var 0] [2,3] [
   .forS [3] [] .seq [.op .ix Kg [.var 3,.cst (.int 3)]] [4] [
    .apN 1 4 2]],
  .ret [] (.mv 1)]}
noncomputable def gY:Fn:={ps:=3,ns:=4,io:=[0,1],body:=[
  .asg (.q [] []) 3 (.lst Kh []),
  .asg (.q [2] []) 4 (.var 2),
  .whl (.q [0,4] []) (.and (.op .gt Kg [.var 4,.cst (.int 0)]) (.var 0)) [
   .asg (.q [0] []) 5 (.op .ix Kg [.var 0,.op .neg Kg [.cst<|.int 1]]),
   .asg (.q [1,4] [5]) 6 (.op .min Kg [.var 4,.op .ix Kg [.var 1,.var 5]]),
   .app (.q [] [5,6]) 3 (.tup [.var 5,.var 6]),
   .asg (.q [4] [6]) 4 (.op .sub Kg [.var 4,.var 6]),
   .setI (.q [1] [5,6]) 1 (.var 5) (.op .sub Kg [.op .ix Kg [.var 1,.var 5],.var 6]),
   .ite (.q [1] [5]) (.op .eq Kg [.op .ix Kg [.var 1,.var 5],.cst (.int 0)]) [
    .exp (.l []) (.pop 0 [])] []],
  .ret [] (.mv 3)]}
noncomputable def bC:Fn:={ps:=2,ns:=3,io:=[0],body:=[
  .asg (.q [] []) 2 (.cst<|.int 0),
  .asg (.q [0] []) 3 (.op .len Kg [.var 0]),
  .whl (.q [] [2,3]) (.op .lt Kg [.var 2,.var 3]) [
   .asg (.q [] [2,3]) 4 (.op .fdiv Kg [.op .add Kg [.var 2,.var 3],.cst<|.int 2]),
   .ite (.q [0] [1,4]) (.op .gt Kg [.op .ix Kg [.var 0,.var 4],.var 1]) [
    .asg (.q [] [4]) 2 (.op .add Kg [.var 4,.cst<|.int 1])] [
    .asg (.q [] [4]) 3 (.var 4)]],
  .insN 0 2 1]}
noncomputable def bo:Fn:={ps:=3,ns:=6,io:=[],body:=[
  .ite (.q [2] []) (.not (.op (.isI ["list"]) Kg [.var 2])) [
   .ret [] (.cst<|.bl Kg)] [],
  .asg (.q [0] []) 3 (.comp Kg .seq [.var 0] [6] J<|.op .ix Kg [.var 6,.cst<|.int 2]),
  .forS [2] [] .seq [.var 2] [4] [
   .ite (.q [0,1,4] []) (.not (.call 357 [.var 4,.op .len Kg [.var 0],.var 1])) [
    .ret [] (.cst<|.bl Kg)] [],
   .forS [4] [] .seq [.var 4] [5] [
    .ite (.q [0,3,5] []) (.op .any Kg [.comp Kg .seq [.op .ix Kg [.op .ix Kg [.var 0,.op .ix Kg [.var 5,.cst (.int 0)]],.cst (.int 3)]] [7] J (.op .ne Kg [.op .ix Kg [.var 3,.var 7],.cst (.int 0)])]) [
     .ret [] (.cst<|.bl Kg)] []],
   .forS [4] [] .seq [.var 4] [5] [
    .setI (.q [3,5] []) 3 (.op .ix Kg [.var 5,.cst<|.int 0]) (.op .sub Kg [.op .ix Kg [.var 3,.op .ix Kg [.var 5,.cst<|.int 0]],.op .ix Kg [.var 5,.cst<|.int 1]])]],
  .ret [] (.op .all Kg [.comp Kg .seq [.mv 3] [8] J<|.op .eq Kg [.var 8,.cst<|.int 0]])]}
noncomputable def da:Fn:={ps:=3,ns:=4,io:=[],body:=[
  .ite (.q [0] [1]) (.or (.not (.op (.isI ["list"]) Kg [.var 0])) (.not (.op .all Kg [.comp Kg .seq [.var 0] [4] J (.call 302 [.var 4,.var 1])]))) [
   .ret [] (.cst<|.bl Kg)] [],
  .asg (.q [0] []) 3 (.comp Kg .seq [.var 0] [5] J<|.op .ix Kg [.var 5,.cst<|.int 0]),
  .ret [3] (.and (.op .eq Kg [.var 3,.op .sortedSet Kg [.var 3]])<|.op .le Kg [.op .sum Kg [.comp Kg .seq [.mv 0] [6] J<|.op .ix Kg [.var 6,.cst<|.int 1]],.mv 2])]}
noncomputable def cO:Fn:={ps:=2,ns:=0,io:=[],body:=[
  .ret [0] (.and (.call 265 [.var 0])<|.and (.op .eq Kg [.op .len Kg [.var 0],.cst<|.int 2])<|.and (.chain .le .lt (.cst<|.int 0) (.op .ix Kg [.var 0,.cst<|.int 0])<|.mv 1)<|.op .ge Kg [.op .ix Kg [.var 0,.cst<|.int 1],.cst<|.int 1])]}
noncomputable def eG:Fn:={ps:=2,ns:=2,io:=[],body:=[
  .asg (.q [0,1] []) 2 (.call 267 [.var 0,.var 1]),
  .asg (.q [0] []) 3 (.call 295 [.var 0]),
  .ret [2,3] (.ifx (.op .gt Kg [.op .len Kg [.var 3],.var 2]) (.tup [.cst<|.str<|q "chain",.var 3])<|.tup [.cst<|.str<|q "width",.var 2])]}
noncomputable def bf:Fn:={ps:=3,ns:=1,io:=[],body:=[
  .ite (.q [2] []) (.or (.not (.op (.isI ["tuple"]) Kg [.var 2])) (.op .ne Kg [.op .len Kg [.var 2],.cst (.int 2)])) [
   .ret [] (.cst<|.non)] [],
  .asg (.q [0,1] []) 3 (.call 267 [.var 0,.var 1]),
  .ite (.q [2,3] []) (.call 263 [.var 2,.tup [.cst (.str (q "width")),.var 3]]) [
   .ret [] (.mv 3)] [],
  .ret [2] (.ifx (.and (.op .eq Kg [.op .ix Kg [.var 2,.cst<|.int 0],.cst<|.str<|q "chain"])<|.call 268 [.mv 0,.op .ix Kg [.var 2,.cst<|.int 1]]) (.op .len Kg [.op .ix Kg [.var 2,.cst<|.int 1]])<|.cst<|.non)]}
noncomputable def aY:Fn:={ps:=2,ns:=1,io:=[],body:=[
  .ret [1] (.op .fdiv Kg [.op .sub Kg [.op .add Kg [.op .sum Kg [.comp Kg .seq [.mv 0] [2] J<|.op .ix Kg [.var 2,.cst<|.int 2]],.var 1],.cst<|.int 1],.var 1])]}
noncomputable def ai:Fn:={ps:=2,ns:=3,io:=[],body:=[
  .ite (.q [1] []) (.or (.not (.op (.isI ["list"]) Kg [.var 1])) (.not (.call 265 [.op .tuple Kg [.var 1]]))) [
   .ret [] (.cst<|.bl Kg)] [],
  .ite (.q [0,1] []) (.not (.op .all Kg [.comp Kg .seq [.var 1] [2] J (.chain .le .lt (.cst (.int 0)) (.var 2) (.op .len Kg [.var 0]))])) [
   .ret [] (.cst<|.bl Kg)] [],
  .ret [0,1] (.op .all Kg [.comp Kg .zip [.var 1,.op .sl1 Kg [.var 1,.cst<|.int 1]] [3,4] J<|.op .isin Kg [.var 3,.op .ix Kg [.op .ix Kg [.var 0,.var 4],.cst<|.int 3]]])]}
noncomputable def bD:Fn:={ps:=1,ns:=7,io:=[],body:=[
  .asg (.q [0] []) 1 (.op .mul Kg [.lst Kg [.cst<|.int 0],.op .len Kg [.var 0]]),
  .forS [0] [] .seq [.call 296 [.var 0]] [2] [
   .setI (.q [0,1] [2]) 1 (.var 2) (.op .add Kg [.cst<|.int 1,.op .maxZ Kg [.comp Kg .seq [.op .ix Kg [.op .ix Kg [.var 0,.var 2],.cst<|.int 3]] [6] J<|.op .ix Kg [.var 1,.var 6]]])],
  .asg (.q [] []) 3 (.lst Kg []),
  .asg (.q [0] []) 4 (.op .rng Kg [.cst<|.int 0,.op .len Kg [.var 0]]),
  .forS [1] [] .rng [.op .maxZ Kg [.var 1],.cst (.int 0),.op .neg Kg [.cst (.int 1)]] [5] [
   .app (.q [1,4] [5]) 3 (.op .ix Kg [.comp Kg .seq [.var 4] [7] (O<|.op .eq Kg [.op .ix Kg [.var 1,.var 7],.var 5])<|.var 7,.cst<|.int 0]),
   .asg (.l [0]) 4 (.op .ix Kg [.op .ix Kg [.var 0,.qx [3] []<|.op .ix Kg [.var 3,.op .neg Kg [.cst<|.int 1]]],.cst<|.int 3])],
  .revS 3,
  .ret [] (.mv 3)]}
noncomputable def cK:Fn:={ps:=1,ns:=9,io:=[],body:=[
  .asg (.q [0] []) 1 (.comp Kg .seq [.var 0] [7] J<|.op .len Kg [.op .ix Kg [.var 7,.cst<|.int 3]]),
  .asg (.q [0] []) 2 (.call 290 [.var 0]),
  .asg (.q [1] []) 3 (.comp Kh .enm [.var 1] [8,9] (O<|.op .eq Kg [.var 9,.cst<|.int 0])<|.var 8),
  .asg (.q [] []) 4 (.cst<|.int 0),
  .whl (.q [3,4] []) (.op .lt Kg [.var 4,.op .len Kg [.var 3]]) [
   .asg (.q [3,4] []) 5 (.op .ix Kg [.var 3,.var 4]),
   .forS [2] [5] .seq [.op .ix Kg [.var 2,.var 5]] [6] [
    .setI (.q [1,6] []) 1 (.var 6) (.op .sub Kg [.op .ix Kg [.var 1,.var 6],.cst<|.int 1]),
    .ite (.q [1,6] []) (.op .eq Kg [.op .ix Kg [.var 1,.var 6],.cst (.int 0)]) [
     .app (.q [6] []) 3 (.var 6)] []],
   .asg (.q [4] []) 4 (.op .add Kg [.var 4,.cst<|.int 1])],
  .ret [] (.mv 3)]}
noncomputable def cN:Fn:={ps:=1,ns:=0,io:=[],body:=[
  .ret [] (.lst Kh [.op .list Kh [.op .sl2 Kh [.mv 0,.cst<|.int 63]],.cst<|.int 0,.cst<|.int 0])]}
noncomputable def bW:Fn:={ps:=2,ns:=4,io:=[0],body:=[
  .ite (.q [0] []) (.op .gt Kg [.op .ix Kg [.var 0,.cst (.int 2)],.cst (.int 0)]) [
   .asg (.q [0] [1]) 2 (.op .modN Kg [.op .ix Kg [.var 0,.cst<|.int 2],.var 1]),
   .setI (.q [0] [1]) 0 (.cst<|.int 2) (.op .fdivN Kg [.op .ix Kg [.var 0,.cst<|.int 2],.var 1]),
   .ret [] (.mv 2)] [],
  .asg (.q [0] []) 3 (.op .ix Kg [.var 0,.cst<|.int 1]),
  .setI (.q [3] []) 0 (.cst<|.int 1) (.op .add Kg [.var 3,.cst<|.int 1]),
  .asg (.q [] []) 4 (.cst<|.int 0),
  .ite (.q [0] []) (.op .gt Kg [.op .len Kg [.op .ix Kg [.var 0,.cst (.int 0)]],.cst (.int 0)]) [
   .asg (.q [0,3] []) 4 (.op .ix Kg [.op .ix Kg [.var 0,.cst<|.int 0],.op .modN Kg [.var 3,.op .len Kg [.op .ix Kg [.var 0,.cst<|.int 0]]]])] [],
  .ite (.q [0,3,4] []) (.and (.op .lt Kg [.var 3,.op .len Kg [.op .ix Kg [.var 0,.cst (.int 0)]]]) (.op .ge Kg [.var 4,.op .pow Kg [.cst (.int 10),.cst (.int 18)]])) [
   .setI (.q [4] [1]) 0 (.cst<|.int 2) (.op .fdivN Kg [.var 4,.var 1]),
   .ret [] (.op .modN Kg [.mv 4,.mv 1])] [],
  .asg (.q [3,4] []) 5 (.op .modN Kg [.op .mul Kg [.op .add Kg [.op .modN Kg [.var 4,.cst<|.int 1000003],.cst<|.int 1],.op .add Kg [.op .add Kg [.op .mul Kg [.op .mul Kg [.cst<|.int 7919,.var 3],.var 3],.op .mul Kg [.cst<|.int 104729,.var 3]],.cst<|.int 12345]],.cst<|.int 2147483647]),
  .asg (.q [3,4] [5]) 5 (.op .modN Kg [.op .add Kg [.op .add Kg [.op .mul Kg [.var 5,.var 5],.op .mul Kg [.cst<|.int 48271,.var 3]],.op .modN Kg [.var 4,.cst<|.int 65537]],.cst<|.int 2147483629]),
  .ret [] (.op .modN Kg [.op .fdivN Kg [.mv 5,.cst<|.int 8],.mv 1])]}
noncomputable def f_law_waits:Fn:={ps:=1,ns:=10,io:=[0],body:=[
  .asg (.l []) 1 (.op .ix Kg [.lst Kg [.cst<|.int 0,.cst<|.int 1,.cst<|.int 2,.cst<|.int 3,.cst<|.int 4,.cst<|.int 5,.cst<|.int 6,.cst<|.int 7,.cst<|.int 8,.cst<|.int 9,.cst<|.int 10,.cst<|.int 12],.call 201 [.io 0,.cst<|.int 12]]),
  .asg (.q [] [1]) 2 (.op .rng Kg [.cst<|.int 0,.var 1]),
  .asg (.q [] []) 3 (.lst Kg []),
  .asg (.q [] []) 4 (.op .dnew Kg []),
  .asg (.l []) 5 (.op .add Kg [.cst<|.int 2,.call 201 [.io 0,.cst<|.int 4]]),
  .forS [] [1] .rng [.var 1] [6] [
   .asg (.l []) 7 (.popN 2<|.call 201 [.io 0,.lenV 2]),
   .setS (.l [7]) 4 (.var 7) (.op .sorted Kg [.compV Kh 3 10 (.op .eq Kg [.call 201 [.io 0,.var 5],.cst<|.int 0])<|.var 10]),
   .app (.q [7] []) 3 (.var 7)],
  .asg (.q [] []) 8 (.lst Kg []),
  .forS [] [1] .rng [.var 1] [6] [
   .asg (.l []) 9 (.op .ix Kg [.lst Kg [.cst<|.int 1,.op .add Kg [.cst<|.int 1,.call 201 [.io 0,.cst<|.int 4]],.op .add Kg [.cst<|.int 1,.call 201 [.io 0,.cst<|.int 9]],.op .add Kg [.cst<|.int 20,.call 201 [.io 0,.cst<|.int 40]]],.op .fdiv Kg [.op .mul Kg [.call 201 [.io 0,.cst<|.int 8],.cst<|.int 4],.cst<|.int 8]]),
   .app (.q [4,9] [6]) 8 (.tup [.tup [.op .fdiv Kg [.var 6,.cst<|.int 3],.op .mod Kg [.var 6,.cst<|.int 3]],.tup [],.var 9,.op .ixD Kg [.var 4,.var 6]])],
  .ret [] (.mv 8)]}
noncomputable def b5:Fn:={ps:=1,ns:=0,io:=[0],body:=[
  .ret [] (.op .ix Kg [.lst Kg [.cst<|.int 1,.cst<|.int 20,.op .add Kg [.cst<|.int 1,.call 201 [.io 0,.cst<|.int 4]],.op .add Kg [.cst<|.int 1,.call 201 [.io 0,.cst<|.int 20]]],.call 201 [.io 0,.cst<|.int 4]])]}
noncomputable def c9:Fn:={ps:=2,ns:=2,io:=[],body:=[
  .ret [0,1] (.comp Kh .rng [.op .len Kg [.var 0]] [2] (O<|.and (.op .gt Kg [.op .ix Kg [.var 1,.var 2],.cst<|.int 0])<|.op .eq Kg [.comp Kg .seq [.op .ix Kg [.op .ix Kg [.var 0,.var 2],.cst<|.int 3]] [3] (O<|.op .gt Kg [.op .ix Kg [.var 1,.var 3],.cst<|.int 0])<|.var 3,.lst Kg []])<|.var 2)]}
noncomputable def cj:Fn:={ps:=1,ns:=0,io:=[],body:=[
  .ret [0] (.and (.op (.isI ["int"]) Kg [.var 0])<|.not<|.op (.isI ["bool"]) Kg [.var 0])]}
noncomputable def bF:Fn:={ps:=2,ns:=0,io:=[],body:=[
  .ite (.q [1] []) (.or (.not (.op (.isI ["tuple"]) Kg [.var 1])) (.op .ne Kg [.op .len Kg [.var 1],.cst (.int 2)])) [
   .ret [] (.cst<|.bl Kg)] [],
  .ret [1] (.and (.call 272 [.op .ix Kg [.var 1,.cst<|.int 0]])<|.and (.call 272 [.op .ix Kg [.var 1,.cst<|.int 1]])<|.and (.op .le Kg [.cst<|.int 0,.op .ix Kg [.var 1,.cst<|.int 0]])<|.and (.op .lt Kg [.op .ix Kg [.var 1,.cst<|.int 0],.mv 0])<|.op .gt Kg [.op .ix Kg [.var 1,.cst<|.int 1],.cst<|.int 0])]}
noncomputable def bj:Fn:={ps:=3,ns:=13,io:=[],body:=[
  .ite (.q [2] []) (.not (.op (.isI ["list"]) Kg [.var 2])) [
   .ret [] (.cst<|.bl Kg)] [],
  .asg (.q [0] []) 3 (.comp Kh .seq [.var 0] [13] J<|.lst Kh []),
  .asg (.q [0] []) 4 (.comp Kg .seq [.var 0] [14] J<|.cst<|.int 0),
  .forS [2] [] .enm [.var 2] [5,6] [
   .ite (.q [6] []) (.not (.op (.isI ["list"]) Kg [.var 6])) [
    .ret [] (.cst<|.bl Kg)] [],
   .asg (.q [] []) 7 (.op .neg Kg [.cst<|.int 1]),
   .asg (.q [] []) 8 (.cst<|.int 0),
   .forS [6] [] .seq [.var 6] [9] [
    .ite (.q [0,7,9] []) (.or (.not (.call 303 [.op .len Kg [.var 0],.var 9])) (.op .le Kg [.op .ix Kg [.var 9,.cst (.int 0)],.var 7])) [
     .ret [] (.cst<|.bl Kg)] [],
    .asg (.q [9] []) 7 (.op .ix Kg [.var 9,.cst<|.int 0]),
    .asg (.q [8,9] []) 8 (.op .add Kg [.var 8,.op .ix Kg [.var 9,.cst<|.int 1]]),
    .apN 3 7 5,
    .setI (.q [4,7,9] []) 4 (.var 7) (.op .add Kg [.op .ix Kg [.var 4,.var 7],.op .ix Kg [.var 9,.cst<|.int 1]])],
   .ite (.q [1,8] []) (.op .gt Kg [.var 8,.var 1]) [
    .ret [] (.cst<|.bl Kg)] []],
  .ite (.q [0,4] []) (.op .ne Kg [.var 4,.comp Kg .seq [.var 0] [15] J (.op .ix Kg [.var 15,.cst (.int 2)])]) [
   .ret [] (.cst<|.bl Kg)] [],
  .forS [0] [] .enm [.var 0] [10,11] [
   .forS [11] [] .seq [.op .ix Kg [.var 11,.cst (.int 3)]] [12] [
    .ite (.q [3,12] [10]) (.op .le Kg [.op .ix Kg [.op .ix Kg [.var 3,.var 10],.cst (.int 0)],.op .ix Kg [.op .ix Kg [.var 3,.var 12],.op .neg Kg [.cst (.int 1)]]]) [
     .ret [] (.cst<|.bl Kg)] []]],
  .ret [] (.cst<|.bl Kh)]}
noncomputable def aV:Fn:={ps:=3,ns:=9,io:=[0],body:=[
  .asg (.q [1] []) 3 (.comp Kg .seq [.var 1] [11] J<|.op .ix Kg [.var 11,.cst<|.int 2]),
  .asg (.q [] []) 4 (.lst Kg []),
  .whl (.q [3] []) (.op .gt Kg [.op .sum Kg [.var 3],.cst (.int 0)]) [
   .asg (.q [2] []) 5 (.var 2),
   .asg (.q [] []) 6 (.lst Kg []),
   .asg (.q [1,3] []) 7 (.call 308 [.var 1,.var 3]),
   .asg (.l []) 8 (.call 201 [.io 0,.cst<|.int 3]),
   .forS [7] [] .seq [.var 7] [9] [
    .asg (.q [3,5,9] []) 10 (.op .min Kg [.var 5,.op .ix Kg [.var 3,.var 9]]),
    .ite (.l [7,9]) (.and (.op .gt Kg [.var 10,.cst (.int 0)]) (.or (.op .lt Kg [.var 8,.cst (.int 2)]) (.or (.op .eq Kg [.var 9,.op .ix Kg [.var 7,.op .neg Kg [.cst (.int 1)]]]) (.op .eq Kg [.call 201 [.io 0,.cst (.int 2)],.cst (.int 0)])))) [
     .ite (.q [] [8]) (.op .eq Kg [.var 8,.cst (.int 1)]) [
      .asg (.l []) 10 (.op .add Kg [.cst<|.int 1,.call 201 [.io 0,.var 10]])] [],
     .app (.q [9] [10]) 6 (.tup [.var 9,.var 10]),
     .asg (.q [5] [10]) 5 (.op .sub Kg [.var 5,.var 10])] []],
   .forS [6] [] .sq2 [.var 6] [9,10] [
    .setI (.q [3,9] [10]) 3 (.var 9) (.op .sub Kg [.op .ix Kg [.var 3,.var 9],.var 10])],
   .app (.q [6] []) 4 (.var 6)],
  .ret [] (.mv 4)]}
noncomputable def bB:Fn:={ps:=1,ns:=6,io:=[],body:=[
  .asg (.q [0] []) 1 (.comp Kg .seq [.var 0] [6] J<|.cst<|.int 1),
  .forS [0] [] .rng [.op .len Kg [.var 0]] [2] [
   .forS [0] [] .enm [.var 0] [3,4] [
    .forS [4] [] .seq [.op .ix Kg [.var 4,.cst (.int 3)]] [5] [
     .setI (.q [1,5] [3]) 1 (.var 3) (.op .max Kg [.op .ix Kg [.var 1,.var 3],.op .add Kg [.op .ix Kg [.var 1,.var 5],.cst<|.int 1]])]]],
  .ret [] (.op .max1 Kg [.op .add Kg [.lst Kg [.cst<|.int 0],.mv 1]])]}
noncomputable def pU:Fn:={ps:=1,ns:=10,io:=[],body:=[
  .asg (.q [0] []) 1 (.call 179 [.var 0]),
  .forS [] [] .rng [.cst (.int 3)] [2] [
   .asg (.l []) 3 (.call 278 [.io 1]),
   .asg (.l [3]) 4 (.call 279 [.io 1]),
   .asg (.q [3] []) 5 (.op .sum Kg [.comp Kg .seq [.var 3] [10] J<|.op .ix Kg [.var 10,.cst<|.int 2]]),
   .asg (.q [3,4] []) 6 (.call 310 [.var 3,.var 4]),
   .asg (.q [3,4] []) 7 (.call 266 [.var 3,.var 4,.call 294 [.var 3,.var 4]]),
   .ite (.q [3,4,6] []) (.not (.call 358 [.var 3,.var 4,.var 6])) [
    .ret [] (.cst<|.bl Kg)] [],
   .ite (.q [3,4,6,7] []) (.or (.op .isnB Kg [.call 356 [.var 3,.var 4,.var 6],.cst (.bl Kh)]) (.not (.call 272 [.var 7]))) [
    .ret [] (.cst<|.bl Kg)] [],
   .asg (.q [3,4] [5]) 8 (.op .add Kg [.op .fdiv Kg [.op .sub Kg [.op .add Kg [.var 5,.var 4],.cst<|.int 1],.var 4],.call 286 [.var 3]]),
   .ite (.q [6,7,8] []) (.or (.op .lt Kg [.op .len Kg [.var 6],.var 7]) (.op .gt Kg [.op .len Kg [.var 6],.var 8])) [
    .ret [] (.cst<|.bl Kg)] [],
   .asg (.l [3,4]) 9 (.call 359 [.io 1,.var 3,.var 4]),
   .ite (.q [6,7,9] []) (.or (.op .lt Kg [.op .len Kg [.var 9],.var 7]) (.op .lt Kg [.op .mul Kg [.cst (.int 2),.op .len Kg [.var 9]],.op .len Kg [.var 6]])) [
    .ret [] (.cst<|.bl Kg)] [],
   .ite (.q [3] [5]) (.op .ne Kg [.op .len Kg [.call 310 [.var 3,.cst (.int 1)]],.var 5]) [
    .ret [] (.cst<|.bl Kg)] []],
  .ret [] (.cst<|.bl Kh)]}
noncomputable def prog:U Fn:=[pU,zf,zf,zf,zf,zf,zf,zf,zf,zf,zf,zf,zf,zf,zf,zf,zf,zf,zf,zf,zf,zf,zf,zf,zf,zf,zf,zf,zf,zf,zf,zf,zf,zf,zf,zf,zf,zf,zf,zf,zf,zf,zf,zf,zf,zf,zf,zf,zf,zf,zf,zf,zf,zf,zf,zf,zf,zf,zf,zf,zf,zf,zf,zf,zf,zf,zf,zf,zf,zf,zf,zf,zf,zf,zf,zf,zf,zf,zf,zf,zf,zf,zf,zf,zf,zf,zf,zf,zf,zf,zf,zf,zf,zf,zf,zf,zf,zf,zf,zf,zf,zf,zf,zf,zf,zf,zf,zf,zf,zf,zf,zf,zf,zf,zf,zf,zf,zf,zf,zf,zf,zf,zf,zf,zf,zf,zf,zf,zf,zf,zf,zf,zf,zf,zf,zf,zf,zf,zf,zf,zf,zf,zf,zf,zf,zf,zf,zf,zf,zf,zf,zf,zf,zf,zf,zf,zf,zf,zf,zf,zf,zf,zf,zf,zf,zf,zf,zf,zf,zf,zf,zf,zf,zf,zf,zf,zf,zf,zf,cN,zf,zf,zf,zf,zf,zf,zf,zf,zf,zf,zf,zf,zf,zf,zf,zf,zf,zf,zf,zf,zf,bW,zf,zf,zf,zf,zf,zf,zf,zf,zf,zf,zf,zf,zf,zf,zf,zf,zf,zf,zf,zf,zf,zf,zf,zf,zf,zf,zf,zf,zf,zf,zf,zf,zf,zf,zf,zf,zf,zf,zf,zf,zf,zf,zf,zf,zf,zf,zf,zf,zf,zf,zf,zf,zf,zf,zf,zf,zf,zf,zf,zf,zf,aQ,bb,bE,bf,aY,ai,zf,zf,zf,cj,zf,zf,zf,zf,zf,f_law_waits,b5,zf,zf,zf,zf,zf,zf,bB,zf,zf,zf,bw,zf,zf,zf,eG,bD,cK,zf,zf,bC,zf,zf,cO,bF,zf,zf,zf,zf,c9,zf,b7,gY,zf,zf,zf,zf,zf,zf,zf,zf,zf,zf,zf,zf,zf,zf,zf,zf,zf,zf,zf,zf,zf,zf,zf,zf,zf,zf,zf,zf,zf,zf,zf,zf,zf,zf,zf,zf,zf,zf,zf,zf,zf,zf,zf,zf,bo,da,bj,aV]
end A78

set_option compiler.extract_closed false
namespace P78
section
open M A78
open PySem (Str)
local macro_rules
 | `(tactic| simp_all only [$ls,*])=>`(tactic| simp only [Eh,BU,EF,ED,DE,Ej,yh,AF,xD,yA,yV,x8,xU,Ar,yQ,Ae,yW,yH,zr,zF,AS,AE,xP,zR,tM,qi,zV,su,vW,xS,yn,zo,yG,wt,xi,kOp,rB,kOr,rO,kC3,kC2,kC1,qj,mQ,dE,bJ,cw,je,fB,mn,qO,pO,c6,kX,kT,kT2,kIf,Ad,uC,xk,AX,uA,kNx,kRt,lY,yk,uP,okW,then',iM,aK,ag,ios,putAll,C2,Jk,CC,D5,B7,CJ,Cs,CS,DO,GR,GH,Ha,HR,HQ,GB,HB,u9,uL,ui,uU,C4,xE,zX,xo,vn,Fw,tI,sU,uk,CA,CZ,CY,DG,Ei,BP,uu,EM,tH,vR,Bc,F9,Eu,BI,EC,CM,IB,Kc,Ja,Ji,Hb,GF,D3,BN,E5,Fi,yu,F3,GS,DY,Er,Dk,Dh,vL,GX,vH,zw,zv,AM,xy,Em,CT,tP,iV,Ec,BR,BS,Et,BJ,Ic,wH,vA,Ex,B6,at0,at1,at2,at3,P8,Lq,La,K2,Nh,Mj,List.replicate_zero,reduceIte,if_true,if_false,String.reduceBEq,Qn,Bool.not_false,QV,Bool.and_self,MX,OX,yR,kIo,BZ,EE,qU,tq,sd,rZ,v9,oi,km,nP,oI,va,vp,D9,Bj,HI,Hy,Hx,xT,zN,yS,D7,DR,sE,xl,Be,HU,IM,Gh,HX,E2,FU,FP,Hm,Gn,Gf,Ii,I9,zp,EG,FZ,oO,i3,ik,nM,pQ,oK,lH,kV1,kV2,pd,En,jt,CH,nL,$ls,*])
abbrev C (n:Y):Call:=callR prog 1000000 1000001 n
theorem lW (n:Y)(a:U W):C (n+1) 179 a=runF (C n) cN a:=rfl
theorem mY (n:Y)(a:U W):C (n+1) 201 a=runF (C n) bW a:=rfl
theorem iQ (n:Y)(a:U W):C (n+1) 263 a=runF (C n) aQ a:=rfl
theorem n9 (n:Y)(a:U W):C (n+1) 264 a=runF (C n) bb a:=rfl
theorem iY (n:Y)(a:U W):C (n+1) 265 a=runF (C n) bE a:=rfl
theorem tF (n:Y)(a:U W):C (n+1) 266 a=runF (C n) bf a:=rfl
theorem fh (n:Y)(a:U W):C (n+1) 267 a=runF (C n) aY a:=rfl
theorem aM (n:Y)(a:U W):C (n+1) 268 a=runF (C n) ai a:=rfl
theorem kH (n:Y)(a:U W):C (n+1) 272 a=runF (C n) cj a:=rfl
theorem kQ (n:Y)(a:U W):C (n+1) 278 a=runF (C n) f_law_waits a:=rfl
theorem lb (n:Y)(a:U W):C (n+1) 279 a=runF (C n) b5 a:=rfl
theorem iD (n:Y)(a:U W):C (n+1) 286 a=runF (C n) bB a:=rfl
theorem gD (n:Y)(a:U W):C (n+1) 290 a=runF (C n) bw a:=rfl
theorem xf (n:Y)(a:U W):C (n+1) 294 a=runF (C n) eG a:=rfl
theorem hU (n:Y)(a:U W):C (n+1) 295 a=runF (C n) bD a:=rfl
theorem nB (n:Y)(a:U W):C (n+1) 296 a=runF (C n) cK a:=rfl
theorem ir (n:Y)(a:U W):C (n+1) 299 a=runF (C n) bC a:=rfl
theorem lz (n:Y)(a:U W):C (n+1) 302 a=runF (C n) cO a:=rfl
theorem i8 (n:Y)(a:U W):C (n+1) 303 a=runF (C n) bF a:=rfl
theorem oW (n:Y)(a:U W):C (n+1) 308 a=runF (C n) c9 a:=rfl
theorem kl (n:Y)(a:U W):C (n+1) 310 a=runF (C n) b7 a:=rfl
theorem zu (n:Y)(a:U W):C (n+1) 311 a=runF (C n) gY a:=rfl
theorem gB (n:Y)(a:U W):C (n+1) 356 a=runF (C n) bo a:=rfl
theorem ou (n:Y)(a:U W):C (n+1) 357 a=runF (C n) da a:=rfl
theorem gp (n:Y)(a:U W):C (n+1) 358 a=runF (C n) bj a:=rfl
theorem eQ (n:Y)(a:U W):C (n+1) 359 a=runF (C n) aV a:=rfl
def oA (a:U Int)(x y:Int):T:=.lst [.lst<|a.map T.int,.int x,.int y]
def Tp (N:Y)(t:T):Prop:=∃a x y,t=oA a ((x:Y):Int) y/\x<=N
theorem tm {a b:Y}{t:T}(h:Tp a t)(c:a<=b):Tp b t:=by obtain⟨d,x,y,e,hx⟩:=h;exact⟨d,x,y,e,K0 hx c⟩
theorem Dw {d:Type}(a b c:d):ixN [a,b,c].length 1=O 1:=rfl
theorem DK {d:Type}(a b c:d):ixN [a,b,c].length 2=O 2:=rfl
theorem oq:oSem .pow Kg [(.d,.int 10),(.d,.int 18)]=O (.d,.int 1000000000000000000):=rfl
theorem FO {b:U Int}{x:Int}(hx:0<=x)(h:b≠[]):∃c,atI (b.map T.int) (x.fmod ((b.map T.int).length:Int))=O (.int c):=by
 have k:0<b.length:=O7.mpr h;have e:((b.map T.int).length:Int)=(b.length:Int):=by rw[Kr]
 rw[e,PD x<|by lia];have f:0<=x % (b.length:Int):=PZ _ (by lia);have i:x % (b.length:Int)<b.length:=QU _ (by lia);obtain⟨a,g⟩:∃a:Y,x % (b.length:Int)=a:=⟨_,(NT f).symm⟩;have d:a<b.length:=by lia
 exact⟨b[a],atN g<|by rw[KY,KN d];rfl⟩
theorem fm {a k:Int}(hk:0<k):0<=a.fmod k/\a.fmod k<k:=by rw[PD a<|by lia];exact⟨PZ _<|by lia,QU _ hk⟩
theorem eS {n N:Y}{t:T}(m:Md)(k:Int)(Z:Tp N t)(hN:N<1000000000000000000)(hk:0<k)(P:k<1000000000000000000):
  ∃r w,0<=r/\r<k/\Tp (N+1) w/\C (n+1) 201 [(.d,t),(m,.int k)]=.ok ((.d,.int r),[(.d,w)]):=by
 obtain⟨b,x,y,rfl,hx⟩:=Z;have f:(k != 0)=true:=bne_iff_ne.mpr (by lia);have g:decide (k.natAbs<18446744073709551616)=true:=RI (by lia);rw[mY,x_run _ _ _ rfl];cases u:decide (0<y) with
 |true=>refine⟨y.fmod k,oA b ((x:Y):Int)<|y.fdiv k,(fm hk).1,(fm hk).2,⟨b,x,_,rfl,by lia⟩,?_⟩;simp_all only[bW,oA,u,f,g,Dw,DK,Po,Pn]
 | false =>
  simp_all only[bW,oA,u,Dw,DK,Po,Pn];generalize L:onF _ _ _ _=e
  obtain⟨c,rfl⟩:∃c:Int,e=.nx [O (Md.d,T.lst [T.lst (Oc T.int b),T.int ((x:Y)+1),T.int y]),O (m,T.int k),J,O (Md.d,T.int x),O (Md.d,T.int c),J]:=by
   rw[<- L];by_cases i:b=[]
   .subst i;exact⟨0,rfl⟩
   .obtain ⟨c,M⟩:=FO (x:=(x:Int)) (by lia) i;have hp:decide (0<((Oc T.int b).length:Int))=true:=RI (by rw[Kr];have:=O7.mpr i;lia);have Q:(((Oc T.int b).length:Int) != 0)=true:=bne_iff_ne.mpr (by have:=R3 hp;lia);refine⟨c,?_⟩;simp_all only[hp,Q,M]
  have z:decide ((x:Int).natAbs<18446744073709551616)=true:=RI (by lia);have cb:∀a:Int,decide ((a.fmod 1000003+1).natAbs<18446744073709551616)=true:=λa=>RI (by have:=fm (a:=a) (show(0:Int)<1000003 by decide);lia);have v:∀a:Int,decide ((a.fmod 2147483647).natAbs<18446744073709551616)=true:=λa=>RI (by have:=fm (a:=a) (show(0:Int)<2147483647 by decide);lia);have l:decide ((7919:Int).natAbs<18446744073709551616)=true:=rfl;have o:decide ((104729:Int).natAbs<18446744073709551616)=true:=rfl;have p:decide ((48271:Int).natAbs<18446744073709551616)=true:=rfl;have A:((1000003:Int) != 0)=true:=rfl;have D:((2147483647:Int) != 0)=true:=rfl;have F:((65537:Int) != 0)=true:=rfl;have G:((2147483629:Int) != 0)=true:=rfl;have H:((8:Int) != 0)=true:=rfl;have I:decide ((8:Int).natAbs<18446744073709551616)=true:=rfl;cases h:decide ((x:Int)<((Oc T.int b).length:Int)) with
  |false=>simp_all only[h,f,g,oq,z,cb,v,l,o,p,A,D,F,G,H,I,O6,O4];exact⟨_,_,(fm hk).1,(fm hk).2,⟨b,x+1,y,rfl,by lia⟩,rfl⟩
  | true =>
   cases s:decide (1000000000000000000<=c) with
   |false=>simp_all only[h,s,f,g,oq,z,cb,v,l,o,p,A,D,F,G,H,I,O6,O4];exact⟨_,_,(fm hk).1,(fm hk).2,⟨b,x+1,y,rfl,by lia⟩,rfl⟩
   |true=>simp_all only[h,s,f,g,oq,Dw,DK,Po,Pn];exact⟨_,_,(fm hk).1,(fm hk).2,⟨b,x+1,c.fdiv k,rfl,by lia⟩,rfl⟩
theorem ax {b:Type}(f:b->Md)(g:b->T):∀a:U b,aK (a.map λx=>(f x,g x))=a.map g
|[]=>rfl
|x::a=>by show g x::aK _=g x::a.map g;rw[ax f g a]
theorem eU:∀bs:U RN,boolsOf (bs.map T.bl)=O bs
|[]=>rfl
|b::bs=>by show(boolsOf<|bs.map T.bl).map (b::·)=_;rw[eU bs];rfl
theorem bT {b:Type}(g:b->RN)(a:U b):aK (a.map λt=>((.d,.bl<|g t):W))=(a.map g).map T.bl:=by rw[ax (λ_=>Md.d) λu=>T.bl<|g u,Lh];rfl
theorem Gv (i:Int):(["int"].any λc=>isOne c<|T.int i)=true:=rfl
theorem IE:(["int"].any λc=>isOne c T.non)=false:=rfl
theorem IC (x:Str):(["int"].any λc=>isOne c<|T.str x)=false:=rfl
theorem Je (a:U T):(["int"].any λc=>isOne c<|T.tup a)=false:=rfl
theorem Ir (a:U T):(["int"].any λc=>isOne c<|T.lst a)=false:=rfl
theorem Fo (i:Int):(["bool"].any λc=>isOne c<|T.int i)=false:=rfl
theorem IA (b:RN):(["bool"].any λc=>isOne c<|T.bl b)=true:=rfl
theorem JH:(["bool"].any λc=>isOne c T.non)=false:=rfl
theorem IF (x:Str):(["bool"].any λc=>isOne c<|T.str x)=false:=rfl
theorem Iy (a:U T):(["bool"].any λc=>isOne c<|T.tup a)=false:=rfl
theorem J9 (a:U T):(["bool"].any λc=>isOne c<|T.lst a)=false:=rfl
theorem IZ (i:Int):(["list"].any λc=>isOne c<|T.int i)=false:=rfl
theorem Jp (b:RN):(["list"].any λc=>isOne c<|T.bl b)=false:=rfl
theorem Fe:(["list"].any λc=>isOne c T.non)=false:=rfl
theorem Jy (x:Str):(["list"].any λc=>isOne c<|T.str x)=false:=rfl
theorem Fu (a:U T):(["list"].any λc=>isOne c<|T.tup a)=false:=rfl
theorem zG (a:U T):(["list"].any λc=>isOne c<|T.lst a)=true:=rfl
theorem IU (i:Int):(["tuple"].any λc=>isOne c<|T.int i)=false:=rfl
theorem JD (b:RN):(["tuple"].any λc=>isOne c<|T.bl b)=false:=rfl
theorem Gx:(["tuple"].any λc=>isOne c T.non)=false:=rfl
theorem IL (x:Str):(["tuple"].any λc=>isOne c<|T.str x)=false:=rfl
theorem lA (a:U T):(["tuple"].any λc=>isOne c<|T.tup a)=true:=rfl
theorem J0 (a:U T):(["tuple"].any λc=>isOne c<|T.lst a)=false:=rfl
theorem Gz (i:Int):(["list","tuple"].any λc=>isOne c<|T.int i)=false:=rfl
theorem HJ (x:Str):(["list","tuple"].any λc=>isOne c<|T.str x)=false:=rfl
theorem BE (a:U T):(["list","tuple"].any λc=>isOne c<|T.tup a)=true:=rfl
theorem rOks_all:∀{b:U T},wY b=Kh ↔ ∀t∈b,rOk t=Kh
|[]=>⟨(λ_ _ h=>nomatch h),λ_=>rfl⟩
| t::b=>by
 show(rOk t&&wY b)=Kh ↔ _;rw[KS,rOks_all];constructor
 .rintro ⟨c,d⟩ u a;rcases KD.mp a with rfl|a
  .exact c
  .exact d u a
 .exactλh=>⟨h t Ku,λu a=>h u<|Kw _ a⟩
theorem aU {l:Type}{tg:U Y}{f:Env->Fl}{g:l->U W}(I:U l->Env->Prop):∀(i pre:U l) (a:Env),I pre a->(∀p x r a,pre++i=p++x::r->I p a->∃c d,bA tg (g x) a=O c/\f c=.nx d/\I (p++[x]) d) ->
 ∃b,aS tg f (i.map g) a=.nx b/\I (pre++i) b
|[],pre,a,h,_=>⟨a,rfl,by rw[La];exact h⟩
|x::i,pre,a,h,k=>by obtain⟨c,d,n,o,s⟩:=k pre x i a rfl h;obtain⟨b,e,m⟩:=aU I i (pre++[x]) d s λp y r a e=>k p y r a (by rw[<- e,Ll];rfl);refine⟨b,?_,by rw[Ll] at m;exact m⟩;rw[K2];show Fl.of _ (ofO<|bA tg (g x) a) _=_;rw[n];show Fl.turn (f c) _=_;rw[o];exact e
theorem qJ (C:Call):∀(a b:U S) (c:Env),evSs C (a++b) c=(evSs C a c).seq (evSs C b)
|[],b,c=>rfl
|s::a,b,c=>by show(evS C s c).seq (evSs C<|a++b)=((evS C s c).seq<|evSs C a).seq (evSs C b);cases evS C s c<;>first|rfl|exact qJ C a b _
theorem go1 {C:Call}{a b:U S}{d c:Env}(h:evSs C a d=.nx c):evSs C (a++b) d=evSs C b c:=by rw[qJ,h];rfl
abbrev Bk (f:Fn)(i a:Y):U S:=(f.body.drop i).take a
theorem mG {x y:Int}:∀{l:U Int},y∈insI x l->y=x\/y∈l
|[],h=>.inl<|K1.mp h
| z::l,h=>by
 unfold insI at h;split at h
 .rcases KD.mp h with e | e
  .exact .inl e
  .exact .inr e
 .rcases KD.mp h with e | e
  .exact .inr (e ▸ Ku)
  .exact(mG e).imp id (Kw _)
theorem l7 (x:Int):∀l:U Int,(insI x l).length=l.length+1
|[]=>rfl
|z::l=>by
 unfold insI;split
 .rfl
 .rw[Kz,l7 x l,Kz]
theorem fZ {y:Int}:∀{l:U Int},y∈sortI l->y∈l
|[],h=>h
|x::l,h=>by
 rcases mG (show y∈insI x (sortI l) from h) with e|e
 .exact e ▸ Ku
 .exact Kw _ (fZ e)
theorem jy:∀l:U Int,(sortI l).length=l.length
|[]=>rfl
|x::l=>by show(insI x<|sortI l).length=_;rw[l7,jy l,Kz]
theorem mq:∀l:U Int,intsOf (l.map T.int)=O l
|[]=>rfl
|i::l=>by show(intsOf<|l.map T.int).map (i::·)=_;rw[mq l];rfl
theorem pH (l:U Int):leaves (l.map T.int)=true:=K5.mpr λt a=>by obtain⟨i,_,rfl⟩:=KG.mp a;rfl
theorem jW:∀(l:U Int) (a:Y),(l.map T.int).eraseIdx a=(l.eraseIdx a).map T.int
|[],_=>rfl
|_::_,0=>rfl
|x::l,a+1=>by show T.int x::(l.map T.int).eraseIdx a=T.int x::(l.eraseIdx a).map T.int;rw[jW l a]
theorem qH:∀(l:U Int) (a:Y) (b:a<l.length),(l[a]::l.eraseIdx a).Perm l
|[],_,h=>nomatch h
|x::l,0,_=>Ou _
|x::l,a+1,h=>(List.Perm.swap x _<|l.eraseIdx a).trans<|(qH l a<|QI h).cons x
theorem DP (l:U Int)(a:Y)(b:a<l.length)(f:a<1000)(n:Md):∃x∈l,(∀y∈l,y=x\/y∈l.eraseIdx a)/\(x::l.eraseIdx a).Perm l/\jC (.d,.lst<|l.map T.int) (n,.int (a:Int))=O ((.d,.int x),(.d,.lst<|(l.eraseIdx a).map T.int)):=by
 refine⟨l[a],NX b,λy c=>?_,qH l a b,?_⟩
 .obtain ⟨k,hk,rfl⟩:=NO.mp c;by_cases e:k=a
  .exact .inl (by subst e;rfl)
  .exact .inr (List.mem_eraseIdx_iff_getElem.mpr ⟨k,hk,e,rfl⟩)
 .show (if (decide ((0:Int)<=(a:Int))&&decide ((a:Int)<1000)&&leaves (l.map T.int))=Kh then ((l.map T.int)[(a:Int).toNat]?).map (fun t=>(((.d,t),(.d,.lst<|(l.map T.int).eraseIdx (a:Int).toNat)):W×W)) else J)=_;rw[RI<|by lia,RI<|by lia,pH,Lz,KY,KN b,jW];rfl
theorem xr {P:T->Prop}(q:Int ⊕ Str)(t:T)(l:P t):∀(k:U<|Int ⊕ Str) (i:U T),i.length=k.length->(∀v∈i,P v)->(aX q t k i).2.length=(aX q t k i).1.length/\(aX q t k i).1.length<=k.length+1/\(∀v∈(aX q t k i).2,P v)/\(∀z,z=q\/z∈k->z∈(aX q t k i).1)
|[],[],_,_=>⟨rfl,Kt _,(λv m=>by rw[K1.mp m];exact l),λz f=>f.elim (λe=>e ▸ K1.mpr rfl) λh=>nomatch h⟩
|[],_::_,e,_=>by cases e
|_::_,[],e,_=>by cases e
| y::o,v::i,e,h=>by
 unfold aX;split
 .rename_i n;refine⟨e,Nf _,λu g=>?_,λz f=>?_⟩
  .rcases KD.mp g with rfl | g
   .exact l
   .exact h u (Kw _ g)
  .rcases f with rfl | f
   .rw[n];exact Ku
   .exact f
 .obtain ⟨a,b,c,d⟩:=xr q t l o i (LX e) fun u g=>h u (Kw _ g);refine⟨by rw[Kz,Kz,a],by rw[Kz,Kz];lia,λu g=>?_,λz f=>?_⟩
  .rcases KD.mp g with rfl | g
   .exact h u Ku
   .exact c u g
  .rcases f with rfl | f
   .exact Kw _ (d z<|.inl rfl)
   .rcases KD.mp f with rfl | f
    .exact Ku
    .exact Kw _ (d z<|.inr f)
theorem qI {P:T->Prop}(q:Int ⊕ Str):∀(g:U<|Int ⊕ Str) (c:U T),c.length=g.length->(∀v∈c,P v)->q∈g->∃v,lookD q g c=O v/\P v
|[],_,_,_,h=>nomatch h
|_::_,[],e,_,_=>by cases e
| y::k,v::c,e,h,d=>by
 by_cases f:y=q
 .exact⟨v,RJ f,h v Ku⟩
 .rcases KD.mp d with rfl | d
  .exact RM rfl f
  .obtain ⟨u,a,b⟩:=qI q k c (LX e) (fun u i=>h u<|Kw _ i) d;exact⟨u,(RK f).trans a,b⟩
theorem nu (q z:Int ⊕ Str)(t:T):∀(d:U<|Int ⊕ Str) (a:U T),a.length=d.length->lookD z (aX q t d a).1 (aX q t d a).2=if z=q then O t else lookD z d a
|[],[],_=>by
 show(if q=z then O t else J)=_;by_cases h:q=z
 .rw[RJ h,RJ h.symm]
 .rw[RK h,RK λe=>h e.symm];rfl
|[],_::_,e=>by cases e
|_::_,[],e=>by cases e
| y::b,v::a,e=>by
 unfold aX;split
 .rename_i c;show(if y=z then O t else lookD z b a)=if z=q then O t else if y=z then O v else lookD z b a;by_cases h:z=q
  .rw[RJ h,RJ<|c.trans h.symm]
  .rw[RK h,RK λe=>h<|e.symm.trans c,RK λe=>h<|e.symm.trans c]
 .rename_i c;show(if y=z then O v else lookD z (aX q t b a).1 (aX q t b a).2)=if z=q then O t else if y=z then O v else lookD z b a;rw[nu q z t b a (LX e)];by_cases h:z=q
  .rw[RJ h,RJ h,RK λe=>c<|e.trans h]
  .rw[RK h,RK h]
abbrev CD:E:=.op .eq Kg [.call 201 [.io 0,.var 5],.cst<|.int 0]
theorem GA (n:Y)(c e f g o p u:j W)(a:Md)(k:Int)(hk:0<k)(y:k<100):∀(l:U Int) (N:Y) (t:T),Tp N t->N+l.length<1000000000000000000->∃(H:U W) (rs:U Int) (M:T),H=rs.map (λi=>((.s,.int i):W))/\(∀i∈rs,i∈l)/\rs.length<=l.length/\Tp (N+l.length) M /\
 ∀b,aA [10] (cw (evE (C<|n+1) CD)<|evE (C<|n+1)<|.var 10) (l.map λi=>[((.s,.int i):W)]) [O (.d,t),c,e,J,f,O (a,.int k),g,o,p,u,J] b=.ok (b++H,[O (.d,M),c,e,J,f,O (a,.int k),g,o,p,u,J])
|[],N,t,z,_=>⟨[],[],t,rfl,(λ_ h=>nomatch h),Kt _,z,λb=>by rw[La];rfl⟩
| i::l,N,t,z,P=>by
 rw[Kz] at P;have Q:=λm=>eS (n:=n) (m:=m) k z (by lia) hk (by lia);obtain⟨r,w,_,_,A,e1⟩:=Q<|lkM a;obtain⟨H,rs,G,rfl,I,Z,D,e2⟩:=GA n c e f g o p u a k hk y l (N+1) w A (by lia);have v:Tp (N+(i::l).length) G:=tm D (by rw[Kz];lia);cases L:r==0 with
 | true =>
  refine⟨_,i::rs,G,rfl,λx hx=>?_,by rw[Kz,Kz];lia,v,λb=>?_⟩
  .rcases KD.mp hx with rfl | hx
   .exact Ku
   .exact Kw _ (I x hx)
  .have F:cw (evE (C (n+1)) CD) (evE (C (n+1)) (.var 10)) [O (.d,t),c,e,J,f,O (a,.int k),g,o,p,u,O (.s,.int i)]=.ok (O (.s,.int i),[O (.d,w),c,e,J,f,O (a,.int k),g,o,p,u,O (.s,.int i)]):=by simp_all only[cw,e1,L]
   rw[K2];show(cw _ _ _).bind _=_;rw[show put [O ((.d,t):W),c,e,J,f,O (a,.int k),g,o,p,u,J] 10 (.s,.int i)=[O (.d,t),c,e,J,f,O (a,.int k),g,o,p,u,O (.s,.int i)] from rfl,F];show aA [10] _ _ _ (b++[((.s,.int i):W)])=_;rw[show ag [10] [O ((.d,w):W),c,e,J,f,O (a,.int k),g,o,p,u,O (.s,.int i)]=[O (.d,w),c,e,J,f,O (a,.int k),g,o,p,u,J] from rfl,e2,Ll];rfl
 | false =>
  refine⟨_,rs,G,rfl,λx hx=>Kw _<|I x hx,by rw[Kz];lia,v,λb=>?_⟩;have F:cw (evE (C (n+1)) CD) (evE (C (n+1)) (.var 10)) [O (.d,t),c,e,J,f,O (a,.int k),g,o,p,u,O (.s,.int i)]=.ok (J,[O (.d,w),c,e,J,f,O (a,.int k),g,o,p,u,O (.s,.int i)]):=by simp_all only[cw,e1,L]
  rw[K2];show(cw _ _ _).bind _=_;rw[show put [O ((.d,t):W),c,e,J,f,O (a,.int k),g,o,p,u,J] 10 (.s,.int i)=[O (.d,t),c,e,J,f,O (a,.int k),g,o,p,u,O (.s,.int i)] from rfl,F];show aA [10] _ _ _ (b++[])=_;rw[show ag [10] [O ((.d,w):W),c,e,J,f,O (a,.int k),g,o,p,u,O (.s,.int i)]=[O (.d,w),c,e,J,f,O (a,.int k),g,o,p,u,J] from rfl,e2,La]
def kR (n:Y)(t:T):Prop:=∃a:U Int,t=.lst (a.map T.int)/\(∀x∈a,0<=x/\x<(n:Int))/\a.length<=12
abbrev WB1:U S:=[
   .asg (.l []) 7 (.popN 2<|.call 201 [.io 0,.lenV 2]),
   .setS (.l [7]) 4 (.var 7) (.op .sorted Kg [.compV Kh 3 10 CD<|.var 10]),
   .app (.q [7] []) 3 (.var 7)]
theorem pC (rs:U Int):(rs.map λi=>((.s,.int i):W)).all okD=true:=K5.mpr λw a=>by obtain⟨i,_,rfl⟩:=KG.mp a;rfl
theorem xQ (rs:U Int):aK (rs.map λi=>((.s,.int i):W))=rs.map T.int:=ax (λ_=>Md.s) T.int rs
theorem y9 (n L N:Y)(t:T)(ht:Tp N t)(hN:N+50<1000000000000000000)(hn:n<=12)(l tu:U Int)(hl:1<=l.length)(hl2:l.length<=12)(hl3:∀x∈l,0<=x/\x<(n:Int))(htu:tu.length<=12)(D:∀x∈tu,0<=x/\x<(n:Int))(b:U<|Int ⊕ Str)(f:U T)(hk:f.length=b.length)(hk2:b.length<=12)(hv:∀v∈f,kR n v)(w:Md)(Q:w≠.s)(k:Int)(I:0<k)(M:k<100)(g h o7:j W):
  ∃t' x a c e,Tp (N+15) t'/\x∈l/\(∀y∈l,y=x\/y∈l.eraseIdx a)/\(x::l.eraseIdx a).Perm l/\(∃ns:U Int,(∀y∈ns,y∈tu)/\∀z,lookD z c e=if z=.inl x then O (.lst<|ns.map T.int) else lookD z b f)/\a<l.length/\e.length=c.length/\c.length<=b.length+1/\(∀v∈e,kR n v)/\(∀z:Int ⊕ Str,z=.inl x\/z∈b->z∈c) /\
  ∃o7',evSs (C<|L+1) WB1 [O (.d,t),g,O (.d,.lst<|l.map T.int),O (.o .s,.lst<|tu.map T.int),O (w,.dct b f),O (.d,.int k),h,o7,J,J,J]=.nx [O (.d,t'),g,O (.d,.lst<|(l.eraseIdx a).map T.int),O (.o .s,.lst<|(tu++[x]).map T.int),O (.o .s,.dct c e),O (.d,.int k),h,o7',J,J,J]:=by
 obtain⟨r,t1,r0,r1,ht1,e1⟩:=eS (n:=L) .d ((l.length:Y):Int) ht (by lia) (by lia) (by lia);obtain⟨a,rfl⟩:∃a:Y,r=(a:Int):=⟨r.toNat,by lia⟩;obtain⟨x,hx,F,Z,ep⟩:=DP l a (by lia) (by lia) .d;have p:(((l.map T.int).length:Y):Int)=((l.length:Y):Int):=by rw[Kr]
 obtain⟨ws,rs,G,rfl,h2,h3,ht2,e2⟩:=GA L g (O (.d,.lst<|(l.eraseIdx a).map T.int)) (O (w,.dct b f)) h (O (.s,.int x)) J J .d k I M tu (N+1) t1 ht1 (by lia);have em:(tu.map T.int).map (λu=>[((.s,u):W)])=tu.map λi=>[((.s,.int i):W)]:=by rw[Lh];rfl
 have hvw:vwT (O (.o .s,.lst (tu.map T.int)))=O (tu.map T.int):=RJ<|pH tu;have ao:=pC rs;have tr:=xQ rs;have im:=mq rs;have rl:decide (rs.length<64)=true:=RI (by lia);have H:kR n (.lst ((sortI rs).map T.int)):=⟨sortI rs,rfl,λy F=>D y<|h2 y<|fZ F,by rw[jy];lia⟩;obtain⟨p1,p2,p3,p4⟩:=xr (P:=kR n) (.inl x) (.lst<|(sortI rs).map T.int) H b f hk hv;have lk:decide (b.length<LIM)=true:=RI<|by show _<16777215;lia
 have A:∀m m',fw (w,.dct b f) (m,.int x) (m',.lst ((sortI rs).map T.int))=O (.o .s,.dct (aX (.inl x) (.lst ((sortI rs).map T.int)) b f).1 (aX (.inl x) (.lst ((sortI rs).map T.int)) b f).2):=λm m'=>by
  cases w with
  |s=>exact RM rfl Q
  |d=>show(if decide (b.length<LIM)=Kh then _ else J)=_;rw[RJ lk]
  |o _=>show(if decide (b.length<LIM)=Kh then _ else J)=_;rw[RJ lk]
 have lt:((tu.map T.int).length<LIM)=Sv:=eq_true (by rw[Kr];show _<16777215;lia);have ap:tu.map T.int++[T.int x]=(tu++[x]).map T.int:=by rw[LY];rfl
 refine⟨G,x,a,_,_,tm ht2<|by lia,hx,F,Z,⟨sortI rs,λy F=>h2 y<|fZ F,λz=>nu _ z _ b f hk⟩,by lia,p1,p2,p3,p4,?_⟩;generalize (aX (.inl x) (.lst<|(sortI rs).map T.int) b f).1=c at A;generalize (aX (.inl x) (.lst<|(sortI rs).map T.int) b f).2=e at A;have hA:evSs (C (L+1)) [.asg (.l []) 7 (.popN 2 (.call 201 [.io 0,.lenV 2]))] [O (.d,t),g,O (.d,.lst (l.map T.int)),O (.o .s,.lst (tu.map T.int)),O (w,.dct b f),O (.d,.int k),h,o7,J,J,J]=.nx [O (.d,t1),g,O (.d,.lst ((l.eraseIdx a).map T.int)),O (.o .s,.lst (tu.map T.int)),O (w,.dct b f),O (.d,.int k),h,O (.d,.int x),J,J,J]:=by generalize l.map T.int=lt at p ep;simp_all only[p,e1,ep]
 have hB:evSs (C (L+1)) [.setS (.l [7]) 4 (.var 7) (.op .sorted Kg [.compV Kh 3 10 CD (.var 10)])] [O (.d,t1),g,O (.d,.lst ((l.eraseIdx a).map T.int)),O (.o .s,.lst (tu.map T.int)),O (w,.dct b f),O (.d,.int k),h,O (.d,.int x),J,J,J]=.nx [O (.d,G),g,O (.d,.lst ((l.eraseIdx a).map T.int)),O (.o .s,.lst (tu.map T.int)),O (.o .s,.dct c e),O (.d,.int k),h,O (.s,.int x),J,J,J]:=by simp_all only[hvw,em,e2,ao,tr,im,rl,A]
 have hC:evSs (C (L+1)) [.app (.q [7] []) 3 (.var 7)] [O (.d,G),g,O (.d,.lst ((l.eraseIdx a).map T.int)),O (.o .s,.lst (tu.map T.int)),O (.o .s,.dct c e),O (.d,.int k),h,O (.s,.int x),J,J,J]=.nx [O (.d,G),g,O (.d,.lst ((l.eraseIdx a).map T.int)),O (.o .s,.lst ((tu++[x]).map T.int)),O (.o .s,.dct c e),O (.d,.int k),h,O (.s,.int x),J,J,J]:=by rw[<- ap];simp_all only[lt]
 refine⟨O (.s,.int x),?_⟩;show evSs (C<|L+1) ([.asg (.l []) 7<|.popN 2<|.call 201 [.io 0,.lenV 2]]++([.setS (.l [7]) 4 (.var 7)<|.op .sorted Kg [.compV Kh 3 10 CD<|.var 10]]++[.app (.q [7] []) 3<|.var 7])) _=_;rw[go1 hA,go1 hB,hC]
def Rk (a:Int->Y)(c:U<|Int ⊕ Str)(d:U T):Prop:=∀(z:Int) (v:T),lookD (.inl z) c d=O v->a z<13/\∃b:U Int,v=.lst (b.map T.int)/\∀y∈b,a y<a z
def Kd (tu:U Int)(b:U<|Int ⊕ Str)(c:U T):Prop:=∀(z:Int) (v:T),lookD (.inl z) b c=O v->z∈tu/\∃a:U Int,v=.lst (a.map T.int)/\∀y∈a,y∈tu/\tu.idxOf y<tu.idxOf z
theorem yN {tu:U Int}{o g:U<|Int ⊕ Str}{p i:U T}{x:Int}(h:Kd tu o p)(hx:x ∉ tu)(l:U Int)(k:∀y∈l,y∈tu)(e:∀z,lookD z g i=if z=.inl x then O (.lst<|l.map T.int) else lookD z o p):Kd (tu++[x]) g i:=λz v f=>by
 rw[e] at f;by_cases n:z=x
 .subst n;rw[RJ rfl] at f;refine⟨K7 _ Ku,l,(K8 f).symm,λy d=>⟨LU _<|k y d,?_⟩⟩;rw[Oj,RJ<|k y d,Oj,RK hx];have:=Rq<|k y d;lia
 .rw [RK fun e=>n<|Qe e] at f;obtain⟨a,m,b,c⟩:=h z v f;refine⟨LU _ a,m,b,λy d=>⟨LU _ (c y d).1,?_⟩⟩;rw[Oj,RJ (c y d).1,Oj,RJ a];exact(c y d).2
theorem zx (n L N:Y)(t:T)(ht:Tp N t)(hN:N+1000<1000000000000000000)(hn:n<=12)(k:Int)(hk0:0<k)(hk1:k<100)(o1:j W)(P:U Int)(hl0:P.length=n)(hl1:∀x∈P,0<=x/\x<(n:Int))(hl2:∀i:Y,i<n->(i:Int)∈P)(hnd:P.Nodup):
  ∃D w2 w3 H u w Z Q,Tp (N+15 * n) D/\(∃rk,Rk rk u w)/\w.length=u.length/\u.length<=12/\(∀v∈w,kR n v)/\(∀i:Y,i<n->(.inl (i:Int):Int ⊕ Str)∈u) /\
   aS [6] (evSs (C<|L+1) WB1) ((Kq n).map λ(i:Y)=>[((.d,.int (i:Int)):W)]) [O (.d,t),o1,O (.d,.lst<|P.map T.int),O (.o .s,.lst []),O (.d,.dct [] []),O (.d,.int k),J,J,J,J,J]=.nx [O (.d,D),o1,w2,w3,O (H,.dct u w),O (.d,.int k),Z,Q,J,J,J]:=by
 obtain⟨η',lp,D,l,tu,H,u,w,Z,Q,A,F,I,hm4,h1,h2,h3,h4,h5,h6,h7,h8,rfl⟩:=aU (tg:=[6]) (f:=evSs (C<|L+1) WB1) (g:=λ(i:Y)=>[((.d,.int (i:Int)):W)])
  (λpre η=>∃(D:T) (l tu:U Int) (H:Md) (u:U<|Int ⊕ Str) (w:U T) (Z Q:j W),Tp (N+15 * pre.length) D/\(l++tu).Nodup/\Kd tu u w/\H≠.s/\l.length+pre.length=n/\tu.length=pre.length/\w.length=u.length/\u.length<=pre.length/\(∀v∈w,kR n v)/\(∀x∈l,0<=x/\x<(n:Int))/\(∀x∈tu,0<=x/\x<(n:Int))/\(∀i:Y,i<n->(i:Int)∈l\/(.inl (i:Int):Int ⊕ Str)∈u)/\η=[O (.d,D),o1,O (.d,.lst<|l.map T.int),O (.o .s,.lst<|tu.map T.int),O (H,.dct u w),O (.d,.int k),Z,Q,J,J,J])
  (Kq n) [] [O (.d,t),o1,O (.d,.lst<|P.map T.int),O (.o .s,.lst []),O (.d,.dct [] []),O (.d,.int k),J,J,J,J,J]
  ⟨t,P,[],.d,[],[],J,J,ht,by rw[La];exact hnd,(λ_ _ h=>nomatch h),by simp,by simpa using hl0,rfl,rfl,Kt _,(λ_ h=>nomatch h),hl1,(λ_ h=>nomatch h),λi hi=>.inl<|hl2 i hi,rfl⟩
  (by
   rintro p i r η hp ⟨D,l,tu,H,u,w,Z,Q,A,F,I,hm4,h1,h2,h3,h4,h5,h6,h7,h8,he⟩;subst he;have hpl:=RY MH hp;simp only[Lq,K9,KJ,Kz] at hpl;obtain⟨t2,x,m,ks',vs',ht2,hx,M,hpm,⟨ns,hns,hlk⟩,hj,a1,a2,a3,a4,o7',e⟩:=y9 n L _ D A (by lia) hn l tu (by lia) (by lia) h6 (by lia) h7 u w h3 (by lia) h5 H hm4 k hk0 hk1 o1 (O (.d,.int (i:Int))) Q;have G:(x::(l.eraseIdx m++tu)).Nodup:=(Q1<|List.Perm.append_right tu hpm).mpr F;have hxt:x ∉ tu:=λh=>(Le.mp G).1<|K7 _ h;have hnd3:(l.eraseIdx m++(tu++[x])).Nodup:=by rw[<- Ll];exact(Q1<|List.perm_append_singleton _ _).mpr G
   refine⟨_,_,rfl,e,t2,l.eraseIdx m,tu++[x],.o .s,ks',vs',_,o7',?_,hnd3,yN I hxt ns hns hlk,by simp,?_,?_,a1,?_,a3,?_,?_,?_,rfl⟩
   .rw[KJ,Lf];exact tm ht2<|by lia
   .rw[Pz hj,KJ,Lf];lia
   .rw[KJ,KJ,h2];rfl
   .rw[KJ,Lf];lia
   .exactλy M=>h6 y<|List.mem_of_mem_eraseIdx M
   .intro y M;rcases Li.mp M with z|z
    .exact h7 y z
    .rw[K1.mp z];exact h6 x hx
   .intro i hi;rcases h8 i hi with z|z
    .rcases M _ z with q | q
     .exact .inr (a4 _<|.inl<|by rw[q])
     .exact .inl q
    .exact .inr (a4 _<|.inr z))
 rw[Lq,K9] at A h1 h2 h4;have hl:l=[]:=Q9 (by lia);subst hl
 exact⟨D,_,_,H,u,w,Z,Q,A,⟨tu.idxOf,λz v hz=>by
  obtain⟨a,ns,b,c⟩:=I z v hz;have:=Rq a;have:tu.idxOf z<13:=by lia
  exact⟨this,ns,b,λy M=>(c y M).2⟩⟩,h3,by lia,h5,λi hi=>(h8 i hi).elim (λz=>nomatch z) id,lp⟩
def StT (n:Y)(t:T):Prop:=∃(i a:Y) (w:Int) (b:U Int),t=.tup [.tup [.int (i:Int),.int (a:Int)],.tup [],.int w,.lst<|b.map T.int]/\i<=100/\a<=100/\1<=w/\w<=60/\(∀x∈b,0<=x/\x<(n:Int))/\b.length<=12
abbrev WB2:U S:=[
   .asg (.l []) 9 (.op .ix Kg [.lst Kg [.cst<|.int 1,.op .add Kg [.cst<|.int 1,.call 201 [.io 0,.cst<|.int 4]],.op .add Kg [.cst<|.int 1,.call 201 [.io 0,.cst<|.int 9]],.op .add Kg [.cst<|.int 20,.call 201 [.io 0,.cst<|.int 40]]],.op .fdiv Kg [.op .mul Kg [.call 201 [.io 0,.cst<|.int 8],.cst<|.int 4],.cst<|.int 8]]),
   .app (.q [4,9] [6]) 8 (.tup [.tup [.op .fdiv Kg [.var 6,.cst<|.int 3],.op .mod Kg [.var 6,.cst<|.int 3]],.tup [],.var 9,.op .ixD Kg [.var 4,.var 6]])]
def RkT (d:Int->Y)(i:Int)(u:T):Prop:=d i<13/\∃(a b c:T) (e:U Int),u=.tup [a,b,c,.lst<|e.map T.int]/\∀y∈e,d y<d i
theorem ye (n L N:Y)(t:T)(ht:Tp N t)(hN:N+50<1000000000000000000)(hn:n<=12)(i:Y)(hi:i<n)(f:U<|Int ⊕ Str)(g:U T)(hk:g.length=f.length)(hv:∀v∈g,kR n v)(F:(.inl (i:Int):Int ⊕ Str)∈f)(z:Md)(fs:U T)(hf:fs.length<=12)(k p r l m o9:j W):
  ∃t' u e,Tp (N+4) t'/\StT n u/\(∀rk,Rk rk f g->RkT rk (i:Int) u)/\evSs (C<|L+1) WB2 [O (.d,t),k,p,r,O (z,.dct f g),l,O (.d,.int (i:Int)),m,O (.o .s,.lst fs),o9,J]=.nx [O (.d,t'),k,p,r,O (.s,.dct f g),l,O (.d,.int (i:Int)),m,O (.o .s,.lst<|fs++[u]),e,J]:=by
 obtain⟨r1,t1,a1,b1,I,e1⟩:=eS (n:=L) .d 4 ht (by lia) (by decide) (by decide);obtain⟨r2,t2,a2,b2,M,e2⟩:=eS (n:=L) .d 9 I (by lia) (by decide) (by decide);obtain⟨r3,t3,a3,b3,Q,e3⟩:=eS (n:=L) .d 40 M (by lia) (by decide) (by decide);obtain⟨y,A,a4,b4,Z,e4⟩:=eS (n:=L) .d 8 Q (by lia) (by decide)<|by decide
 have hw:∃w:Int,1<=w/\w<=60/\atI [T.int 1,T.int (1+r1),T.int (1+r2),T.int (20+r3)] (y * 4 / 8)=O (.int w):=by
  have h:y * 4 / 8=0\/y * 4 / 8=1\/y * 4 / 8=2\/y * 4 / 8=3:=by lia
  rcases h with h|h|h|h<;>rw[h]
  .exact⟨1,by lia,by lia,rfl⟩
  .exact⟨1+r1,by lia,by lia,rfl⟩
  .exact⟨1+r2,by lia,by lia,rfl⟩
  .exact⟨20+r3,by lia,by lia,rfl⟩
 obtain⟨w,w1,w60,aw⟩:=hw;obtain⟨v,lv,ns,rfl,H,G⟩:=qI (P:=kR n) (.inl (i:Int)) f g hk hv F;have p1:decide ((0:Int)<8)=true:=rfl;have p2:decide ((8:Int)<1073741824)=true:=rfl;have p3:decide ((0:Int)<3)=true:=rfl;have p4:decide ((3:Int)<1073741824)=true:=rfl;have p5:decide ((4:Int).natAbs<18446744073709551616)=true:=rfl;have kT:keyT (.int (i:Int))=O (.inl (i:Int)):=rfl;have q1:(i:Int) / 3=((i / 3:Y):Int):=by lia
 have q2:(i:Int) % 3=((i % 3:Y):Int):=by lia
 have fl:(fs.length<LIM)=Sv:=eq_true (by show _<16777215;lia);have hA:evSs (C (L+1)) (WB2.take 1) [O (.d,t),k,p,r,O (z,.dct f g),l,O (.d,.int (i:Int)),m,O (.o .s,.lst fs),o9,J]=.nx [O (.d,A),k,p,r,O (z,.dct f g),l,O (.d,.int (i:Int)),m,O (.o .s,.lst fs),O (.s,.int w),J]:=by simp_all only[NU,Nz,e1,e2,e3,e4,p1,p2,p5,O4,aw]
 have D:∃e,evSs (C (L+1)) (WB2.drop 1) [O (.d,A),k,p,r,O (z,.dct f g),l,O (.d,.int (i:Int)),m,O (.o .s,.lst fs),O (.s,.int w),J]=.nx [O (.d,A),k,p,r,O (.s,.dct f g),l,O (.d,.int (i:Int)),m,O (.o .s,.lst (fs++[.tup [.tup [.int ((i / 3:Y):Int),.int ((i % 3:Y):Int)],.tup [],.int w,.lst (ns.map T.int)]])),e,J]:=by exact⟨_,by simp_all only[Oq,M0,p3,p4,q1,q2,kT,lv,fl];rfl⟩
 obtain⟨e,D⟩:=D;refine⟨A,_,e,tm Z<|by lia,⟨i / 3,i % 3,w,ns,rfl,by lia,by lia,w1,w60,H,G⟩,λrk hr=>?_,?_⟩
 .obtain ⟨a,x,b,c⟩:=hr _ _ lv;have b:T.lst (ns.map T.int)=T.lst (x.map T.int):=b;exact⟨a,_,_,_,x,by rw[b],c⟩
 show evSs (C<|L+1) (WB2.take 1++WB2.drop 1) _=_;rw[go1 hA,D]
theorem ym (n L N:Y)(t:T)(ht:Tp N t)(hN:N+1000<1000000000000000000)(hn:n<=12)(l:U<|Int ⊕ Str)(w:U T)(hk:w.length=l.length)(hv:∀v∈w,kR n v)(hin:∀i:Y,i<n->(.inl (i:Int):Int ⊕ Str)∈l)(m4:Md)(H P Q I o6 M:j W):
  ∃m fs a b D,Tp (N+4 * n) m/\fs.length=n/\(∀u∈fs,StT n u)/\(∀x,Rk x l w->∀k:Y,k<fs.length->RkT x (k:Int) (fs.getD k .non))/\aS [6] (evSs (C<|L+1) WB2) ((Kq n).map λ(i:Y)=>[((.d,.int (i:Int)):W)]) [O (.d,t),H,P,Q,O (m4,.dct l w),I,o6,M,O (.o .s,.lst []),J,J]=.nx [O (.d,m),H,P,Q,O (a,.dct l w),I,b,M,O (.o .s,.lst fs),D,J]:=by
 obtain⟨η',lp,m,fs,a,b,D,c,F,Z,A,rfl⟩:=aU (tg:=[6]) (f:=evSs (C<|L+1) WB2) (g:=λ(i:Y)=>[((.d,.int (i:Int)):W)])
  (λpre η=>∃(m:T) (fs:U T) (a:Md) (b D:j W),Tp (N+4 * pre.length) m/\fs.length=pre.length/\(∀u∈fs,StT n u)/\(∀x,Rk x l w->∀k:Y,k<fs.length->RkT x (k:Int) (fs.getD k .non))/\η=[O (.d,m),H,P,Q,O (a,.dct l w),I,b,M,O (.o .s,.lst fs),D,J])
  (Kq n) [] [O (.d,t),H,P,Q,O (m4,.dct l w),I,o6,M,O (.o .s,.lst []),J,J]
  ⟨t,[],m4,o6,J,ht,rfl,(λ_ h=>nomatch h),(λ_ _ _ h=>nomatch h),rfl⟩
  (by
   rintro p i r η hp ⟨m,fs,a,b,D,c,F,Z,A,he⟩;subst he;have hpl:=RY MH hp;simp only[Lq,K9,KJ,Kz] at hpl
   have hi:i<n:=by
    have:i∈Kq n:=by rw[Lq] at hp;rw[hp];exact K7 _ Ku
    exact Lc.mp this
   obtain⟨t2,u,o9',ht2,hu,hur,e⟩:=ye n L _ m c (by lia) hn i hi l w hk hv (hin i hi) a fs (by lia) H P Q I M D
   have hip:i=p.length:=by
    rw[Lq] at hp;have q1:(Kq n)[p.length]?=O i:=by rw[hp,L4<|Kt _,NM];rfl
    rw[LZ<|by lia] at q1;exact(K8 q1).symm
   refine⟨_,_,rfl,e,t2,fs++[u],.s,_,o9',?_,?_,?_,?_,rfl⟩
   .rw[KJ,Lf];exact tm ht2<|by lia
   .rw[KJ,KJ,F];rfl
   .intro y hy;rcases Li.mp hy with z|z
    .exact Z y z
    .rw[K1.mp z];exact hu
   .intro x hr k hk;rw[KJ,Lf] at hk;by_cases G:k<fs.length
    .have:=A x hr k G;rw[Kv] at this ⊢;rw[M1 G];exact this
    .have e3:k=fs.length:=by lia
     rw[e3,Kv,L4<|Kt _,NM,F,<- hip];exact hur x hr)
 rw[Lq,K9] at c F;exact⟨m,fs,a,b,D,c,F,Z,A,lp⟩
theorem Eg (r:Int)(a:0<=r)(b:r<12):∃n:Y,n<=12/\atI [T.int 0,.int 1,.int 2,.int 3,.int 4,.int 5,.int 6,.int 7,.int 8,.int 9,.int 10,.int 12] r=O (.int (n:Int)):=by
 have h:r=0\/r=1\/r=2\/r=3\/r=4\/r=5\/r=6\/r=7\/r=8\/r=9\/r=10\/r=11:=by lia
 rcases h with rfl|rfl|rfl|rfl|rfl|rfl|rfl|rfl|rfl|rfl|rfl|rfl
 .exact⟨0,by decide,rfl⟩
 .exact⟨1,by decide,rfl⟩
 .exact⟨2,by decide,rfl⟩
 .exact⟨3,by decide,rfl⟩
 .exact⟨4,by decide,rfl⟩
 .exact⟨5,by decide,rfl⟩
 .exact⟨6,by decide,rfl⟩
 .exact⟨7,by decide,rfl⟩
 .exact⟨8,by decide,rfl⟩
 .exact⟨9,by decide,rfl⟩
 .exact⟨10,by decide,rfl⟩
 .exact⟨12,by decide,rfl⟩
theorem wU {L N:Y}{t:T}(ht:Tp N t)(hN:N+3000<1000000000000000000):∃b fs t',Tp (N+300) t'/\fs.length<=12/\(∀u∈fs,StT fs.length u)/\(∃c:Int->Y,∀k:Y,k<fs.length->RkT c (k:Int) (fs.getD k .non))/\C (L+2) 278 [(.d,t)]=.ok ((b,.lst fs),[(.d,t')]):=by
 obtain⟨r,t1,r0,r1,m,e1⟩:=eS (n:=L) .d 12 ht (by lia) (by decide) (by decide);obtain⟨n,Z,an⟩:=Eg r r0 r1;obtain⟨a,H,r20,r21,p,e2⟩:=eS (n:=L) .d 4 m (by lia) (by decide) (by decide);have z1:(decide ((0:Int).natAbs<4611686018427387904)&&decide ((n:Int).natAbs<4611686018427387904)&&fits ((n:Int)-0).toNat)=true:=by rw[RI<|by lia,RI<|by lia];exact RI<|by show _<=16777215;lia
 have z2:((n:Int)-0).toNat=n:=by lia
 have z3:(Kq n).map (λ(k:Y)=>T.int (0+(k:Int)))=((Kq n).map λ(k:Y)=>(k:Int)).map T.int:=by rw[Lh];refine Mi λk _=>?_;show T.int (0+(k:Int))=T.int (k:Int);rw[Qi]
 obtain⟨I,P,Q,D,y,M,F,G,v,⟨c,l⟩,h1,h2,h3,h4,z⟩:=zx n L _ H p (by lia) Z (2+a) (by lia) (by lia) (O (.s,.int (n:Int))) ((Kq n).map λ(k:Y)=>(k:Int)) (by rw[Kr,K9]) (λx hx=>by
  obtain⟨k,hk,rfl⟩:=KG.mp hx;have:=Lc.mp hk;lia) (λi hi=>KG.mpr ⟨i,Lc.mpr hi,rfl⟩)<|Ol.mpr<|Rx (λh e=>h<|Int.ofNat.inj e) OV
 obtain⟨t4,fs,m4',o6',o9,w,f1,f2,f3,A⟩:=ym n L _ I v (by lia) Z y M h1 h3 h4 D (O (.s,.int (n:Int))) P Q (O (.d,.int<|2+a)) F G;have n1:(decide ((n:Int).natAbs<4611686018427387904)&&fits n)=true:=by rw[RI<|by lia];exact RI<|by show _<=16777215;lia
 have n2:(n:Int).toNat=n:=by lia
 have g:oSem .rng Kg [(.d,.int 0),(.d,.int (n:Int))]=O (.d,.lst (((Kq n).map λ(k:Y)=>(k:Int)).map T.int)):=by rw[FH,RJ z1,z2,z3]
 have hA:evSs (C (L+1)) (Bk f_law_waits 0 5) [O (.d,t),J,J,J,J,J,J,J,J,J,J]=.nx [O (.d,H),O (.s,.int (n:Int)),O (.d,.lst (((Kq n).map λ(k:Y)=>(k:Int)).map T.int)),O (.o .s,.lst []),O (.d,.dct [] []),O (.d,.int (2+a)),J,J,J,J,J]:=by simp_all only[Bk,f_law_waits,M0,NU,Nz,e1,an,g,e2]
 have hB:evSs (C (L+1)) (Bk f_law_waits 5 1) [O (.d,H),O (.s,.int (n:Int)),O (.d,.lst (((Kq n).map λ(k:Y)=>(k:Int)).map T.int)),O (.o .s,.lst []),O (.d,.dct [] []),O (.d,.int (2+a)),J,J,J,J,J]=.nx [O (.d,I),O (.s,.int (n:Int)),P,Q,O (D,.dct y M),O (.d,.int (2+a)),F,G,J,J,J]:=by simp_all only[Bk,f_law_waits,Oq,M0,NU,Nz,n1,n2,z]
 have f:∃b η,evSs (C (L+1)) (f_law_waits.body.drop 6) [O (.d,I),O (.s,.int (n:Int)),P,Q,O (D,.dct y M),O (.d,.int (2+a)),F,G,J,J,J]=.rt (b,.lst fs) (O (.d,t4)::η):=⟨_,_,by simp_all only[f_law_waits,Oq,M0,n1,n2,A];rfl⟩;obtain⟨b,η,f⟩:=f;refine⟨b,fs,t4,tm w<|by lia,by lia,by rw[f1];exact f2,⟨c,f3 c l⟩,?_⟩;rw[kQ,x_run _ _ _ rfl,show f_law_waits.body=Bk f_law_waits 0 5++(Bk f_law_waits 5 1++f_law_waits.body.drop 6) from rfl];show Fl.out [0] (evSs (C<|L+1) (Bk f_law_waits 0 5++(Bk f_law_waits 5 1++f_law_waits.body.drop 6)) [O (.d,t),J,J,J,J,J,J,J,J,J,J])=_;rw[go1 hA,go1 hB,f];rfl
theorem wG {L N:Y}{t:T}(l:Tp N t)(D:N+10<1000000000000000000):∃o h i,Tp (N+3) i/\1<=h/\h<=20/\C (L+2) 279 [(.d,t)]=.ok ((o,.int h),[(.d,i)]):=by
 obtain⟨f,F,u,y,b,e1⟩:=eS (n:=L) .d 4 l (by lia) (by decide) (by decide);obtain⟨g,G,v,z,c,e2⟩:=eS (n:=L) .d 20 b (by lia) (by decide) (by decide);obtain⟨a,p,x,A,e,e3⟩:=eS (n:=L) .d 4 c (by lia) (by decide)<|by decide
 have m:∃w:Int,1<=w/\w<=20/\atI [T.int 1,T.int 20,T.int (1+f),T.int (1+g)] a=O (.int w):=by
  have h:a=0\/a=1\/a=2\/a=3:=by lia
  rcases h with rfl|rfl|rfl|rfl
  .exact⟨1,by lia,by lia,rfl⟩
  .exact⟨20,by lia,by lia,rfl⟩
  .exact⟨1+f,by lia,by lia,rfl⟩
  .exact⟨1+g,by lia,by lia,rfl⟩
 obtain⟨w,r,s,k⟩:=m;exact⟨_,w,p,tm e<|by lia,r,s,by rw[lb,x_run _ _ _ rfl];simp_all only[b5,e1,e2,e3,k];rfl⟩
noncomputable def wOf:T->Int
|.tup [_,_,.int w,_]=>w
|_=>0
def ahT:T->U T
|.tup [_,_,_,.lst a]=>a
|_=>[]
def dI (L:U T):Int:=(L.map wOf).sum
structure Sts (L:U T):Prop where
 len:L.length<=12
 st:∀u∈L,StT L.length u
 rk:∃rk:Int->Y,∀k:Y,k<L.length->RkT rk (k:Int) (L.getD k .non)
theorem lj:∀{L:U T} {n:Y},(∀u∈L,StT n u)->intsOf (L.map λu=>T.int<|wOf u)=O (L.map wOf)
|[],_,_=>rfl
|u::L,n,h=>by show(intsOf<|L.map λu=>T.int<|wOf u).map (wOf u::·)=_;rw[lj λv a=>h v<|Kw _ a];rfl
theorem Bq:∀{L:U T} {n:Y},(∀u∈L,StT n u)->0<=dI L/\dI L<=60 * (L.length:Int)
|[],_,_=>⟨Og _,Og _⟩
|u::L,n,h=>by
 obtain⟨a,b⟩:=Bq λv d=>h v<|Kw _ d;obtain⟨i,c,w,f,rfl,_,_,g,k,_,_⟩:=h u Ku;have e:dI (.tup [.tup [.int (i:Int),.int (c:Int)],.tup [],.int w,.lst (f.map T.int)]::L)=w+dI L:=by unfold dI;rw[K2,Qm];rfl
 rw[e,Kz];lia
def srt:T->R1
|.bl _=>"truth" |.int _=>"number" |.str _=>"text" |.lst _=>"list" |.tup _=>"tuple" |_=>"none"
theorem Ju (x:Str):(["str"].any λc=>isOne c<|T.str x)=true:=rfl
theorem Jw (a:U T):(["str"].any λc=>isOne c<|T.tup a)=false:=rfl
theorem Jf (a:U T):(["str"].any λc=>isOne c<|T.lst a)=false:=rfl
theorem IG:(["str"].any λc=>isOne c T.non)=false:=rfl
theorem dA (n:Y)(t:T)(h:rOk t=Kh)(m:Md):C (n+1) 264 [(m,t)]=.ok ((.d,.str<|q<|srt t),[]):=by
 rw[n9,x_run _ _ _ rfl];cases t with
 |int i=>simp_all only[bb,Fo,Gv,srt]
 |bl b=>simp_all only[bb,IA,srt]
 |non=>simp_all only[bb,JH,IE,IG,Fe,Gx,srt]
 |str x=>simp_all only[bb,IF,IC,Ju,srt]
 |tup a=>simp_all only[bb,Iy,Je,Jw,Fu,lA,srt]
 |lst a=>simp_all only[bb,J9,Ir,Jf,zG,srt]
 |_=>cases h
theorem qeq (a b:R1):(q a==q b)=(a==b):=by
 by_cases h:a=b
 .subst h;simp
 .have g:q a≠q b:=fun z=>h (by
   have:=RY (λs:Str=>s.cps.toList) z;rw[q,Str.ofString_eq_toList,Str.ofString_eq_toList] at this;simp only at this
   have k:a.toList=b.toList:=by
    have inj:∀f e:U Char,f.map Char.toNat=e.map Char.toNat->f=e:=by
     intro f;induction f with
     |nil=>intro e h;cases e with
      |nil=>rfl
      |cons=>cases h
     | cons c m l=>intro e h; cases e with
      |nil=>cases h
      |cons d ds=>
       rw[K2,K2] at h;injection h with i g
       rw[l ds g,Char.toNat_inj.mp i]
    exact inj _ _<|by simpa using this
   exact String.toList_inj.mp k)
  rw[beq_eq_false_iff_ne.mpr g,beq_eq_false_iff_ne.mpr h]
def eqS (s:Str):T->RN
|.str z=>z==s
|_=>Kg
def eqI (l:Int):T->RN
|.int i=>i==l
|_=>Kg
theorem alS (n:Y)(s:Str)(c:rOk (.str s)=Kh)(a:T)(h:rOk a=Kh)(m m':Md):C (n+2) 263 [(m,a),(m',.str s)]=.ok ((.d,.bl<|eqS s a),[]):=by
 have e1:=λm=>dA n a h m;have e2:=λm=>dA n (.str s) c m;rw[iQ,x_run _ _ _ rfl];cases a with
 |int i=>simp_all only[aQ,e1,e2,srt,qeq,eqS]
 |bl b=>simp_all only[aQ,e1,e2,srt,qeq,eqS]
 |non=>simp_all only[aQ,e1,e2,srt,qeq,eqS]
 |str x=>simp_all only[aQ,e1,e2,srt,qeq,eqS,HJ]
 |tup e=>simp_all only[aQ,e1,e2,srt,qeq,eqS]
 |lst e=>simp_all only[aQ,e1,e2,srt,qeq,eqS]
 |_=>cases h
theorem alI (n:Y)(l:Int)(c:rOk (.int l)=Kh)(a:T)(h:rOk a=Kh)(m m':Md):C (n+2) 263 [(m,a),(m',.int l)]=.ok ((.d,.bl<|eqI l a),[]):=by
 have e1:=λm=>dA n a h m;have e2:=λm=>dA n (.int l) c m;rw[iQ,x_run _ _ _ rfl];cases a with
 |int i=>simp_all only[aQ,e1,e2,srt,qeq,eqI,Gz]
 |bl b=>simp_all only[aQ,e1,e2,srt,qeq,eqI]
 |non=>simp_all only[aQ,e1,e2,srt,qeq,eqI]
 |str x=>simp_all only[aQ,e1,e2,srt,qeq,eqI]
 |tup e=>simp_all only[aQ,e1,e2,srt,qeq,eqI]
 |lst e=>simp_all only[aQ,e1,e2,srt,qeq,eqI]
 |_=>cases h
abbrev AB:U S:=[
   .ite (.q [2,3] []) (.not (.call 263 [.var 2,.var 3])) [
    .ret [] (.cst<|.bl Kg)] []]
theorem al2 (n:Y)(s:Str)(l:Int)(r:rOk (.str s)=Kh)(p:rOk (.int l)=Kh)(a x:T)(k:rOk a=Kh)(hx:rOk x=Kh)(m m':Md):C (n+3) 263 [(m,.tup [a,x]),(m',.tup [.str s,.int l])]=.ok ((.d,.bl<|eqS s a&&eqI l x),[]):=by
 have e1:=λm=>dA (n+1) (.tup [a,x]) (by show(rOk a&&(rOk x&&Kh))=Kh;rw[k,hx];rfl) m;have e2:=λm=>dA (n+1) (.tup [.str s,.int l]) (by show(rOk (.str s)&&(rOk (.int l)&&Kh))=Kh;rw[r,p];rfl) m;have D:=λm m'=>alS n s r a k m m';have F:=λm m'=>alI n l p x hx m m';have t:((([a,x].length:Y):Int)==(([T.str s,T.int l].length:Y):Int))=true:=rfl;have A:fX .s .s [a,x] [T.str s,T.int l]=[[(.s,a),(.s,.str s)],[(.s,x),(.s,.int l)]]:=rfl
 have I:∀(e f:j W),∃c,aS [2,3] (evSs (C (n+2)) AB) [[(.s,a),(.s,.str s)],[(.s,x),(.s,.int l)]] [e,f,J,J]=if(eqS s a&&eqI l x)=Kh then .nx c else .rt (.d,.bl Kg) c:=λe f=>by
  have z:∀(b:RN) (u v:T) (i:∀m m',C (n+2) 263 [(m,u),(m',v)]=.ok ((.d,.bl b),[])),∃h o3,evSs (C (n+2)) AB [e,f,O (.s,u),O (.s,v)]=if b=Kh then .nx [e,f,h,o3] else .rt (.d,.bl Kg) [e,f,h,o3]:=λb u v i=>by
   cases b with
   |true=>exact⟨O (.s,u),O (.s,v),by simp_all only[i]⟩
   |false=>exact⟨O (.s,u),O (.s,v),by simp_all only[i]⟩
  obtain⟨h,o3,G⟩:=z _ a (.str s) D;obtain⟨w,y,H⟩:=z _ x (.int l) F;show∃c,Fl.turn (evSs (C<|n+2) AB [e,f,O (.s,a),O (.s,.str s)]) (aS [2,3] (evSs (C<|n+2) AB) [[(.s,x),(.s,.int l)]])=_;rw[G];cases L:eqS s a with
  |false=>exact⟨[e,f,h,o3],by rw[RK KH];rfl⟩
  |true=>
   rw[RJ rfl,MX];show∃c,Fl.turn (evSs (C<|n+2) AB [e,f,O (.s,x),O (.s,.int l)]) (aS [2,3] (evSs (C<|n+2) AB) [])=_;rw[H];cases M:eqI l x with
   |false=>exact⟨[e,f,w,y],by rw[RK KH];rfl⟩
   |true=>exact⟨[e,f,w,y],by rw[RJ rfl];rfl⟩
 obtain⟨c,g⟩:=I (O (.s,.tup [a,x]))<|O (.s,.tup [.str s,.int l]);rw[iQ,x_run _ _ _ rfl];cases o:eqS s a&&eqI l x with
 |true=>rw[o,RJ rfl] at g;simp_all only[aQ,e1,e2,srt,qeq,BE,t,A,g]
 |false=>rw[o,RK KH] at g;simp_all only[aQ,e1,e2,srt,qeq,BE,t,A,g]
theorem Fm {i a:T}{w:Int}{b:U Int}:atI [i,a,T.int w,.lst<|b.map T.int] 2=O (T.int w):=at2 _ _ _ _
theorem jO (F:Call)(s:Y)(L:U T){n:Y}(h:∀u∈L,StT n u)(b:Env)(d:∀t,rd (put b s (.s,t)) s=O (.s,t))(g:∀t,ag [s] (put b s (.s,t))=b):
  aA [s] (bJ<|evE F<|.op .ix Kg [.var s,.cst<|.int 2]) (L.map λt=>[((.s,t):W)]) b []=.ok ([]++L.map (λu=>((.s,.int<|wOf u):W)),b):=aI (λu=>((.s,.int<|wOf u):W)) L [] λu k=>⟨_,put b s (.s,u),rfl,by
  obtain⟨i,a,w,c,rfl,_⟩:=h u k;show(evE F (.op .ix Kg [.var s,.cst<|.int 2])<|put b s (.s,_)).bind dE=_;have e:evE F (.op .ix Kg [.var s,.cst (.int 2)]) (put b s (.s,.tup [.tup [.int (i:Int),.int (a:Int)],.tup [],.int w,.lst (c.map T.int)]))=.ok ((.s,.int w),put b s (.s,.tup [.tup [.int (i:Int),.int (a:Int)],.tup [],.int w,.lst (c.map T.int)])):=by have f:=d<|.tup [.tup [.int (i:Int),.int (a:Int)],.tup [],.int w,.lst<|c.map T.int];generalize put b s (.s,.tup [.tup [.int (i:Int),.int (a:Int)],.tup [],.int w,.lst<|c.map T.int])=η1 at f;simp_all only[f,Fm]
  rw[e];rfl,g _⟩
theorem ek (L:U T):aK (L.map λu=>((.s,.int<|wOf u):W))=L.map λu=>T.int (wOf u):=ax (λ_=>Md.s) (λu=>T.int<|wOf u) L
def least (L:U T)(h:Int):Int:=(dI L+h-1) / h
theorem lI (n:Y)(L:U T)(b:Sts L)(h:Int)(l:1<=h)(o:h<=20)(m m':Md):C (n+1) 267 [(m,.lst L),(m',.int h)]=.ok ((.d,.int<|least L h),[]):=by have c:∀a,aA [2] (bJ (evE (C n) (.op .ix Kg [.var 2,.cst (.int 2)]))) (L.map λt=>[((.s,t):W)]) [J,a,J] []=.ok ([]++L.map (λu=>((.s,.int (wOf u)):W)),[J,a,J]):=λa=>jO (C n) 2 L b.st [J,a,J] (λ_=>rfl) λ_=>rfl;have i:=ek L;have k:=lj b.st;have f:decide (0<h)=true:=RI (by lia);have g:decide (h<1073741824)=true:=RI (by lia);have e:(L.map wOf).sum=dI L:=rfl;unfold least;rw[fh,x_run _ _ _ rfl];simp_all only[aY,c,i,k,f,g,e]
def okN (n:Y):T->RN
|.int i=>decide (0<=i)&&decide (i<(n:Int))
|_=>Kg
def isN:T->RN
|.int _=>Kh
|_=>Kg
def inA (L:U T)(a b:T):RN:=match b with
|.int c=>(ahT<|L.getD c.toNat .non).any λt=>eqT t a
|_=>Kg
def con (L:U T):U T->RN
|a::b::r=>inA L a b&&con L (b::r)
|_=>Kh
def gy (L:U T):T->RN
|.lst a=>(a.map<|okN L.length).all id&&con L a
|_=>Kg
theorem all_map {d:Type}{f:d->RN}{c:U d}:(c.map f).all id=Kh ↔ ∀t∈c,f t=true:=by
 rw[K5];constructor
 .exactλh t a=>h _<|LH a
 .intro h b e;obtain⟨t,a,rfl⟩:=KG.mp e;exact h t a
theorem Al {t:T}(h:isN t=Kh):∃i:Int,t=.int i:=by
 cases t with
 |int i=>exact⟨i,rfl⟩
 |_=>cases h
theorem kb {n:Y}{t:T}(h:okN n t=Kh):∃i:Y,t=.int (i:Int)/\i<n:=by
 cases t with
 |int i=>have h:(decide (0<=i)&&decide (i<(n:Int)))=true:=h;rw[KS,RP,RP] at h;exact⟨i.toNat,by rw[NT h.1],by lia⟩
 |_=>cases h
theorem zJ (t:T)(h:rOk t=Kh):(q (srt t)==q "number")=isN t:=by
 rw[qeq];cases t with
 |int _=>rfl
 |bl _=>rfl
 |non=>rfl
 |str _=>rfl
 |tup _=>rfl
 |lst _=>rfl
 |_=>cases h
theorem pA (n:Y)(a:U T)(h:∀t∈a,rOk t=Kh)(m:Md):C (n+2) 265 [(m,.tup a)]=.ok ((.d,.bl<|(a.map isN).all id),[]):=by
 have f:∀b,aA [1] (bJ (evE (C (n+1)) (.op .eq Kg [.call 264 [.var 1],.cst (.str (q "number"))]))) (a.map λt=>[((.s,t):W)]) [b,J] []=.ok ([]++a.map (λt=>((.d,.bl (isN t)):W)),[b,J]):=λb=>aI (λt=>((.d,.bl<|isN t):W)) a [] λu c=>⟨_,[b,O (.s,u)],rfl,by
  have e:=λm=>dA n u (h u c) m;have e2:=zJ u<|h u c;simp_all only[e,e2],rfl⟩
 have g:=bT isN a;rw[iY,x_run _ _ _ rfl];simp_all only[bE,lA,f,g,eU]
theorem FF (b:U T):cut b (O 1) J=b.drop 1:=by
 cases b with
 |nil=>rfl
 | cons a r =>
  have e:sIx (a::r).length 0 (O 1)=1:=by show(if(1:Int)<0 then((1:Int)+((a::r).length:Int)).toNat else min (1:Int).toNat (a::r).length)=1;rw[RK<|by decide,Kz];show min 1 (r.length+1)=1;lia
  have e2:sIx (a::r).length (a::r).length J=(a::r).length:=rfl;rw[cut,e,e2];exact OH<|by rw[Mg];lia
theorem vg (b a:U T):fX .s .s b a=(b.zip a).map λp=>[((.s,p.1):W),(.s,p.2)]:=by
 induction b generalizing a with
 |nil=>rfl
 | cons t b c =>
  cases a with
  |nil=>rfl
  |cons u a=>show _::fX .s .s b a=_::_;rw[c a];rfl
theorem qf (L:U T):∀c:U T,((c.zip<|c.drop 1).map λp=>inA L p.1 p.2).all id=con L c
|[]=>rfl
|[a]=>rfl
|a::b::r=>by have d:=qf L (b::r);show(inA L a b&&((((b::r).zip<|(b::r).drop 1).map λp=>inA L p.1 p.2).all id))=_;rw[d];rfl
theorem iT {L:U T}{i:Y}(h:i<L.length):atI L (i:Int)=O (L.getD i .non):=atN rfl (by rw[Kv,KN h];rfl)
theorem gI {L:U T}{i:Y}(h:i<L.length):L.getD i .non∈L:=by rw[Kv,KN h];exact NX _
theorem iI {i a k l:T}:atI [i,a,k,l] 3=O l:=at3 _ _ _ _ _
theorem yY (b:U Int):(b.map T.int).all M.flatT=true:=K5.mpr λt a=>by obtain⟨i,_,rfl⟩:=KG.mp a;rfl
theorem E7 {L:U T}(g:Sts L){d:Y}(h:d<L.length):∃(a b c:T) (f:U Int),L.getD d .non=.tup [a,b,c,.lst<|f.map T.int]/\ahT (L.getD d .non)=f.map T.int:=by obtain⟨i,k,w,f,e,_⟩:=g.st _<|gI h;exact⟨_,_,_,f,e,by rw[e];rfl⟩
theorem Dv (n:Y)(L:U T)(Z:Sts L)(x:T)(h:rOk x=Kh)(m m':Md):C (n+3) 268 [(m,.lst L),(m',x)]=.ok ((.d,.bl<|gy L x),[]):=by
 cases x with
 | lst e =>
  have w:=rOks_all.mp h;have e1:=λm=>pA n e w m;rw[aM,x_run _ _ _ rfl];show _=Res.ok ((Md.d,T.bl<|(e.map<|okN L.length).all id&&con L e),[]);cases k:(e.map isN).all id with
  | false =>
   rw[k] at e1
   have l:(e.map (okN L.length)).all id=false:=by
    cases f:(e.map<|okN L.length).all id with
    |false=>rfl
    | true =>
     have:(e.map isN).all id=true:=all_map.mpr λt ht=>by obtain⟨i,rfl,_⟩:=kb<|all_map.mp f t ht;rfl
     rw[k] at this;cases this
   rw[l,Nt];simp_all only[ai,zG,km,e1]
  | true =>
   rw[k] at e1;have hn:=all_map.mp k
   have o:aA [2] (bJ (evE (C (n+2)) (.chain .le .lt (.cst (.int 0)) (.var 2) (.op .len Kg [.var 0])))) (e.map λt=>[((.s,t):W)]) [O (.s,.lst L),O (.s,.lst e),J,J,J] []=.ok ([]++e.map (λt=>((.d,.bl (okN L.length t)):W)),[O (.s,.lst L),O (.s,.lst e),J,J,J]):=aI (λt=>((.d,.bl<|okN L.length t):W)) e [] λu hu=>⟨_,[O (.s,.lst L),O (.s,.lst e),O (.s,u),J,J],rfl,by
    obtain⟨i,rfl⟩:=Al<|hn u hu;unfold okN;cases l:decide (0<=i) with
    |false=>simp_all only[l,Nt]
    |true=>simp_all only[l,MX],rfl⟩
   have G:=bT (okN L.length) e;cases f:(e.map<|okN L.length).all id with
   |false=>simp_all only[ai,zG,km,e1,o,G,eU,f,Nt]
   | true =>
    have g:=all_map.mp f
    have y:aA [3,4] (bJ (evE (C (n+2)) (.op .isin Kg [.var 3,.op .ix Kg [.op .ix Kg [.var 0,.var 4],.cst (.int 3)]]))) ((e.zip (e.drop 1)).map λp=>[((.s,p.1):W),(.s,p.2)]) [O (.s,.lst L),O (.s,.lst e),J,J,J] []=.ok ([]++(e.zip (e.drop 1)).map (λp=>((.d,.bl (inA L p.1 p.2)):W)),[O (.s,.lst L),O (.s,.lst e),J,J,J]):=aI (λp=>((.d,.bl<|inA L p.1 p.2):W)) (e.zip<|e.drop 1) [] λp hp=>⟨_,[O (.s,.lst L),O (.s,.lst e),J,O (.s,p.1),O (.s,p.2)],rfl,by
     obtain⟨a,b⟩:=p;have r:=(Nx hp).1;have v:=OE (Nx hp).2;obtain⟨i,rfl,hi⟩:=kb<|g a r;obtain⟨c,rfl,D⟩:=kb<|g b v;obtain⟨o,y,c3,F,N,P⟩:=E7 Z D;have A:=iT D;rw[N] at A;have Q:inA L (.int (i:Int)) (.int (c:Int))=(F.map T.int).any λt=>eqT t (.int (i:Int)):=by show(ahT<|L.getD (c:Int).toNat .non).any _=_;rw[Lz,P]
     have fl:(M.flatT (.int (i:Int))&&(F.map T.int).all M.flatT)=true:=by rw[yY];rfl
     rw[Q];simp_all only[A,iI,fl],rfl⟩
    have z1:=vg e<|e.drop 1;have t2:=bT (λp:T×T=>inA L p.1 p.2)<|e.zip<|e.drop 1;have I:=qf L e;have H:=FF e;simp_all only[ai,zG,km,e1,o,G,eU,f,H,z1,y,t2,I,MX,vp]
 |int i=>rw[aM,x_run _ _ _ rfl];simp_all only[ai,IZ,gy]
 |bl b=>rw[aM,x_run _ _ _ rfl];simp_all only[ai,Jp,gy]
 |non=>rw[aM,x_run _ _ _ rfl];simp_all only[ai,Fe,gy]
 |str z=>rw[aM,x_run _ _ _ rfl];simp_all only[ai,Jy,gy]
 |tup e=>rw[aM,x_run _ _ _ rfl];simp_all only[ai,Fu,gy]
 |_=>cases h
def lnT:T->T
|.lst a=>.int ((a.length:Y):Int)
|_=>.non
def kI (L:U T)(h:Int):T->T
|.tup [a,x]=>if eqS (q "width") a&&eqI (least L h) x then .int (least L h) else if eqS (q "chain") a&&gy L x then lnT x else .non
|_=>.non
theorem pW {L:U T}(c:Sts L){h:Int}(d:1<=h):0<=least L h/\least L h<=1000:=by
 obtain⟨a,b⟩:=Bq c.st;have:=c.len;have f:dI L<=720:=by lia
 unfold least;constructor
 .exact Int.ediv_nonneg (by lia) (by lia)
 .have:(dI L+h-1) / h<=dI L:=by
   have e:(dI L+h-1) / h<dI L+1:=Qy (by lia) (by
    have:=Int.mul_le_mul_of_nonneg_left d (show 0<=dI L by lia);rw[Int.add_mul,Int.one_mul];lia)
   lia
  lia
theorem ET:rOk (.str<|q "width")=true:=by decide +kernel
theorem CN (s:Str)(a:T)(h:rOk a=Kh)(e:dp a<=64)(m m':Md):oSem .eq Kg [(m,a),(m',.str s)]=O (.d,.bl<|eqS s a):=by
 cases a with
 |int i=>rfl
 |bl b=>rfl
 |non=>rfl
 |str x=>rfl
 |tup c=>show(if decide (dp (.tup c)<=64)&&decide (dp (.str s)<=64) then O ((.d,.bl Kg):W) else J)=_;rw[RI e];rfl
 |lst c=>show(if decide (dp (.lst c)<=64)&&decide (dp (.str s)<=64) then O ((.d,.bl Kg):W) else J)=_;rw[RI e];rfl
 |_=>cases h
theorem BX {a:U T}(h:(((a.length:Y):Int)==2)=Kh):∃x y,a=[x,y]:=by
 have h:=beq_iff_eq.mp h
 match a,h with
 |[x,y],_=>exact⟨x,y,rfl⟩
 |[],h=>simp at h
 |[_],h=>simp at h
 |_::_::_::r,h=>simp only[Kz] at h;lia
theorem yD {L:U T}{h:Int}{b:U T}(a:(((b.length:Y):Int)==2)=Kg):kI L h (.tup b)=.non:=by
 match b,a with
 |[],_=>rfl
 |[_],_=>rfl
 |[_,_],a=>cases a
 |_::_::_::r,_=>rfl
theorem dp2 {a x:T}(h:dp (.tup [a,x])<=60):dp a<=64/\dp x<=64:=by have h:max (dp a) (max (dp x) 0)+1<=60:=h;lia
theorem lZ (n:Y)(L:U T)(o:Sts L)(h:Int)(u:1<=h)(D:h<=20)(t:T)(w:rOk t=Kh)(F:dp t<=60)(m G H:Md):∃p,C (n+4) 266 [(m,.lst L),(G,.int h),(H,t)]=.ok ((p,kI L h t),[]):=by
 rw[tF,x_run _ _ _ rfl];cases t with
 | tup y =>
  cases c:(((y.length:Y):Int)==2) with
  |false=>exact⟨_,by rw[yD c];simp_all only[bf,lA,c];rfl⟩
  | true =>
   obtain⟨a,x,rfl⟩:=BX c;have e:=rOks_all.mp w;have v:rOk a=true:=e a (by simp);have hx:rOk x=true:=e x (by simp);obtain⟨A,M⟩:=dp2 F;have e1:=λm d=>lI (n+2) L o h u D m d;obtain⟨N,P⟩:=pW o u;have I:rOk (.int (least L h))=true:=RI (by lia);have e2:=λm d=>al2 n (q "width") (least L h) ET I a x v hx m d;have e3:=λm d=>CN (q "chain") a v A m d;have f:=λm d=>Dv n L o x hx m d;have k:atI [a,x] 0=O a:=at0 _ _;have g:atI [a,x] 1=O x:=at1 _ _ _;show∃p,_=Res.ok ((p,if(eqS (q "width") a&&eqI (least L h) x)=Kh then T.int (least L h) else if(eqS (q "chain") a&&gy L x)=Kh then lnT x else .non),[]);cases r:eqS (q "width") a&&eqI (least L h) x with
   |true=>rw[r] at e2;exact⟨_,by rw[RJ rfl];simp_all only[bf,lA,c,e1,e2];rfl⟩
   | false =>
    rw[r] at e2;rw[RK KH];cases s:eqS (q "chain") a with
    |false=>rw[s] at e3;exact⟨_,by rw[Nt,RK KH];simp_all only[bf,lA,c,e1,e2,k,g,e3];rfl⟩
    | true =>
     rw[s] at e3;cases l:gy L x with
     |false=>rw[l] at f;exact⟨_,by rw[MX,RK KH];simp_all only[bf,lA,c,e1,e2,k,g,e3,f];rfl⟩
     |true=>
      rw[l] at f;cases x with
      |lst Q=>exact⟨_,by rw[MX,RJ rfl];simp_all only[bf,lA,c,e1,e2,k,g,e3,f,lnT];rfl⟩
      |_=>cases l
 |int i=>exact⟨_,by simp_all only[bf,IU,kI];rfl⟩
 |bl b=>exact⟨_,by simp_all only[bf,JD,kI];rfl⟩
 |non=>exact⟨_,by simp_all only[bf,Gx,kI];rfl⟩
 |str z=>exact⟨_,by simp_all only[bf,IL,kI];rfl⟩
 |lst y=>exact⟨_,by simp_all only[bf,J0,kI];rfl⟩
 |_=>cases w
theorem eD {c:Env->Res (RN×Env)}{f:Env->Fl}(I:Y->Env->Prop)(P:Env->Prop):∀(N m:Y) (b:Env),m<N->I m b->(∀m b,I m b->(∃a,c b=.ok (Kg,a)/\P a)\/∃d g i,c b=.ok (Kh,d)/\f d=.nx g/\i<m/\I i g) ->
 ∃a,jf c f N b=.nx a/\P a
|0,_,_,h,_,_=>by lia
| N+1,m,b,h,r,k=>by
 rcases k m b r with⟨a,l,n⟩|⟨d,g,i,l,n,s,o⟩
 .refine ⟨a,?_,n⟩;show Fl.of b (c b) _=_;rw[l];rfl
 .obtain ⟨a,e,p⟩:=eD I P N i g (by lia) o k;refine⟨a,?_,p⟩;show Fl.of b (c b) _=_;rw[l];show Fl.turn (f d) _=_;rw[n];exact e
theorem n5 {n:Y}:∀{a:U T},(∀u∈a,dp u<=n)->dps a<=n
|[],_=>K4 _
|t::a,h=>by have c:=h t Ku;have d:=n5 λu b=>h u<|Kw _ b;show max (dp t) (dps a)<=n;lia
theorem qG (n:Y)(i:Int)(m:Md):C (n+1) 272 [(m,.int i)]=.ok ((.d,.bl Kh),[]):=by rw[kH,x_run _ _ _ rfl];simp_all only[cj,Gv,Fo]
theorem bii (x:Int):(!(x==x))=false:=by rw[R4];rfl
theorem zH (a:U Int)(m:Md):C 39 179 [(m,.scr a)]=.ok ((.d,oA (cut a J<|O 63) 0 0),[]):=by
 rw[lW,x_run _ _ _ rfl];have c:∀l:U Int,leaves (l.map T.int)=true:=λa=>K5.mpr λt b=>by obtain⟨i,_,rfl⟩:=KG.mp b;rfl
 simp_all only[cN,c];rfl
noncomputable def mxN:U Y->Y
|[]=>0
|x::a=>max x<|mxN a
theorem hV:∀{l:U Y} {x:Y},x∈l->x<=mxN l
|y::l,x,h=>by
 show x<=max y (mxN l);rcases KD.mp h with e|e
 .lia
 .have:=hV e;lia
theorem i5:∀{l:U Y} {b:Y},(∀x∈l,x<=b)->mxN l<=b
|[],b,_=>K4 _
|y::l,b,h=>by show max y (mxN l)<=b;have:=h y Ku;have:=i5 λx hx=>h x<|Kw _ hx;lia
theorem gH:∀{l:U Y},l≠[]->mxN l∈l
|[],h=>RM rfl h
|[y],_=>by show max y 0∈_;rw[Qh];simp
|y::z::l,_=>by
 have a:=gH (l:=z::l) (by simp);show max y (mxN (z::l))∈_;rcases Nat.le_total y (mxN (z::l)) with h|h
 .rw[Nat.max_eq_right h];exact Kw _ a
 .rw[Nat.max_eq_left h];exact Ku
def lgF (P:Y->U Y):Y->Y->Y
|0,_=>0
|f+1,k=>1+mxN ((P k).map<|lgF P f)
structure dX (P:Y->U Y)(n:Y)(rk:Y->Y):Prop where
 lt:∀k,k<n->∀p∈P k,p<n
 dn:∀k,k<n->∀p∈P k,rk p<rk k
 few:∀k,k<n->rk k<13
theorem tw {P:Y->U Y}{n:Y}{b:Y->Y}(o:dX P n b):∀(f a k:Y),k<n->b k<f->b k<a->lgF P f k=lgF P a k
|0,_,_,_,h,_=>RM h<|Ly _
|_+1,0,_,_,_,h=>RM h<|Ly _
|f+1,a+1,k,hk,c,d=>by show 1+mxN ((P k).map<|lgF P f)=1+mxN ((P k).map<|lgF P a);rw[Mi λp hp=>tw o f a p (o.lt k hk p hp) (by have:=o.dn k hk p hp;lia) (by have:=o.dn k hk p hp;lia)]
def lg (P:Y->U Y)(k:Y):Y:=lgF P 13 k
theorem eV {P:Y->U Y}{n:Y}{a:Y->Y}(o:dX P n a){k:Y}(hk:k<n):lg P k=1+mxN ((P k).map<|lg P):=by show 1+mxN ((P k).map<|lgF P 12)=1+mxN ((P k).map<|lgF P 13);rw[Mi λp hp=>tw o 12 13 p (o.lt k hk p hp) (by have:=o.dn k hk p hp;have:=o.few k hk;lia) (by have:=o.dn k hk p hp;have:=o.few k hk;lia)]
theorem ox {P:Y->U Y}(k:Y):1<=lg P k:=by show 1<=1+_;lia
structure oY (P:Y->U Y)(n:Y)(os:U Y):Prop where
 nd:os.Nodup
 lt:∀x∈os,x<n
 all:∀k,k<n->k∈os
 pre:∀(i x:Y),os[i]?=O x->∀p∈P x,p∈os.take i
theorem ud {P:Y->U Y}{n:Y}{f:Y->Y}{os:U Y}(o:dX P n f)(t:oY P n os):∀(b i x:Y),i<b->os[i]?=O x->lg P x<=i+1
|0,_,_,h,_=>RM h<|Ly _
| b+1,i,x,h,e=>by
 rw[eV o<|t.lt x<|L0 e];have:mxN ((P x).map<|lg P)<=i:=i5 λy d=>by obtain⟨p,hp,rfl⟩:=KG.mp d;obtain⟨a,c,e2⟩:=NO.mp<|t.pre i x e p hp;rw[Ms] at c;rw[Q6] at e2;have:=ud o t b a p (by lia) (by rw[<- e2];exact KN _);lia
 lia
theorem d9:∀(n:Y) (l:U Y),l.Nodup->(∀x∈l,x<n)->l.length<=n
|0,l,_,h=>by
 cases l with
 |nil=>exact Kt _
 |cons a l=>exact RM (h a Ku)<|Ly _
| n+1,l,nd,h=>by
 have:=d9 n (l.erase n) (nd.erase n) λx hx=>by
  have b:=h x<|List.mem_of_mem_erase hx;have c:x≠n:=λe=>by subst e;exact(nd.not_mem_erase) hx
  lia
 have d:l.length<=(l.erase n).length+1:=by rw[List.length_erase];split<;>lia
 lia
theorem A6 {P:Y->U Y}{n:Y}{a:Y->Y}{os:U Y}(o:dX P n a)(t:oY P n os){k:Y}(hk:k<n):lg P k<=n:=by obtain⟨i,b,e⟩:=NO.mp<|t.all k hk;have:=ud o t (i+1) i k (MG _) (by rw[<- e];exact KN _);have:=d9 n os t.nd t.lt;lia
theorem wz {P:Y->U Y}{n:Y}{b:Y->Y}{os:U Y}(o:dX P n b)(t:oY P n os):mxN ((Kq n).map<|lg P)<=n:=i5 λy a=>by obtain⟨k,hk,rfl⟩:=KG.mp a;exact A6 o t<|Lc.mp hk
noncomputable abbrev nI (i:Y):T:=.int (i:Int)
def AR:T->Y
|.int i=>i.toNat
|_=>0
def PL (L:U T)(k:Y):U Y:=(ahT<|L.getD k .non).map AR
theorem jN:∀a:U Int,(∀x∈a,0<=x)->((a.map T.int).map AR).map nI=a.map T.int
|[],_=>rfl
|x::a,h=>by show nI x.toNat::((a.map T.int).map AR).map nI=_;rw[jN a λy b=>h y<|Kw _ b,nI,NT<|h x Ku];rfl
theorem gk {L:U T}(h:Sts L){k:Y}(hk:k<L.length):∃a b w,L.getD k .non=.tup [a,b,.int w,.lst<|(PL L k).map nI]/\(∀p∈PL L k,p<L.length)/\(PL L k).length<=12:=by
 obtain⟨i,c,w,f,e,_,_,_,_,d,g⟩:=h.st _<|gI hk;have e2:ahT (L.getD k .non)=f.map T.int:=by rw[e];rfl
 refine⟨_,_,w,by rw[PL,e2,jN f λx hx=>(d x hx).1];exact e,λp hp=>?_,by rw[PL,e2,Kr,Kr];exact g⟩;rw[PL,e2] at hp;obtain⟨t,l,rfl⟩:=KG.mp hp;obtain⟨x,hx,rfl⟩:=KG.mp l;have:=d x hx;show x.toNat<_;lia
theorem cV {L:U T}(m:Sts L):∃g,dX (PL L) L.length g:=by
 obtain⟨g,h⟩:=m.rk;refine⟨λk=>g (k:Int),λk hk p hp=>(gk m hk).elim λa ⟨b,w,_,l,_⟩=>l p hp,λk hk p hp=>?_,λk hk=>(h k hk).1⟩;obtain⟨_,a,b,c,r,e,l⟩:=h k hk;obtain⟨i,d,w,o,f,_,_,_,_,s,_⟩:=m.st _<|gI hk;rw[PL,e] at hp;have n:p∈(r.map T.int).map AR:=hp;obtain⟨t,v,rfl⟩:=KG.mp n;obtain⟨x,hx,rfl⟩:=KG.mp v;have u:=l x hx
 have:0<=x:=by
  rw[e] at f;injection f with f
  injection f with _ f
  injection f with _ f
  injection f with _ f
  injection f with f _
  injection f with f
  have:r=o:=(List.map_inj_right λa b h=>by injection h).mp f;exact(s x<|this ▸ hx).1
 show g ((x.toNat:Y):Int)<g (k:Int);rw[NT this];exact u
theorem jB:∀(L:U T) (k:Y),eL .s k L=(Kq L.length).map λi=>[((.d,nI<|k+i):W),(.s,L.getD i .non)]
|[],k=>rfl
|t::L,k=>by show[((.d,nI k):W),(.s,t)]::eL .s (k+1) L=_;rw[jB L<|k+1,Kz,List.range_succ_eq_map,K2,Lh];congr 1;apply Mi;intro i _;show[((.d,nI<|k+1+i):W),(.s,L.getD i .non)]=[((.d,nI<|k+(i+1)):W),(.s,(t::L).getD (i+1) .non)];rw[show k+1+i=k+(i+1) by lia];rfl
theorem d6 (L:U T):eL .s 0 L=(Kq L.length).map λi=>[((.d,nI i):W),(.s,L.getD i .non)]:=by rw[jB L 0];simp
theorem aZ (a:U Y):(a.map nI).map (λt=>[((.s,t):W)])=a.map λi=>[((.s,nI i):W)]:=by rw[Lh];rfl
noncomputable def cW (m:Y)(S:U<|U Y)(k:Y):U (U Y):=S.set k<|S.getD k []++[m]
def rh (P:Y->U Y)(S:U<|U Y)(m:Y):U (U Y):=(P m).foldl (cW m) S
def aE (P:Y->U Y)(n r:Y):U (U Y):=(Kq r).foldl (rh P)<|Ky n []
theorem bu (m:Y)(S:U<|U Y)(k:Y):(cW m S k).length=S.length:=by rw[cW,KZ]
theorem jI (m:Y):∀(a:U Y) (S:U<|U Y),(a.foldl (cW m) S).length=S.length
|[],S=>rfl
|k::a,S=>by rw[Nw,jI m a,bu]
theorem cF (m:Y)(S:U<|U Y)(k a:Y)(b:a<S.length):(cW m S k).getD a []=if k=a then S.getD a []++[m] else S.getD a []:=by
 rw[cW,Kv,Q5];by_cases h:k=a
 .subst h;rw[RJ rfl,RJ b,RJ rfl];rfl
 .rw[RK h,RK h,Kv]
theorem f7 (m:Y):∀(b:U Y) (S:U<|U Y) (a x:Y),a<S.length->((b.foldl (cW m) S).getD a []).count x=(S.getD a []).count x+(if x=m then b.count a else 0)
|[],S,a,x,_=>by simp
| k::b,S,a,x,c=>by
 rw[Nw,f7 m b _ a x<|by rw[bu];exact c,cF m S k a c,MF];by_cases h:k=a
 .subst h;rw[RJ rfl,NR];by_cases hx:x=m
  .subst hx;simp;lia
  .have z:[m].count x=0:=List.count_eq_zero_of_not_mem (by simpa using hx);rw[RK hx,RK hx,z]
 .rw [RK h];by_cases hx:x=m
  .rw[RJ hx,RJ hx,RK<|by simpa using h];lia
  .rw[RK hx,RK hx]
theorem iH (m:Y):∀(b:U Y) (S:U<|U Y) (a:Y),a<S.length->((b.foldl (cW m) S).getD a []).length<=(S.getD a []).length+b.length
|[],S,a,_=>by simp
|k::b,S,a,c=>by
 have:=iH m b (cW m S k) a (by rw[bu];exact c);rw[cF m S k a c] at this;rw[Nw,Kz];split at this
 .rw[KJ,Lf] at this;lia
 .lia
theorem dB (P:Y->U Y)(n r:Y):aE P n (r+1)=rh P (aE P n r) r:=by rw[aE,List.range_succ,List.foldl_append];rfl
theorem bI (P:Y->U Y)(n:Y):∀r,(aE P n r).length=n
|0=>by rw[aE,OQ,OY,LO]
|r+1=>by rw[dB,rh,jI,bI]
theorem ck (P:Y->U Y)(n:Y):∀(r a x:Y),a<n->((aE P n r).getD a []).count x=if x<r then(P x).count a else 0
|0,a,x,b=>by rw[aE,OQ,OY,Kv,MI,RJ b];simp
| r+1,a,x,b=>by
 rw[dB,rh,f7 _ _ _ _ _<|by rw[bI];exact b,ck P n r a x b];by_cases h:x=r
 .subst h;simp
 .rw [RK h];by_cases c:x<r
  .rw[RJ c,RJ<|by lia];rfl
  .rw[RK c,RK<|by lia]
theorem hZ (P:Y->U Y)(n:Y)(c:∀k,k<n->(P k).length<=12):∀(r a:Y),r<=n->a<n->((aE P n r).getD a []).length<=12 * r
|0,a,_,b=>by rw[aE,OQ,OY,Kv,MI,RJ b];simp
|r+1,a,g,b=>by have d:=iH r (P r) (aE P n r) a (by rw[bI];exact b);have e:=hZ P n c r a (by lia) b;have f:=c r (by lia);rw[dB,rh];lia
def mS (S:U<|U Y):U T:=S.map λl=>.lst<|l.map nI
theorem A7 {S:U<|U Y}{k m:Y}(hk:k<S.length)(g:S.length<1000)(f:(S.getD k []).length<1000)(c e:Md):kE (O (.d,.lst<|mS S)) (O (c,nI k)) (O (e,nI m))=O (.d,.lst<|mS<|cW m S k):=by
 have a:ixN (mS S).length (k:Int)=O k:=by
  have:k<(mS S).length:=by rw[mS,Kr];exact hk
  unfold ixN;rw[RJ<|by lia,RJ<|by lia];simp
 rw[BQ,a];have b:(mS S)[k]?=O (.lst ((S.getD k []).map nI)):=by rw[mS,KY,Kv,KN hk];rfl
 show apU (mS S) k (nI m) (mS S)[k]?=_;rw[b];show(if(decide (((S.getD k []).map nI).length<LIM)&&Kh)=Kh then O ((.d,.lst<|(mS S).set k<|.lst<|(S.getD k []).map nI++[nI m]):W) else J)=_;rw[RJ<|by rw[Kr,OX];exact RI<|by show _<16777215;lia];congr 3;rw[mS,mS,cW,Qg];simp
theorem BG (n:Y)(g h f:j W)(c:Md)(m:Y):∀(o:U Y) (S:U<|U Y) (r:j W),(∀k∈o,k<S.length)->S.length<100->(∀b,b<S.length->(S.getD b []).length+o.length<500) ->
 ∃l,aS [4] (evSs (C n) [.apN 1 4 2]) (o.map λi=>[((.s,nI i):W)]) [g,O (.d,.lst<|mS S),O (c,nI m),h,r,f]=.nx [g,O (.d,.lst<|mS<|o.foldl (cW m) S),O (c,nI m),h,l,f]
|[],S,r,_,_,_=>⟨r,rfl⟩
| k::o,S,r,t,v,u=>by
 have hk:=t k Ku;have x:=u k hk;rw[Kz] at x;have e:evSs (C n) [.apN 1 4 2] [g,O (.d,.lst (mS S)),O (c,nI m),h,O (.s,nI k),f]=.nx [g,O (.d,.lst (mS (cW m S k))),O (c,nI m),h,O (.s,nI k),f]:=by have a:=A7 (S:=S) (k:=k) (m:=m) hk (by lia) (by lia) .s c;have e2:evSs (C n) [.apN 1 4 2] [g,O (.d,.lst (mS S)),O (c,nI m),h,O (.s,nI k),f]=Fl.seq (nxO [g,O (.d,.lst (mS S)),O (c,nI m),h,O (.s,nI k),f] ((kE (O (.d,.lst (mS S))) (O (.s,nI k)) (O (c,nI m))).map λw=>put [g,O (.d,.lst (mS S)),O (c,nI m),h,O (.s,nI k),f] 1 w)) (evSs (C n) []):=rfl;rw[e2,a];rfl
 obtain⟨l,y⟩:=BG n g h f c m o (cW m S k) (O (.s,nI k)) (λb p=>by rw[bu];exact t b<|Kw _ p) (by rw[bu];exact v) (λb p=>by
  rw[bu] at p;have:=u b p;rw[Kz] at this;rw[cF m S k b p];split
  .rw[KJ,Lf];lia
  .lia)
 refine⟨l,?_⟩;show Fl.turn (evSs (C n) [.apN 1 4 2] [g,O (.d,.lst<|mS S),O (c,nI m),h,O (.s,nI k),f]) (aS [4] (evSs (C n) [.apN 1 4 2])<|o.map λi=>[((.s,nI i):W)])=_;rw[e];exact y
abbrev TB:U S:=[.forS [3] [] .seq [.op .ix Kg [.var 3,.cst<|.int 3]] [4] [.apN 1 4 2]]
theorem zQ (n:Y)(L:U T)(v:Sts L)(o:j W):
  ∃t o3 l,aS [2,3] (evSs (C n) TB) ((Kq L.length).map λi=>[((.d,nI i):W),(.s,L.getD i .non)]) [o,O (.d,.lst<|mS<|Ky L.length []),J,J,J,J]=.nx [o,O (.d,.lst<|mS<|aE (PL L) L.length L.length),t,o3,l,J]:=by
 obtain⟨I,u,t,o3,l,e⟩:=aU (tg:=[2,3]) (f:=evSs (C n) TB) (g:=λ(i:Y)=>[((.d,nI i):W),(.s,L.getD i .non)])
  (λpre G=>∃(t o3 l:j W),G=[o,O (.d,.lst<|mS<|aE (PL L) L.length pre.length),t,o3,l,J])
  (Kq L.length) [] [o,O (.d,.lst<|mS<|Ky L.length []),J,J,J,J] ⟨J,J,J,by rw[NL,aE];rfl⟩
  (by
   rintro p i r G hp ⟨t,o3,l,H⟩;subst H;rw[Lq] at hp;have y:=RY MH hp;simp only[K9,KJ,Kz] at y
   have A:i=p.length:=by
    have m:(Kq L.length)[p.length]?=(p++i::r)[p.length]?:=by rw[hp]
    rw[LZ<|by lia,L4<|Kt _,NM] at m;simpa using m.symm
   have x:i<L.length:=by lia
   obtain⟨a,b,w,e1,e2,e3⟩:=gk v x;have F:=v.len
   obtain⟨z,u⟩:=BG n o (O (.s,L.getD i .non)) J .d i (PL L i) (aE (PL L) L.length p.length) l (λk hk=>by rw[bI];exact e2 k hk) (by rw[bI];lia) (λc D=>by
    rw[bI] at D;have:=hZ (PL L) L.length (λk hk=>(gk v hk).elim λ_ ⟨_,_,_,_,h⟩=>h) p.length c (by lia) D;lia)
   have tm:=aZ<|PL L i;rw[e1] at u;refine⟨[o,O (.d,.lst<|mS<|aE (PL L) L.length p.length),O (.d,nI i),O (.s,L.getD i .non),l,J],[o,O (.d,.lst<|mS<|aE (PL L) L.length (p++[i]).length),O (.d,nI i),O (.s,L.getD i .non),z,J],rfl,?_,_,_,_,rfl⟩;rw[KJ,Lf,dB,<- A,e1];rw[<- A] at u;unfold rh;simp_all only[iI,tm,u])
 refine⟨t,o3,l,?_⟩;rw[u,e];simp
theorem Bt (n:Y)(L:U T)(c:Sts L)(m:Md):C (n+1) 290 [(m,.lst L)]=.ok ((.d,.lst<|mS<|aE (PL L) L.length L.length),[]):=by
 have b:∀a,aA [5] (bJ (evE (C n) (.lst Kh []))) (L.map λt=>[((.s,t):W)]) [a,J,J,J,J,J] []=.ok ([]++L.map (λ_=>((.d,.lst []):W)),[a,J,J,J,J,J]):=λa=>aI (λ_=>((.d,.lst []):W)) L [] λu i=>⟨_,[a,J,J,J,J,O (.s,u)],rfl,by simp_all only[],rfl⟩;have g:aK (L.map λ_=>((.d,.lst []):W))=mS (Ky L.length []):=by rw[ax (λ_=>Md.d) (λ_=>T.lst []) L,mS,Nj,Ow];rfl
 have h:(L.map λ_=>((.d,.lst []):W)).all okD=true:=K5.mpr λw e=>by obtain⟨_,_,rfl⟩:=KG.mp e;rfl
 have e1:=d6 L;obtain⟨k,o3,l,f⟩:=zQ n L c<|O (.s,.lst L);rw[gD,x_run _ _ _ rfl];simp_all only[bw,b,g,h,e1,f]
theorem eh {n:Y}{p r:U Y}{i:Y}(h:Kq n=p++i::r):i=p.length/\i<n:=by
 have b:=RY MH h;simp only[K9,KJ,Kz] at b;have a:(Kq n)[p.length]?=(p++i::r)[p.length]?:=by rw[h]
 rw[LZ<|by lia,L4<|Kt _,NM] at a;have e:i=p.length:=by simpa using a.symm
 exact⟨e,by lia⟩
def cnt (D l:U Y):Y:=l.countP λp=>decide (p ∉ D)
theorem fE {D:U Y}{x:Y}(hx:x ∉ D):∀l:U Y,cnt D l=cnt (D++[x]) l+l.count x
|[]=>rfl
| y::l=>by
 have b:=fE hx l;unfold cnt at b ⊢;rw[Mr,Mr,MF,b];by_cases h:y=x
 .subst h;simp[hx];lia
 .by_cases a:y∈D
  .simp[h,a]
  .simp[h,a];lia
theorem cnt_zero {D l:U Y}:cnt D l=0 ↔ ∀p∈l,p∈D:=by simp[cnt,Q0]
structure Kn (P:Y->U Y)(n:Y)(D td u aw:U Y):Prop where
 len:aw.length=n
 cn:∀m,m<n->aw.getD m 0+u.count m=cnt D (P m)
 nd:td.Nodup
 lt:∀y∈td,y<n
 iff:∀m,m<n->(m∈td ↔ aw.getD m 0=0)
 ord:∀(i y:Y),td[i]?=O y->∀p∈P y,p∈td.take i
theorem aq (l:U Y)(m a v:Y)(b:m<l.length):(l.set m v).getD a 0=if m=a then v else l.getD a 0:=by
 rw[Kv,Q5];by_cases h:m=a
 .subst h;rw[RJ rfl,RJ rfl,RJ b];rfl
 .rw[RK h,RK h,Kv]
theorem Kn.pos {P:Y->U Y}{n:Y}{D c u a:U Y}{x m:Y}(h:Kn P n D c u a)(hx:x ∉ D)(b:m<n)(f:u.count m+1<=(P m).count x):1<=a.getD m 0:=by have d:=h.cn m b;have e:=fE hx<|P m;lia
theorem Kn.step {P:Y->U Y}{n:Y}{D f u g:U Y}{x m:Y}(h:Kn P n D f u g)(hx:x ∉ D)(F:∀y∈D++[x],y∈f)(k:m<n)(H:u.count m+1<=(P m).count x):
  Kn P n D (if g.getD m 0-1=0 then f++[m] else f) (u++[m]) (g.set m<|g.getD m 0-1):=by
 have v:=h.pos hx k H;have l:m<g.length:=by rw[h.len];exact k
 have w:m ∉ f:=λz=>by have:=(h.iff m k).mp z;lia
 have I:=h.cn m k;have L:=fE hx<|P m
 have A:∀c,(u++[m]).count c=u.count c+if m=c then 1 else 0:=λc=>by
  rw[NR,MF,MZ];by_cases e:m=c
  .simp[e]
  .simp[e]
 constructor
 .rw[KZ];exact h.len
 .intro c s;rw[aq g m c _ l,A];by_cases e:m=c
  .subst e;rw[RJ rfl,RJ rfl];lia
  .rw[RK e,RK e];exact h.cn c s
 .split
  .rw [Py];exact⟨h.nd,by simp,λa v b G e=>by rw[K1.mp G] at e;exact w<|e ▸ v⟩
  .exact h.nd
 .intro y d;split at d
  .rcases Li.mp d with z | z
   .exact h.lt y z
   .rw[K1.mp z];exact k
  .exact h.lt y d
 .intro c s;rw[aq g m c _ l];by_cases e:m=c
  .subst e;rw[RJ rfl];split
   .simp_all
   .exact⟨λz=>RM z w,λz=>by lia⟩
  .rw [RK e,<- h.iff c s];split
   .rw [Li,K1];exact⟨λz=>z.elim id λq=>RM q.symm e,.inl⟩
   .exact Iff.rfl
 .intro i y d p hp;split at d
  .rename_i o;rw[RJ o];rcases LW i f.length with hi|hi
   .rw [M1 hi] at d;rw[Oz<|NN hi];exact h.ord i y d p hp
   .rw [L4 hi] at d
    have t:i-f.length=0:=by
     by_cases t:i-f.length=0
     .exact t
     .rw[Mv<|by simp;lia] at d;cases d
    rw[t] at d;cases d;have r:i=f.length:=by lia
    rw[r,Oz<|Kt _,NW];exact F p<|cnt_zero.mp (by lia) p hp
  .rename_i o;rw[RK o];exact h.ord i y d p hp
theorem Kn.next {P:Y->U Y}{n:Y}{D c u a:U Y}{x:Y}(h:Kn P n D c u a)(hx:x ∉ D)(d:∀m,m<n->u.count m=(P m).count x):Kn P n (D++[x]) c [] a:=by refine⟨h.len,λm b=>?_,h.nd,h.lt,h.iff,h.ord⟩;have e:=h.cn m b;have f:=fE hx<|P m;have g:=d m b;rw[MZ];lia
theorem Kn.done {P:Y->U Y}{n:Y}{d:Y->Y}{a e:U Y}(o:dX P n d)(h:Kn P n a a [] e):oY P n a:=by
 refine⟨h.nd,h.lt,?_,h.ord⟩
 have c:∀b k,d k<b->k<n->k∈a:=by
  intro b;induction b with
  |zero=>intro k h;exact RM h<|Ly _
  |succ b f=>intro k g hk;have z:cnt a (P k)=0:=cnt_zero.mpr λp hp=>f p (by have:=o.dn k hk p hp;lia)<|o.lt k hk p hp;have:=h.cn k hk;exact(h.iff k hk).mpr<|by lia
 exactλk hk=>c 13 k (o.few k hk) hk
theorem Kn.start {P:Y->U Y}{n:Y}:Kn P n [] ((Kq n).filter λm=>(P m).length==0) [] ((Kq n).map λm=>(P m).length):=by
 have g:∀m,m<n->((Kq n).map λm=>(P m).length).getD m 0=(P m).length:=λm a=>by rw[Kv,KY,LZ a];rfl
 refine⟨by rw[Kr,K9],λm a=>?_,(OV).filter _,λy b=>Lc.mp (LG.mp b).1,λm a=>?_,λi y b p hp=>?_⟩
 .rw [g m a,MZ];simp[cnt]
 .rw [g m a,LG,Lc];simp[a]
 .have:=(LG.mp<|L0 b).2;rw[R9,OI] at this;rw[this] at hp;cases hp
theorem dg {l:U Y}{m:Y}(h:m<l.length):ixN (l.map nI).length (m:Int)=O m:=by unfold ixN;rw[Kr,RJ<|by lia,RJ<|by lia];simp
theorem aO {l:U Y}{m:Y}(h:m<l.length):atI (l.map nI) (m:Int)=O (nI<|l.getD m 0):=by unfold atI;rw[dg h];show(l.map nI)[m]?=_;rw[KY,Kv,KN h];rfl
theorem cU (l:U Y)(m v:Y):(l.map nI).set m (nI v)=(l.set m v).map nI:=(Qg ..).symm
theorem p9 (l:U Y)(m:Y):l.map nI++[nI m]=(l++[m]).map nI:=by rw[LY];rfl
theorem vT {n:Y}(h:n<1000):n<LIM:=by show n<16777215;lia
abbrev KA:U S:=[.setI (.q [1,6] []) 1 (.var 6)<|.op .sub Kg [.op .ix Kg [.var 1,.var 6],.cst<|.int 1]]
abbrev KB:U S:=[.ite (.q [1,6] []) (.op .eq Kg [.op .ix Kg [.var 1,.var 6],.cst<|.int 0]) [.app (.q [6] []) 3<|.var 6] []]
theorem ER (n:Y)(c d e f g:j W)(a:U Y)(m:Y)(b:m<a.length)(i:1<=a.getD m 0):
  evSs (C n) KA [c,O (.o .s,.lst<|a.map nI),d,e,f,g,O (.s,nI m),J,J,J]=.nx [c,O (.o .s,.lst<|(a.set m<|a.getD m 0-1).map nI),d,e,f,g,O (.s,nI m),J,J,J]:=by
 have e1:=aO b;have e2:=dg b;have e3:((a.getD m 0:Y):Int)-1=((a.getD m 0-1:Y):Int):=by lia
 have h:=cU a m<|a.getD m 0-1;simp_all only[e1,e2,e3,h]
theorem Fb (n:Y)(c e f g:j W)(a b:U Y)(m:Y)(k:m<a.length)(l:b.length<500):
  evSs (C n) KB [c,O (.o .s,.lst<|a.map nI),e,O (.d,.lst<|b.map nI),f,g,O (.s,nI m),J,J,J]=.nx [c,O (.o .s,.lst<|a.map nI),e,O (.d,.lst<|(if a.getD m 0=0 then b++[m] else b).map nI),f,g,O (.s,nI m),J,J,J]:=by
 have e1:=aO k;by_cases h:a.getD m 0=0
 .have e2:(((a.getD m 0:Y):Int)==0)=true:=by rw [h]; rfl
  have e3:=p9 b m;have i:(b.map nI).length<LIM:=by rw[Kr];exact vT<|by lia
  rw[RJ h];simp_all only[e1,e2,e3,i]
 .have e2:(((a.getD m 0:Y):Int)==0)=false:=by rw [R7]; lia
  rw[RK h];simp_all only[e1,e2]
abbrev KI:U S:=[
    .setI (.q [1,6] []) 1 (.var 6) (.op .sub Kg [.op .ix Kg [.var 1,.var 6],.cst<|.int 1]),
    .ite (.q [1,6] []) (.op .eq Kg [.op .ix Kg [.var 1,.var 6],.cst<|.int 0]) [.app (.q [6] []) 3<|.var 6] []]
theorem Ba (k n:Y)(P:Y->U Y)(hn:n<=12)(D:U Y)(x:Y)(hx:x ∉ D)(H:U Y)(Z:∀m,m<n->H.count m=(P m).count x)(p t v w:j W):
 ∀(r u a b:U Y) (G:j W),u++r=H->(∀m∈r,m<n)->Kn P n D a u b->(∀y∈D++[x],y∈a) ->
 ∃c f l,aS [6] (evSs (C k) KI) (r.map λi=>[((.s,nI i):W)]) [p,O (.o .s,.lst<|b.map nI),t,O (.d,.lst<|a.map nI),v,w,G,J,J,J]=.nx [p,O (.o .s,.lst<|f.map nI),t,O (.d,.lst<|c.map nI),v,w,l,J,J,J]/\Kn P n D c H f/\∃e,c=a++e
|[],u,a,b,G,A,_,h,_=>⟨a,b,G,rfl,by rw[<- A,La];exact h,[],by simp⟩
| m::r,u,a,b,G,A,Q,h,I=>by
 have z:=Q m Ku;have N:u.count m+1<=(P m).count x:=by rw[<- Z m z,<- A,NR,MF];simp
 have hp:=h.pos hx z N;have g:m<b.length:=by rw[h.len];exact z
 have htl:=d9 n a h.nd h.lt;have e1:=ER k p t (O (.d,.lst<|a.map nI)) v w b m g hp;have e2:=Fb k p t v w (b.set m<|b.getD m 0-1) a m (by rw[KZ];exact g) (by lia);rw[aq b m m _ g,RJ rfl] at e2;have h':=h.step hx I z N
 have L:∀y∈D++[x],y∈(if b.getD m 0-1=0 then a++[m] else a):=λy F=>by
  split
  .exact LU _ (I y F)
  .exact I y F
 obtain⟨c,f,l,lp,h2,e,M⟩:=Ba k n P hn D x hx H Z p t v w r (u++[m]) _ _ (O (.s,nI m)) (by rw[Ll];exact A) (λy F=>Q y<|Kw _ F) h' L;refine⟨c,f,l,?_,h2,?_⟩
 .show Fl.turn (evSs (C k) (KA++KB) [p,O (.o .s,.lst<|b.map nI),t,O (.d,.lst<|a.map nI),v,w,O (.s,nI m),J,J,J]) (aS [6] (evSs (C k) KI)<|r.map fun i=>[((.s,nI i):W)])=_;rw[go1 e1,e2];exact lp
 .split at M
  .exact⟨[m]++e,by rw[M,Ll]⟩
  .exact⟨e,M⟩
abbrev KW:U S:=[
   .asg (.q [3,4] []) 5 (.op .ix Kg [.var 3,.var 4]),
   .forS [2] [5] .seq [.op .ix Kg [.var 2,.var 5]] [6] KI,
   .asg (.q [4] []) 4 (.op .add Kg [.var 4,.cst<|.int 1])]
theorem pF {S:U<|U Y}{x:Y}(h:x<S.length):atI (mS S) (x:Int)=O (.lst<|(S.getD x []).map nI):=by
 have:ixN (mS S).length (x:Int)=O x:=by unfold ixN;rw[mS,Kr,RJ<|by lia,RJ<|by lia];simp
 unfold atI;rw[this];show(mS S)[x]?=_;rw[mS,KY,Kv,KN h];rfl
theorem FX (k n:Y)(P:Y->U Y)(hn:n<=12)(F o5 L:j W)(b r:U Y)(a:Y)(t:a<b.length)(h:Kn P n (b.take a) b [] r)(m2 I:Md):
  ∃c f w A D p,evSs (C k) KW [F,O (.o .s,.lst<|r.map nI),O (m2,.lst<|mS<|aE P n n),O (.d,.lst<|b.map nI),O (I,nI a),o5,L,J,J,J]=.nx [F,O (.o .s,.lst<|f.map nI),O (w,.lst<|mS<|aE P n n),O (.d,.lst<|c.map nI),O (A,nI<|a+1),D,p,J,J,J]/\Kn P n (c.take<|a+1) c [] f/\a+1<=c.length:=by
 have hx:b[a]?=O (b.getD a 0):=by rw[Kv,KN t];rfl
 generalize v:b.getD a 0=x at hx;have i:x<n:=h.lt x<|L0 hx;have g:b.take (a+1)=b.take a++[x]:=by rw[Pg,hx];rfl
 have l:x ∉ b.take a:=λz=>by have nd:(b.take (a+1)).Nodup:=h.nd.sublist<|Pj _ _;rw[g,Py] at nd;exact nd.2.2 x z x (by simp) rfl
 have M:∀m,m<n->((aE P n n).getD x []).count m=(P m).count x:=λm u=>by rw[ck P n n x m i,RJ u]
 have sl:∀m∈(aE P n n).getD x [],m<n:=λm u=>by
  rcases LW m n with z|z
  .exact z
  .have:=ck P n n x m i;rw[RK<|by lia] at this;exact RM u<|QT.mp this
 obtain⟨c,f,p,lp,Q,e,G⟩:=Ba k n P hn (b.take a) x l ((aE P n n).getD x []) M F (O (.s,.lst<|mS<|aE P n n)) (O (I,nI a)) (O (.d,nI x)) ((aE P n n).getD x []) [] b r L rfl sl h (λy H=>by rw[<- g] at H;exact O8 H);have e1:=aO t;rw[v] at e1;have e2:=pF (S:=aE P n n) (x:=x) (by rw[bI];exact i);have e3:=aZ<|(aE P n n).getD x [];have N:((a:Y):Int)+1=((a+1:Y):Int):=by lia
 have Z:a+1<=b.length:=t;have hk:c.take (a+1)=b.take a++[x]:=by rw[G,Oz Z,g]
 refine⟨c,f,_,_,_,_,by simp_all only[e1,e2,e3,lp,N];rfl,by rw[hk];exact Q.next l M,by rw[G,KJ];lia⟩
theorem bX {k:Type}{d:U Y}{f:Env->Res (j W×Env)}{i:Env}{g:k->U W}(w:k->j W):∀(e:U k) (a:U W),(∀x∈e,∃b c,bA d (g x) i=O b/\f b=.ok (w x,c)/\ag d c=i) ->
 aA d f (e.map g) i a=.ok (a++e.filterMap w,i)
|[],a,_=>by rw[Nh,List.filterMap_nil,La];rfl
|x::e,a,h=>by obtain⟨b,c,l,m,n⟩:=h x Ku;rw[K2];show(ofO<|bA d (g x) i).bind _=_;rw[l];show(f b).bind _=_;rw[m];show aA d f (e.map g) (ag d c) (a++(w x).toList)=_;rw[n,bX w e _ λy o=>h y<|Kw _ o,Ll,Mk];cases w x<;>rfl
theorem jU {a:Type}(f:T->a)(L:U T):L.map f=(Kq L.length).map λi=>f (L.getD i .non):=by
 apply Pe;intro i;rw[KY,KY];rcases LW i L.length with h|h
 .rw [LZ h,KN h];show O (f L[i])=O (f<|L.getD i .non);rw[Kv,KN h];rfl
 .rw[Mv h,Mv<|by rw[K9];exact h];rfl
theorem aW {a:Type}(c:Y->RN)(g:Y->a):∀l:U Y,l.filterMap (λi=>if c i then O (g i) else J)=(l.filter c).map g
|[]=>rfl
|x::l=>by
 rw[Mk,P7];cases h:c x with
 |true=>rw[RJ rfl,RJ rfl,K2,aW c g l]
 |false=>rw[RK KH,RK KH,aW c g l]
theorem tG {L:U T}(k:Y):(ahT<|L.getD k .non).length=(PL L k).length:=by rw[PL,Kr]
abbrev KC:E:=.op .lt Kg [.var 4,.op .len Kg [.var 3]]
theorem ja (k:Y)(L:U T)(H:Sts L)(m:Md):∃os,oY (PL L) L.length os/\C (k+2) 296 [(m,.lst L)]=.ok ((.d,.lst<|os.map nI),[]):=by
 obtain⟨rk,o⟩:=cV H;have hn:=H.len
 -- for how many each waits
 have c1:aA [7] (bJ (evE (C (k+1)) (.op .len Kg [.op .ix Kg [.var 7,.cst (.int 3)]]))) (L.map λt=>[((.s,t):W)]) [O (.s,.lst L),J,J,J,J,J,J,J,J,J] []=.ok ([]++L.map (λu=>((.d,nI (ahT u).length):W)),[O (.s,.lst L),J,J,J,J,J,J,J,J,J]):=aI (λu=>((.d,nI (ahT u).length):W)) L [] λu hu=>⟨_,[O (.s,.lst L),J,J,J,J,J,J,O (.s,u),J,J],rfl,by
  obtain⟨i,b,w,ns,rfl,_⟩:=H.st u hu;have e:ahT (.tup [.tup [.int (i:Int),.int (b:Int)],.tup [],.int w,.lst (ns.map T.int)])=ns.map T.int:=rfl;rw[e];simp_all only[iI],rfl⟩
 generalize x:(Kq L.length).map (λm=>(PL L m).length)=l;have t1:aK (L.map λu=>((.d,nI (ahT u).length):W))=l.map nI:=by rw[ax (λ_=>Md.d) (λu=>nI (ahT u).length) L,jU,<- x,Lh];exact Mi λi _=>by show nI _=nI _;rw[tG]
 have v:=Kn.start (P:=PL L) (n:=L.length);rw[x] at v;have hal:=v.len;have e1:=Bt k L H
 -- those that wait for J
 have e2:=d6<|l.map nI;have gA:∀i,i<l.length->(l.map nI).getD i .non=nI (l.getD i 0):=λi y=>by rw[Kv,KY,KN y,Kv,KN y];rfl
 have c2:∀I M N:j W,aA [8,9] (cw (evE (C (k+1)) (.op .eq Kg [.var 9,.cst (.int 0)])) (evE (C (k+1)) (.var 8))) ((Kq (l.map nI).length).map λi=>[((.d,nI i):W),(.s,(l.map nI).getD i .non)]) [I,M,N,J,J,J,J,J,J,J] []=.ok ([]++(Kq (l.map nI).length).filterMap (λi=>if l.getD i 0==0 then O ((.d,nI i):W) else J),[I,M,N,J,J,J,J,J,J,J]):=λI M N=>bX (λi=>if l.getD i 0==0 then O ((.d,nI i):W) else J) _ [] λi y=>by
  have hi':i<l.length:=by rw[Lc,Kr] at y;exact y
  have g:=gA i hi';refine⟨_,[I,M,N,J,J,J,J,J,O (.d,nI i),O (.s,nI<|l.getD i 0)],by rw[g];rfl,?_,rfl⟩;cases Z:l.getD i 0==0 with
  |true=>
   have e3:(((l.getD i 0:Y):Int)==0)=true:=by rw[R9] at Z;rw[Z];rfl
   rw[RJ rfl];simp_all only[e3]
  |false=>
   have e3:(((l.getD i 0:Y):Int)==0)=false:=by rw[R7] at Z ⊢;lia
   rw[RK KH];simp_all only[e3]
 have t2:(Kq (l.map nI).length).filterMap (λi=>if l.getD i 0==0 then O ((.d,nI i):W) else J)=((Kq L.length).filter λm=>(PL L m).length==0).map λi=>((.d,nI i):W):=by rw[aW (λi=>l.getD i 0==0) λi=>((.d,nI i):W),Kr,hal];congr 1;exact List.filter_congr λi y=>by rw[<- x,Kv,KY,LZ<|Lc.mp y];rfl
 generalize htd:(Kq L.length).filter (λm=>(PL L m).length==0)=p at v t2;have t3:aK (p.map λi=>((.d,nI i):W))=p.map nI:=ax (λ_=>Md.d) nI p;have t4:(p.map λi=>((.d,nI i):W)).all okD=true:=K5.mpr λw hw=>by obtain⟨_,_,rfl⟩:=KG.mp hw;rfl
 obtain⟨η',lp,os,G,z,A,D,F,ht,rfl⟩:=eD (c:=evT (C<|k+1) (.q [3,4] []) KC) (f:=evSs (C<|k+1) KW)
  (λr Q=>∃(a:Y) (p l:U Y) (z A:Md) (D F:j W),r=L.length-a/\a<=p.length/\Kn (PL L) L.length (p.take a) p [] l/\Q=[O (.s,.lst L),O (.o .s,.lst<|l.map nI),O (z,.lst<|mS<|aE (PL L) L.length L.length),O (.d,.lst<|p.map nI),O (A,nI a),D,F,J,J,J])
  (λQ=>∃(p l:U Y) (z A:Md) (D F:j W),oY (PL L) L.length p/\Q=[O (.s,.lst L),O (.o .s,.lst<|l.map nI),O (z,.lst<|mS<|aE (PL L) L.length L.length),O (.d,.lst<|p.map nI),O (A,nI p.length),D,F,J,J,J])
  jb L.length [O (.s,.lst L),O (.o .s,.lst<|l.map nI),O (.d,.lst<|mS<|aE (PL L) L.length L.length),O (.d,.lst<|p.map nI),O (.d,.int 0),J,J,J,J,J] (by show L.length<1000000000000;lia)
  ⟨0,p,l,.d,.d,J,J,rfl,K4 _,v,rfl⟩
  (by
   rintro r Q ⟨a,p,l,z,A,D,F,hr,ha,h,he⟩;subst he;have l1:(p.map nI).length=p.length:=Kr _;have htl:=d9 L.length p h.nd h.lt;rcases LW a p.length with hlt|hge
   .right;have d:decide (((a:Y):Int)<((p.length:Y):Int))=true:=RI (by lia);obtain⟨td',G,m2',m4',o5',o6',e,h',ha'⟩:=FX (k+1) L.length (PL L) hn (O (.s,.lst L)) D F p l a hlt h z A;exact⟨_,_,L.length-(a+1),by simp_all only[l1,d],e,by lia,a+1,td',G,m2',m4',o5',o6',rfl,ha',h',rfl⟩
   .left;have d:decide (((a:Y):Int)<((p.length:Y):Int))=false:=RR (by lia);have hae:a=p.length:=by lia
    subst hae;rw[NW] at h;exact⟨_,by simp_all only[l1,d],p,l,z,A,D,F,h.done o,rfl⟩)
 refine⟨os,ht,?_⟩;rw[nB,x_run _ _ _ rfl];simp_all only[cK,c1,t1,e1,e2,c2,t2,t3,t4,lp]
theorem b9:∀l:U Y,intsOf (l.map nI)=O (l.map λ(i:Y)=>(i:Int))
|[]=>rfl
|x::l=>by show(intsOf<|l.map nI).map ((x:Int)::·)=_;rw[b9 l];rfl
theorem gK:∀l:U Y,maxI (l.map λ(i:Y)=>(i:Int))=((mxN l:Y):Int)
|[]=>rfl
|[x]=>by show(x:Int)=((max x 0:Y):Int);rw[Qh]
|x::y::l=>by have a:=gK (y::l);show max (x:Int) (maxI<|(y::l).map λ(i:Y)=>(i:Int))=((max x (mxN (y::l)):Y):Int);rw[a];lia
theorem mf (l:U Y):(if(l.map λ(i:Y)=>(i:Int)).isEmpty=Kh then(0:Int) else maxI<|l.map λ(i:Y)=>(i:Int))=((mxN l:Y):Int):=by
 cases l with
 |nil=>rfl
 |cons x l=>rw[RK<|by simp];exact gK _
abbrev LA:U S:=[.setI (.q [0,1] [2]) 1 (.var 2)<|.op .add Kg [.cst<|.int 1,.op .maxZ Kg [.comp Kg .seq [.op .ix Kg [.op .ix Kg [.var 0,.var 2],.cst<|.int 3]] [6] J<|.op .ix Kg [.var 1,.var 6]]]]
theorem Hi (k:Y)(L:U T)(D:Sts L)(c:U Y)(f:c.length=L.length)(x:Y)(hx:x<L.length)(n r t:j W)(h:Md):
  evSs (C k) LA [O (.s,.lst L),O (.o .s,.lst<|c.map nI),O (h,nI x),n,r,t,J,J]=.nx [O (.s,.lst L),O (.o .s,.lst<|(c.set x<|1+mxN ((PL L x).map λp=>c.getD p 0)).map nI),O (h,nI x),n,r,t,J,J]:=by
 obtain⟨a,b,w,e1,e2,e3⟩:=gk D hx
 have u:∀d:j W,aA [6] (bJ (evE (C k) (.op .ix Kg [.var 1,.var 6]))) ((PL L x).map λi=>[((.s,nI i):W)]) [O (.s,.lst L),O (.s,.lst (c.map nI)),d,J,J,J,J,J] []=.ok ([]++(PL L x).map (λp=>((.s,nI (c.getD p 0)):W)),[O (.s,.lst L),O (.s,.lst (c.map nI)),d,J,J,J,J,J]):=λd=>aI (λp=>((.s,nI<|c.getD p 0):W)) (PL L x) [] λp hp=>⟨_,[O (.s,.lst L),O (.s,.lst<|c.map nI),d,J,J,J,O (.s,nI p),J],rfl,by
  have g:=aO (l:=c) (m:=p) (by rw[f];exact e2 p hp);simp_all only[g],rfl⟩
 have F:aK ((PL L x).map λp=>((.s,nI (c.getD p 0)):W))=((PL L x).map λp=>c.getD p 0).map nI:=by rw[ax (λ_=>Md.s) λp=>nI<|c.getD p 0,Lh];rfl
 have G:=b9<|(PL L x).map λp=>c.getD p 0;have H:=mf<|(PL L x).map λp=>c.getD p 0;have e:=iT hx;rw[e1] at e;have v:=aZ<|PL L x;have y:=dg (l:=c) (m:=x) (by rw[f];exact hx);have z:1+((mxN ((PL L x).map λp=>c.getD p 0):Y):Int)=((1+mxN ((PL L x).map λp=>c.getD p 0):Y):Int):=by lia
 have A:=cU c x<|1+mxN ((PL L x).map λp=>c.getD p 0);simp_all only[e,iI,v,u,F,G,H,y,z,A]
theorem zD (k:Y)(L:U T)(A:Sts L){os:U Y}(w:oY (PL L) L.length os)(l m n:j W):
  ∃a c,aS [2] (evSs (C k) LA) (os.map λi=>[((.s,nI i):W)]) [O (.s,.lst L),O (.o .s,.lst<|(Ky L.length 0).map nI),J,l,m,n,J,J]=.nx [O (.s,.lst L),O (.o .s,.lst<|a.map nI),c,l,m,n,J,J]/\a=(Kq L.length).map (lg<|PL L):=by
 obtain⟨P,o⟩:=cV A
 obtain⟨N,M,a,c,b,t,e⟩:=aU (tg:=[2]) (f:=evSs (C k) LA) (g:=λ(i:Y)=>[((.s,nI i):W)])
  (λpre D=>∃(a:U Y) (c:j W),a.length=L.length/\(∀x∈pre,a.getD x 0=lg (PL L) x)/\D=[O (.s,.lst L),O (.o .s,.lst<|a.map nI),c,l,m,n,J,J])
  os [] [O (.s,.lst L),O (.o .s,.lst<|(Ky L.length 0).map nI),J,l,m,n,J,J] ⟨_,J,LO,(λ_ z=>nomatch z),rfl⟩
  (by
   rintro p x r D hp ⟨a,c,b,t,F⟩;subst F;rw[Lq] at hp;have u:os[p.length]?=O x:=by rw[hp,L4<|Kt _,NM];rfl
   have hx:=w.lt x<|L0 u;have h:∀q∈PL L x,q∈p:=λq v=>by have:=w.pre p.length x u q v;rw[hp,Oz<|Kt _,NW] at this;exact this
   have e:=Hi k L A a b x hx l m n .s;have H:1+mxN ((PL L x).map λq=>a.getD q 0)=lg (PL L) x:=by rw[eV o hx,Mi λq v=>t q<|h q v]
   rw[H] at e;refine⟨_,_,rfl,e,a.set x<|lg (PL L) x,_,by rw[KZ];exact b,λy I=>?_,rfl⟩;rw[aq a x y _<|by rw[b];exact hx];split
   .rename_i z;rw[z]
   .rename_i z;rcases Li.mp I with q|q
    .exact t y q
    .exact RM (K1.mp q).symm z)
 refine⟨a,c,by rw[M,e],OU (by rw[Kr,K9];exact b) λi d G=>?_⟩;have u:i<L.length:=by rw[<- b];exact d
 have:=t i (by simpa using w.all i u);rw[Kv,KN d] at this;rw[P6,QS];exact this
def Cn (P:Y->U Y):U Y->Prop
|a::b::r=>a∈P b/\Cn P (b::r)
|_=>Sv
abbrev RA:U S:=[.app (.q [1,4] [5]) 3<|.op .ix Kg [.comp Kg .seq [.var 4] [7] (O<|.op .eq Kg [.op .ix Kg [.var 1,.var 7],.var 5])<|.var 7,.cst<|.int 0]]
noncomputable abbrev RZ:U S:=[.asg (.l [0]) 4<|.op .ix Kg [.op .ix Kg [.var 0,.qx [3] []<|.op .ix Kg [.var 3,.op .neg Kg [.cst<|.int 1]]],.cst<|.int 3]]
theorem d7 (a b:Y):(((a:Y):Int)==((b:Y):Int))=(a==b):=by
 by_cases h:a=b
 .subst h;simp
 .rw[beq_eq_false_iff_ne.mpr h,beq_eq_false_iff_ne.mpr<|by lia]
theorem GP (k:Y)(a ch d:U Y)(v y:Y)(G:∀z∈ch,z<a.length)(e:(ch.filter λz=>a.getD z 0==v).head?=O y)(N:d.length<500)(w x:j W)(r h t b:Md)(f:h=.o .s):
  evSs (C k) RA [w,O (r,.lst<|a.map nI),x,O (h,.lst<|d.reverse.map nI),O (t,.lst<|ch.map nI),O (b,nI v),J,J]=.nx [w,O (r,.lst<|a.map nI),x,O (h,.lst<|(y::d).reverse.map nI),O (t,.lst<|ch.map nI),O (b,nI v),J,J]:=by
 subst f
 have A:∀b:Md,aA [7] (cw (evE (C k) (.op .eq Kg [.op .ix Kg [.var 1,.var 7],.var 5])) (evE (C k) (.var 7))) (ch.map λi=>[((.s,nI i):W)]) [J,O (.s,.lst (a.map nI)),J,J,O (.s,.lst (ch.map nI)),O (b,nI v),J,J] []=.ok ([]++ch.filterMap (λz=>if a.getD z 0==v then O ((.s,nI z):W) else J),[J,O (.s,.lst (a.map nI)),J,J,O (.s,.lst (ch.map nI)),O (b,nI v),J,J]):=λb=>bX (λz=>if a.getD z 0==v then O ((.s,nI z):W) else J) ch [] λz H=>by
  refine⟨_,[J,O (.s,.lst<|a.map nI),J,J,O (.s,.lst<|ch.map nI),O (b,nI v),J,O (.s,nI z)],rfl,?_,rfl⟩;have g:=aO<|G z H;have c:=d7 (a.getD z 0) v;cases n:a.getD z 0==v with
  |true=>rw[n] at c;rw[RJ rfl];simp_all only[g,c]
  |false=>rw[n] at c;rw[RK KH];simp_all only[g,c]
 have I:=aW (λz=>a.getD z 0==v) (λz=>((.s,nI z):W)) ch;have L:aK ((ch.filter λz=>a.getD z 0==v).map λz=>((.s,nI z):W))=(ch.filter λz=>a.getD z 0==v).map nI:=ax (λ_=>Md.s) nI _
 have M:atI ((ch.filter λz=>a.getD z 0==v).map nI) 0=O (nI y):=by
  cases p:ch.filter λz=>a.getD z 0==v with
  |nil=>rw[p] at e;cases e
  |cons u l=>rw[p] at e;cases e;exact aO (l:=y::l) (m:=0)<|Nat.zero_lt_succ _
 have c:=aZ ch;have D:d.reverse.map nI++[nI y]=(y::d).reverse.map nI:=by rw[p9,Ny]
 have F:(d.reverse.map nI).length<LIM:=by rw[Kr,Ot];exact vT<|by lia
 simp_all only[c,A,I,L,M,D,F]
theorem kW {l:U T}{t:T}(h:l.getLast?=O t):atI l (-1)=O t:=by
 cases l with
 |nil=>cases h
 | cons a r =>
  have e:ixN (a::r).length (-1)=O r.length:=by unfold ixN;rw[RK<|by decide,RJ<|by rw[Kz];lia];congr 1;rw[Kz];lia
  unfold atI;rw[e];show(a::r)[r.length]?=O t;rw[List.getLast?_eq_getElem?] at h;simpa using h
theorem Hj (k:Y)(L:U T)(m:Sts L)(c:U Y)(y:Y)(e:y<L.length)(g h o i:j W)(f:Md):
  evSs (C k) RZ [O (.s,.lst L),g,h,O (f,.lst<|(y::c).reverse.map nI),o,i,J,J]=.nx [O (.s,.lst L),g,h,O (f,.lst<|(y::c).reverse.map nI),O (.s,.lst<|(PL L y).map nI),i,J,J]:=by
 obtain⟨a,b,w,e1,e2,e3⟩:=gk m e;have d:=iT e;rw[e1] at d;have l:atI ((y::c).reverse.map nI) (-1)=O (nI y):=kW (by rw[Px,Qx];rfl);have n:-(1:Int)=-1:=rfl;simp_all only[d,l,iI,n]
structure Bw (P:Y->U Y)(n Lm:Y)(t:Y)(rv ch:U Y):Prop where
 len:rv.length=t
 cn:Cn P rv
 lt:∀x∈rv,x<n
 cl:∀x∈ch,x<n
 hd:∀x r,rv=x::r->ch=P x
 ex:t<Lm->∃y∈ch,lg P y=Lm-t
theorem Bw.step {P:Y->U Y}{n Lm t:Y}{k:Y->Y}{c ch:U Y}(o:dX P n k)(h:Bw P n Lm t c ch)(l:t<Lm){y:Y}(f:y∈ch)(d:lg P y=Lm-t):Bw P n Lm (t+1) (y::c) (P y):=by
 have b:=h.cl y f;refine⟨by rw[Kz,h.len],?_,λx hx=>?_,λx hx=>o.lt y b x hx,λx r e=>by cases e;rfl,λg=>?_⟩
 .cases c with
  |nil=>trivial
  |cons a r=>exact⟨(h.hd a r rfl) ▸ f,h.cn⟩
 .rcases KD.mp hx with z | z
  .rw[z];exact b
  .exact h.lt x z
 .rw [eV o b] at d;have i:(P y).map (lg P)≠[]:=λz=>by rw[z] at d;have:mxN []=0:=rfl;lia
  obtain⟨p,hp,e⟩:=KG.mp<|gH i;exact⟨p,hp,by rw[e];lia⟩
theorem Bw.start {P:Y->U Y}{n:Y}:Bw P n (mxN<|(Kq n).map<|lg P) 0 [] (Kq n):=by
 refine⟨rfl,trivial,λ_ z=>(nomatch z),λx hx=>Lc.mp hx,λx r e=>(nomatch e),λh=>?_⟩;have a:(Kq n).map (lg P)≠[]:=λz=>by rw[z] at h;exact RM h<|LB 0
 obtain⟨p,hp,e⟩:=KG.mp<|gH a;exact⟨p,hp,e⟩
abbrev RQ:U S:=[
   .app (.q [1,4] [5]) 3 (.op .ix Kg [.comp Kg .seq [.var 4] [7] (O<|.op .eq Kg [.op .ix Kg [.var 1,.var 7],.var 5])<|.var 7,.cst<|.int 0]),
   .asg (.l [0]) 4 (.op .ix Kg [.op .ix Kg [.var 0,.qx [3] []<|.op .ix Kg [.var 3,.op .neg Kg [.cst<|.int 1]]],.cst<|.int 3])]
theorem Au (k:Y)(L:U T)(hL:Sts L)(A:j W)(i m:Md)(c:U Y)(t:c=(Kq L.length).map (lg<|PL L))(hm:mxN c<=100):
  ∃h w w4' D,h.length=mxN c/\Cn (PL L) h/\(∀x∈h,x<L.length)/\aS [5] (evSs (C k) RQ) ((Kq<|mxN c).map λ(a:Y)=>[((.d,.int<|((mxN c:Y):Int)-(a:Int)):W)]) [O (.s,.lst L),O (i,.lst<|c.map nI),A,O (.o .s,.lst []),O (m,.lst<|(Kq L.length).map nI),J,J,J]=.nx [O (.s,.lst L),O (w,.lst<|c.map nI),A,O (.o .s,.lst<|h.reverse.map nI),w4',D,J,J]:=by
 obtain⟨rk,o⟩:=cV hL;have b0:=Bw.start (P:=PL L) (n:=L.length);rw[<- t] at b0;have N:c.length=L.length:=by rw[t,Kr,K9]
 have hg:∀z,z<L.length->c.getD z 0=lg (PL L) z:=λz hz=>by rw[t,Kv,KY,LZ hz];rfl
 obtain⟨η',lp,h,ch,w,m4',D,b,e⟩:=aU (tg:=[5]) (f:=evSs (C k) RQ) (g:=λ(a:Y)=>[((.d,.int<|((mxN c:Y):Int)-(a:Int)):W)])
  (λpre η=>∃(h ch:U Y) (i m:Md) (w5:j W),Bw (PL L) L.length (mxN c) pre.length h ch/\η=[O (.s,.lst L),O (i,.lst<|c.map nI),A,O (.o .s,.lst<|h.reverse.map nI),O (m,.lst<|ch.map nI),w5,J,J])
  (Kq<|mxN c) [] [O (.s,.lst L),O (i,.lst<|c.map nI),A,O (.o .s,.lst []),O (m,.lst<|(Kq L.length).map nI),J,J,J] ⟨[],_,i,m,J,b0,rfl⟩
  (by
   rintro p a r η hp ⟨h,ch,i,m,w5,b,he⟩;subst he;rw[Lq] at hp;obtain⟨I,F⟩:=eh hp;obtain⟨y0,G,M⟩:=b.ex (by rw[<- I];exact F);have Q:(ch.filter λz=>c.getD z 0==mxN c-a)≠[]:=λz=>by have:y0∈ch.filter λz=>c.getD z 0==mxN c-a:=LG.mpr ⟨G,by rw[hg y0<|b.cl y0 G,M,I];simp⟩;rw[z] at this;cases this
   obtain⟨y,hy⟩:∃y,(ch.filter λz=>c.getD z 0==mxN c-a).head?=O y:=by
    cases hf:ch.filter λz=>c.getD z 0==mxN c-a with
    |nil=>exact RM hf Q
    |cons u l=>exact⟨u,rfl⟩
   have v:=LG.mp<|List.mem_of_mem_head? hy;have H:=b.cl y v.1;have Z:lg (PL L) y=mxN c-a:=by have:=v.2;rw[hg y H,R9] at this;exact this
   have b':=b.step o (by rw[<- I];exact F) v.1 (by rw[<- I];exact Z);have hrl:=b.len;have e1:=GP k c ch h (mxN c-a) y (λz hz=>by rw[N];exact b.cl z hz) hy (by lia) (O (.s,.lst L)) A i (.o .s) m .d rfl;have e2:=Hj k L hL h y H (O (i,.lst<|c.map nI)) A (O (m,.lst<|ch.map nI)) (O (.d,nI<|mxN c-a))<|.o .s;have ej:((mxN c:Y):Int)-(a:Int)=((mxN c-a:Y):Int):=by lia
   refine⟨[O (.s,.lst L),O (i,.lst<|c.map nI),A,O (.o .s,.lst<|h.reverse.map nI),O (m,.lst<|ch.map nI),O (.d,nI<|mxN c-a),J,J],_,by rw[ej];rfl,by show evSs (C k) (RA++RZ) _=_;rw[go1 e1,e2],y::h,PL L y,i,.s,_,by rw[KJ,Lf];exact b',rfl⟩)
 refine⟨h,w,_,D,by simpa using b.len,b.cn,b.lt,by rw[lp,e]⟩
theorem xI (k:Y)(L:U T)(e:Sts L)(m:Md):∃b:U Y,b.length=mxN ((Kq L.length).map<|lg<|PL L)/\Cn (PL L) b/\(∀x∈b,x<L.length)/\C (k+3) 295 [(m,.lst L)]=.ok ((.o .s,.lst<|b.map nI),[]):=by
 obtain⟨rk,o⟩:=cV e;obtain⟨os,f,e1⟩:=ja k L e .s;have hn:=e.len;obtain⟨a,D,g,c⟩:=zD (k+2) L e f J J J;have u:mxN a<=100:=by rw[c];have:=wz o f;lia
 have z1:(if(decide ((((L.length:Y):Int)).natAbs<4611686018427387904)&&fits ([T.int 0].length * (((L.length:Y):Int)).toNat))=Kh then O ((.o .s,.lst (Ky (((L.length:Y):Int)).toNat [T.int 0]).flatten):W) else J)=O (.o .s,.lst ((Ky L.length 0).map nI)):=by
  rw[Lz,Int.natAbs_natCast,RJ<|by rw[KS];exact⟨RI<|by lia,RI<|by show _<=16777215;simp;lia⟩];congr 3;rw[Nj];induction L.length with
  |zero=>rfl
  |succ n v=>rw[Mj,Mj,NS,v];rfl
 have M:=aZ os;obtain⟨b,z,Q,Z,l,p,r,h⟩:=Au (k+2) L e D .s .d a c u;have N:=b9 a;have P:=mf a;have A:-(1:Int)=-1:=rfl;have F:(decide ((((mxN a:Y):Int)).natAbs<4611686018427387904)&&decide ((0:Int).natAbs<4611686018427387904)&&decide Sv&&fits (mxN a))=true:=by rw[RI<|show(((mxN a:Y):Int)).natAbs<4611686018427387904 by lia,show fits (mxN a)=Kh from RI<|by show _<=16777215;lia];rfl
 have G:(((mxN a:Y):Int)-0).toNat=mxN a:=by lia
 have I:oSem .rng Kg [(.d,.int 0),(.d,.int ((L.length:Y):Int))]=O (.d,.lst ((Kq L.length).map nI)):=by
  show(if(decide ((0:Int).natAbs<4611686018427387904)&&decide ((((L.length:Y):Int)).natAbs<4611686018427387904)&&fits (((L.length:Y):Int)-0).toNat)=Kh then O ((.d,.lst<|(Kq (((L.length:Y):Int)-0).toNat).map λ(k:Y)=>T.int<|0+k):W) else J)=_;have:(((L.length:Y):Int)-0).toNat=L.length:=by lia
  rw[this,RI<|show(((L.length:Y):Int)).natAbs<4611686018427387904 by lia,show fits L.length=Kh from RI<|by show _<=16777215;lia];show O ((.d,.lst<|(Kq L.length).map λ(k:Y)=>T.int<|0+k):W)=_;congr 3;exact Mi λi _=>by rw[Qi]
 have y:leaves (b.reverse.map nI)=true:=K5.mpr λt f=>by obtain⟨_,_,rfl⟩:=KG.mp f;rfl
 have w:decide ((b.reverse.map nI).length<LIM)=true:=by rw[Kr,Ot];exact RI<|vT<|by lia
 have H:(b.reverse.map nI).reverse=b.map nI:=by rw[<- List.map_reverse,List.reverse_reverse]
 rw[<- c];refine⟨b,l,p,r,?_⟩;rw[hU,x_run _ _ _ rfl];simp_all only[bD,z1,e1,M,g,I,N,P,A,F,G,h,y,w,H]
structure Rd (P:Y->U Y)(n r:Y)(es:U Y):Prop where
 len:es.length=n
 le:∀k,k<n->es.getD k 0<=lg P k
 one:∀k,k<n->1<=es.getD k 0
 eq:∀k,k<n->lg P k<=r+1->es.getD k 0=lg P k
structure Rm (P:Y->U Y)(n r m:Y)(u es:U Y):Prop extends Rd P n r es where
 dn:∀k,k<m->k<n->lg P k<=r+2->es.getD k 0=lg P k
 up:∀p∈u,es.getD p 0+1<=es.getD m 0
theorem HV {P:Y->U Y}{n:Y}{b:Y->Y}(o:dX P n b){m p:Y}(a:m<n)(hp:p∈P m):lg P p+1<=lg P m:=by rw[eV o a];have:=hV<|LH (f:=lg P) hp;lia
def rx (m:Y)(a:U Y)(p:Y):U Y:=a.set m<|max (a.getD m 0)<|a.getD p 0+1
theorem Rm.step {P:Y->U Y}{n r m:Y}{v:Y->Y}{u a:U Y}{p:Y}(o:dX P n v)(h:Rm P n r m u a)(b:m<n)(hp:p∈P m)(t:∀q∈u,q∈P m):Rm P n r m (u++[p]) (rx m a p):=by
 have f:m<a.length:=by rw[h.len];exact b
 have i:=o.lt m b p hp;have w:=h.le p i;have x:=HV o b hp;have y:=h.le m b;have g:∀k,(rx m a p).getD k 0=if m=k then max (a.getD m 0) (a.getD p 0+1) else a.getD k 0:=λk=>aq a m k _ f;have s:∀q,q∈P m->m≠q:=λq l z=>by have:=o.dn m b q l;rw[<- z] at this;exact LB _ this
 constructor
 .constructor
  .rw[rx,KZ];exact h.len
  .intro k hk;rw[g k];split
   .rename_i e;rw[<- e];lia
   .exact h.le k hk
  .intro k hk;rw[g k];split
   .have:=h.one m b;lia
   .exact h.one k hk
  .intro k hk c;rw[g k];split
   .rename_i e;subst e;have:=h.eq m b c;lia
   .exact h.eq k hk c
 .intro k d hk c;rw[g k];split
  .rename_i e;lia
  .exact h.dn k d hk c
 .intro q l;rw[g m,RJ rfl];rcases Li.mp l with z|z
  .rw [g q,RK<|s q<|t q z];have:=h.up q z;lia
  .rw [K1.mp z,g p,RK<|s p hp];lia
theorem Rm.next {P:Y->U Y}{n r m:Y}{i:Y->Y}{a:U Y}(o:dX P n i)(h:Rm P n r m (P m) a)(w:m<n):Rm P n r (m+1) [] a:=by
 refine⟨h.toRd,λk d hk b=>?_,λ_ z=>(nomatch z)⟩;rcases LW k m with z|z
 .exact h.dn k z hk b
 .have e:k=m:=by lia
  subst e;have l:=h.le k hk
  have s:lg P k<=a.getD k 0:=by
   have c:=h.one k hk;rw[eV o hk] at b ⊢;have:mxN ((P k).map<|lg P)<=a.getD k 0-1:=i5 λy g=>by obtain⟨p,hp,rfl⟩:=KG.mp g;have t:=hV<|LH (f:=lg P) hp;have u:=h.up p hp;have v:=h.eq p (o.lt k hk p hp) (by lia);lia
   lia
  lia
theorem Rd.more {P:Y->U Y}{n r:Y}{a:U Y}(h:Rm P n r n [] a):Rd P n (r+1) a:=⟨h.len,h.le,h.one,λk hk b=>h.dn k hk hk b⟩
theorem Rd.start {P:Y->U Y}{n:Y}:Rd P n 0 (Ky n 1):=by
 have g:∀k,k<n->(Ky n 1).getD k 0=1:=λk hk=>by rw[Kv,MI,RJ hk];rfl
 refine⟨LO,λk hk=>?_,λk hk=>?_,λk hk a=>?_⟩
 .rw[g k hk];exact ox k
 .rw[g k hk];exact Kt _
 .rw[g k hk];have:=ox (P:=P) k;lia
abbrev XA:U S:=[.setI (.q [1,5] [3]) 1 (.var 3)<|.op .max Kg [.op .ix Kg [.var 1,.var 3],.op .add Kg [.op .ix Kg [.var 1,.var 5],.cst<|.int 1]]]
theorem HN (k:Y)(a:U Y)(m p:Y)(b:m<a.length)(hp:p<a.length)(d e f:j W)(c:Md):
  evSs (C k) XA [d,O (.o .s,.lst<|a.map nI),e,O (c,nI m),f,O (.s,nI p),J]=.nx [d,O (.o .s,.lst<|(rx m a p).map nI),e,O (c,nI m),f,O (.s,nI p),J]:=by
 have e1:=aO b;have e2:=aO hp;have e3:=dg b;have g:(if((a.getD p 0:Y):Int)+1>((a.getD m 0:Y):Int) then((a.getD p 0:Y):Int)+1 else((a.getD m 0:Y):Int))=((max (a.getD m 0) (a.getD p 0+1):Y):Int):=by split<;>lia
 have h:=cU a m<|max (a.getD m 0)<|a.getD p 0+1;unfold rx;simp_all only[e1,e2,e3,g,h]
theorem p7 (k n r m:Y)(P:Y->U Y){D:Y->Y}(o:dX P n D)(w:m<n)(l t v:j W)(f:Md):∀(g u b:U Y) (x:j W),u++g=P m->Rm P n r m u b ->
 ∃a c,Rm P n r m (P m) a/\aS [5] (evSs (C k) XA) (g.map λi=>[((.s,nI i):W)]) [l,O (.o .s,.lst<|b.map nI),t,O (f,nI m),v,x,J]=.nx [l,O (.o .s,.lst<|a.map nI),t,O (f,nI m),v,c,J]
|[],u,b,x,d,h=>⟨b,x,by rw[<- d,La];exact h,rfl⟩
|p::g,u,b,x,d,h=>by
 have hp:p∈P m:=by rw[<- d];exact K7 _ Ku
 have e:=HN k b m p (by rw[h.len];exact w) (by rw[h.len];exact o.lt m w p hp) l t v f;obtain⟨a,c,y,A⟩:=p7 k n r m P o w l t v f g (u++[p]) (rx m b p) (O (.s,nI p)) (by rw[Ll];exact d) (h.step o w hp λq z=>by rw[<- d];exact LU _ z);refine⟨a,c,y,?_⟩;show Fl.turn (evSs (C k) XA [l,O (.o .s,.lst<|b.map nI),t,O (f,nI m),v,O (.s,nI p),J]) (aS [5] (evSs (C k) XA)<|g.map λi=>[((.s,nI i):W)])=_;rw[e];exact A
abbrev XB:U S:=[.forS [4] [] .seq [.op .ix Kg [.var 4,.cst<|.int 3]] [5] XA]
theorem yM (k r:Y)(L:U T)(G:Sts L)(x y o3 A n:j W)(m:U Y)(h:Rd (PL L) L.length r m):
  ∃c u v l,Rd (PL L) L.length (r+1) c/\aS [3,4] (evSs (C k) XB) ((Kq L.length).map λi=>[((.d,nI i):W),(.s,L.getD i .non)]) [x,O (.o .s,.lst<|m.map nI),y,o3,A,n,J]=.nx [x,O (.o .s,.lst<|c.map nI),y,u,v,l,J]:=by
 obtain⟨Q,o⟩:=cV G
 obtain⟨P,F,c,u,v,l,D,e⟩:=aU (tg:=[3,4]) (f:=evSs (C k) XB) (g:=λ(i:Y)=>[((.d,nI i):W),(.s,L.getD i .non)])
  (λpre I=>∃(m:U Y) (o3 A n:j W),Rm (PL L) L.length r pre.length [] m/\I=[x,O (.o .s,.lst<|m.map nI),y,o3,A,n,J])
  (Kq L.length) [] [x,O (.o .s,.lst<|m.map nI),y,o3,A,n,J] ⟨m,o3,A,n,⟨h,λk hk=>RM hk<|Ly _,λ_ z=>(nomatch z)⟩,rfl⟩
  (by
   rintro p i Z I hp ⟨m,o3,A,n,h,M⟩;subst M;rw[Lq] at hp;obtain⟨H,t⟩:=eh hp;obtain⟨a,b,w,e1,e2,e3⟩:=gk G t;rw[<- H] at h;obtain⟨c,l,D,F⟩:=p7 k L.length r i (PL L) o t x y (O (.s,L.getD i .non)) .d (PL L i) [] m n rfl h;have N:=aZ<|PL L i;rw[e1] at F;refine⟨[x,O (.o .s,.lst<|m.map nI),y,O (.d,nI i),O (.s,L.getD i .non),n,J],[x,O (.o .s,.lst<|c.map nI),y,O (.d,nI i),O (.s,L.getD i .non),l,J],rfl,?_,c,_,_,_,by rw[KJ,Lf,<- H];exact D.next o t,rfl⟩;rw[e1];simp_all only[iI,N,F])
 refine⟨c,u,v,l,?_,by rw[F,e]⟩;rw[Lq,K9] at D;exact Rd.more D
abbrev XC:U S:=[.forS [0] [] .enm [.var 0] [3,4] XB]
theorem Aw (k:Y)(L:U T)(x:Sts L):
  ∃a l o3 b c,Rd (PL L) L.length L.length a/\aS [2] (evSs (C k) XC) ((Kq L.length).map λ(i:Y)=>[((.d,.int (i:Int)):W)]) [O (.s,.lst L),O (.o .s,.lst<|(Ky L.length 1).map nI),J,J,J,J,J]=.nx [O (.s,.lst L),O (.o .s,.lst<|a.map nI),l,o3,b,c,J]:=by
 obtain⟨z,n,a,l,o3,b,c,h,e⟩:=aU (tg:=[2]) (f:=evSs (C k) XC) (g:=λ(i:Y)=>[((.d,.int (i:Int)):W)])
  (λpre v=>∃(a:U Y) (l o3 b c:j W),Rd (PL L) L.length pre.length a/\v=[O (.s,.lst L),O (.o .s,.lst<|a.map nI),l,o3,b,c,J])
  (Kq L.length) [] [O (.s,.lst L),O (.o .s,.lst<|(Ky L.length 1).map nI),J,J,J,J,J] ⟨_,J,J,J,J,Rd.start,rfl⟩
  (by
   rintro p i A v hp ⟨a,l,o3,b,c,h,y⟩;subst y;obtain⟨m,r,t,u,w,n⟩:=yM k p.length L x (O (.s,.lst L)) (O (.d,.int (i:Int))) o3 b c a h;have e1:=d6 L;exact⟨[O (.s,.lst L),O (.o .s,.lst<|a.map nI),O (.d,.int (i:Int)),o3,b,c,J],[O (.s,.lst L),O (.o .s,.lst<|m.map nI),O (.d,.int (i:Int)),r,t,u,J],rfl,by simp_all only[e1,n],m,_,_,_,_,by rw[KJ,Lf];exact w,rfl⟩)
 refine⟨a,l,o3,b,c,by simpa using h,by rw[n,e]⟩
theorem nR (k:Y)(L:U T)(b:Sts L)(m:Md):C (k+1) 286 [(m,.lst L)]=.ok ((.d,nI<|mxN<|(Kq L.length).map<|lg<|PL L),[]):=by
 obtain⟨N,o⟩:=cV b;obtain⟨os,v,_⟩:=ja 0 L b .s;have F:=b.len;obtain⟨a,H,o3,I,M,h,w⟩:=Aw k L b
 have c:a=(Kq L.length).map (lg (PL L)):=OU (by rw[Kr,K9];exact h.len) λi f D=>by
  have g:i<L.length:=by rw[<- h.len];exact f
  have:=h.eq i g (by have:=A6 o v g;lia);rw[Kv,KN f] at this;rw[P6,QS];exact this
 have p:aA [6] (bJ (evE (C k) (.cst (.int 1)))) (L.map λt=>[((.s,t):W)]) [O (.s,.lst L),J,J,J,J,J,J] []=.ok ([]++L.map (λ_=>((.d,nI 1):W)),[O (.s,.lst L),J,J,J,J,J,J]):=aI (λ_=>((.d,nI 1):W)) L [] λu G=>⟨_,[O (.s,.lst L),J,J,J,J,J,O (.s,u)],rfl,by simp_all only[];rfl,rfl⟩;have x:aK (L.map λ_=>((.d,nI 1):W))=(Ky L.length 1).map nI:=by rw[ax (λ_=>Md.d) (λ_=>nI 1) L,Nj,Ow]
 have z:(decide ((((L.length:Y):Int)).natAbs<4611686018427387904)&&fits L.length)=true:=by rw[RI<|show(((L.length:Y):Int)).natAbs<4611686018427387904 by lia,show fits L.length=Kh from RI<|by show _<=16777215;lia];rfl
 have A:(((L.length:Y):Int)).toNat=L.length:=Lz _;rw[<- c];have l:intsOf (T.int 0::a.map nI)=O ((0::a).map λ(i:Y)=>(i:Int)):=b9 (0::a);have e:=gK (0::a);have y:mxN (0::a)=mxN a:=by show max 0 (mxN a)=_;lia
 rw[y] at e;have n:((0::a).map λ(i:Y)=>(i:Int)).isEmpty=false:=rfl;generalize ((0::a).map λ(i:Y)=>(i:Int))=ns at l e n;rw[iD,x_run _ _ _ rfl];have r:fits ([T.int 0].length+(a.map nI).length)=true:=RI (by show _<=16777215;rw[Kr,h.len];simp;lia);simp_all only[bB,p,x,z,A,w,l,e,n,r]
def Lm (L:U T):Y:=mxN<|(Kq L.length).map<|lg<|PL L
theorem tD (k:Y)(L:U T)(e:Sts L)(h:Int)(l:1<=h)(n:h<=20)(m m':Md):∃a:U Y,a.length=Lm L/\Cn (PL L) a/\(∀x∈a,x<L.length)/\((((Lm L:Y):Int)>least L h/\C (k+4) 294 [(m,.lst L),(m',.int h)]=.ok ((.o .s,.tup [.str<|q "chain",.lst<|a.map nI]),[]))\/(¬((Lm L:Y):Int)>least L h/\C (k+4) 294 [(m,.lst L),(m',.int h)]=.ok ((.d,.tup [.str<|q "width",.int<|least L h]),[]))):=by
 obtain⟨a,c,g,i,e2⟩:=xI k L e .s;have e1:=λm m'=>lI (k+2) L e h l n m m';have f:(((a.map nI).length:Y):Int)=((Lm L:Y):Int):=by rw[Kr,c];rfl
 refine⟨a,c,g,i,?_⟩;rw[xf,x_run _ _ _ rfl];by_cases b:((Lm L:Y):Int)>least L h
 .have d:decide (((Lm L:Y):Int)>least L h)=true:=RI b;exact .inl ⟨b,by simp_all only[eG,e1,e2,f,d]⟩
 .have d:decide (((Lm L:Y):Int)>least L h)=false:=RR b;exact .inr ⟨b,by simp_all only[eG,e1,e2,f,d]⟩
theorem yT {a:Y}{l:U Y}(h:a∈l):((l.map nI).any λt=>eqT t<|nI a)=true:=OW.mpr ⟨nI a,LH h,by show((a:Int)==(a:Int))=Kh;simp⟩
theorem EI {L:U T}(g:Sts L){c:U Y}(f:Cn (PL L) c)(d:∀x∈c,x<L.length):gy L (.lst<|c.map nI)=true:=by
 show(((c.map nI).map<|okN L.length).all id&&con L (c.map nI))=Kh;rw[KS];constructor
 .exact all_map.mpr λt h=>by obtain⟨x,hx,rfl⟩:=KG.mp h;have:=d x hx;show(decide ((0:Int)<=(x:Int))&&decide ((x:Int)<(L.length:Int)))=Kh;rw[RI<|by lia,RI<|by lia];rfl
 .induction c with
  |nil=>rfl
  | cons a r i =>
   cases r with
   |nil=>rfl
   |cons b r=>have e:=i f.2 λx hx=>d x<|Kw _ hx;obtain⟨u,v,w,e1,_,_⟩:=gk g (d b<|by simp);show(inA L (nI a) (nI b)&&con L ((b::r).map nI))=Kh;rw[e,OX];show((ahT<|L.getD (b:Int).toNat .non).any λt=>eqT t<|nI a)=Kh;rw[Lz,e1];exact yT f.1
noncomputable def dlB:Y->U Y->U Y->U (Y×Y)
|_,[],_=>[]
|f,c::a,l=>if f=0 then[] else(c,min f<|l.getD c 0)::dlB (f-min f (l.getD c 0)) a (l.set c<|l.getD c 0-min f (l.getD c 0))
noncomputable def dlL:Y->U Y->U Y->U Y
|_,[],l=>l
|f,c::a,l=>if f=0 then l else dlL (f-min f (l.getD c 0)) a<|l.set c<|l.getD c 0-min f (l.getD c 0)
noncomputable def dlR:Y->U Y->U Y->U Y
|_,[],_=>[]
|f,c::a,l=>if f=0 then c::a else if l.getD c 0<=f then dlR (f-min f (l.getD c 0)) a (l.set c<|l.getD c 0-min f (l.getD c 0)) else c::a
theorem CP (a l:U Y):dlB 0 a l=[]:=by cases a<;>rfl
theorem yw (a l:U Y):dlL 0 a l=l:=by cases a<;>rfl
theorem Gp (a l:U Y):dlR 0 a l=a:=by cases a<;>rfl
theorem cS:∀(a:U Y) (f:Y) (l:U Y),(dlL f a l).length=l.length
|[],_,_=>rfl
|c::a,f,l=>by
 unfold dlL;split
 .rfl
 .rw[cS a,KZ]
theorem fH:∀(a:U Y) (f:Y) (l:U Y) (x:Y),(∀c∈a,c<l.length)->x ∉ a->(dlL f a l).getD x 0=l.getD x 0
|[],_,_,_,_,_=>rfl
|c::a,f,l,x,h,hx=>by
 unfold dlL;split
 .rfl
 .rw[fH a _ _ x (λd b=>by rw[KZ];exact h d<|Kw _ b) λz=>hx<|Kw _ z,aq l c x _<|h c Ku,RK λz=>hx<|by rw[z];exact Ku]
theorem oX:∀(a:U Y) (f:Y) (l:U Y) (x:Y),(∀c∈a,c<l.length)->(dlL f a l).getD x 0<=l.getD x 0
|[],_,_,_,_=>Kt _
| c::a,f,l,x,h=>by
 unfold dlL;split
 .exact Kt _
 .have b:=oX a (f-min f (l.getD c 0)) (l.set c (l.getD c 0-min f (l.getD c 0))) x fun d g=>by rw [KZ]; exact h d (Kw _ g)
  rw[aq l c x _<|h c Ku] at b;split at b
  .rename_i e;subst e;lia
  .exact b
theorem qB:∀(a:U Y) (f:Y) (l:U Y),a.Nodup->(∀c∈a,c<l.length)->(∀c∈a,0<l.getD c 0)->∀x,x∈dlR f a l ↔ x∈a/\0<(dlL f a l).getD x 0
|[],_,_,_,_,_,x=>by simp[dlR]
| c::a,f,l,nd,h,hp,x=>by
 have i:=h c Ku;have r:=hp c Ku;have o:=(Le.mp nd).1;unfold dlR dlL;by_cases g:f=0
 .rw [RJ g,RJ g];exact⟨λz=>⟨z,hp x z⟩,λz=>z.1⟩
 .rw [RK g,RK g];have m:∀d∈a,d<(l.set c (l.getD c 0-min f (l.getD c 0))).length:=λd b=>by rw[KZ];exact h d (Kw _ b)
  have k:∀d,d≠c->(l.set c (l.getD c 0-min f (l.getD c 0))).getD d 0=l.getD d 0:=λd b=>by rw[aq l c d _ i,RK<|Lg b]
  by_cases n:l.getD c 0<=f
  .rw [RJ n,qB a _ _ (Le.mp nd).2 m (fun d b=>by rw [k d fun z=>o (z ▸ b)]; exact hp d (Kw _ b)) x];constructor
   .exactλz=>⟨Kw _ z.1,z.2⟩
   .rintro ⟨z,p⟩;rcases KD.mp z with e|e
    .exfalso;subst e;rw[fH a _ _ x m o,aq l x x _ i,RJ rfl] at p;lia
    .exact⟨e,p⟩
  .rw [RK n];have s:f-min f (l.getD c 0)=0:=by lia
   rw[s,yw];constructor
   .intro z;refine⟨z,?_⟩;by_cases e:x=c
    .subst e;rw[aq l x x _ i,RJ rfl];lia
    .rw[k x e];exact hp x z
   .exactλz=>z.1
theorem qd:∀(a:U Y) (f:Y) (l:U Y),∃p,a=p++dlR f a l
|[],_,_=>⟨[],rfl⟩
| c::a,f,l=>by
 unfold dlR;split
 .exact⟨[],rfl⟩
 .split
  .obtain ⟨p,hp⟩:=qd a (f-min f (l.getD c 0))<|l.set c<|l.getD c 0-min f (l.getD c 0);exact⟨c::p,by rw[P8,<- hp]⟩
  .exact⟨[],rfl⟩
theorem dC:∀(a:U Y) (f:Y) (l:U Y) (x m:Y),(x,m)∈dlB f a l->x∈a
|[],_,_,_,_,h=>by cases h
| c::a,f,l,x,m,h=>by
 unfold dlB at h;split at h
 .cases h
 .rcases KD.mp h with e | e
  .cases e;exact Ku
  .exact Kw _ (dC a _ _ x m e)
theorem pZ:∀(a:U Y) (f:Y) (l:U Y),a.Nodup->((dlB f a l).map (·.1)).Nodup
|[],_,_,_=>O1
| c::a,f,l,nd=>by
 unfold dlB;split
 .exact O1
 .rw [K2,Le];refine⟨λz=>?_,pZ a _ _ (Le.mp nd).2⟩;obtain⟨⟨y,m⟩,b,e⟩:=KG.mp z;have e:y=c:=e;subst e;exact(Le.mp nd).1<|dC a _ _ y m b
theorem jc:∀(a:U Y) (f:Y) (l:U Y) (x:Y),(∀c∈a,c<l.length)->(dlL f a l).getD x 0≠l.getD x 0->x∈(dlB f a l).map (·.1)
|[],_,_,_,_,h=>RM rfl h
| c::a,f,l,x,b,h=>by
 unfold dlL at h;unfold dlB;split at h
 .exact RM rfl h
 .rename_i i;rw[RK i,K2];by_cases e:x=c
  .rw[e];exact Ku
  .refine Kw _ (jc a _ _ x (fun d g=>by rw [KZ]; exact b d<|Kw _ g) ?_);rw[aq l c x _<|b c Ku,RK<|Lg e];exact h
def aB (l:U Y):Y:=l.foldr (·+·) 0
theorem fL:∀(l:U Y) (c v:Y),c<l.length->aB (l.set c v)+l.getD c 0=aB l+v
|[],_,_,h=>by cases h
|x::l,0,v,_=>by show v+aB l+x=x+aB l+v;lia
|x::l,c+1,v,h=>by have a:=fL l c v<|QI h;show x+aB (l.set c v)+l.getD c 0=x+aB l+v;lia
theorem qm:∀(a:U Y) (f:Y) (l:U Y),(∀c∈a,c<l.length)->aB (dlL f a l)<=aB l
|[],_,_,_=>Kt _
| c::a,f,l,h=>by
 unfold dlL;split
 .exact Kt _
 .have e:=qm a (f-min f (l.getD c 0)) (l.set c (l.getD c 0-min f (l.getD c 0))) fun d b=>by rw [KZ]; exact h d (Kw _ b)
  have g:=fL l c (l.getD c 0-min f (l.getD c 0))<|h c Ku;lia
theorem vC {c f:Y}{a l:U Y}(h:∀d∈c::a,d<l.length)(hp:0<l.getD c 0)(i:0<f):aB (dlL f (c::a) l)<aB l:=by
 unfold dlL;rw[RK<|by lia];have e:=qm a (f-min f (l.getD c 0)) (l.set c<|l.getD c 0-min f (l.getD c 0)) λd b=>by rw[KZ];exact h d<|Kw _ b
 have g:=fL l c (l.getD c 0-min f (l.getD c 0))<|h c Ku;lia
noncomputable def i7 (P:Y->U Y)(l:U Y)(k:Y):RN:=decide (0<l.getD k 0)&&(P k).all λp=>l.getD p 0==0
def can (P:Y->U Y)(l:U Y):U Y:=(Kq l.length).filter<|i7 P l
def tt (P:Y->U Y)(h:Y):Y->U Y->U (U<|Y×Y)
|0,_=>[]
|f+1,l=>if can P l=[] then[] else dlB h (can P l) l::tt P h f (dlL h (can P l) l)
theorem can_mem {P:Y->U Y}{l:U Y}{k:Y}:k∈can P l ↔ k<l.length/\0<l.getD k 0/\∀p∈P k,l.getD p 0=0:=by rw[can,LG,Lc,i7,KS,RP,K5];exact⟨λz=>⟨z.1,z.2.1,λp hp=>by simpa using z.2.2 p hp⟩,λz=>⟨z.1,z.2.1,λp hp=>by simpa using z.2.2 p hp⟩⟩
theorem dS {P:Y->U Y}{l:U Y}:(can P l).Nodup:=(OV).filter _
theorem ql {P:Y->U Y}{h f:Y}{l:U Y}(i:0<h)(a:can P l≠[])(m:aB l<f+1):tt P h (f+1) l=dlB h (can P l) l::tt P h f (dlL h (can P l) l)/\aB (dlL h (can P l) l)<f/\aB (dlL h (can P l) l)<aB l:=by
 have less:aB (dlL h (can P l) l)<aB l:=by
  cases e:can P l with
  |nil=>exact RM e a
  |cons c b=>have k:∀d∈c::b,d<l.length:=λd g=>(can_mem.mp (e ▸ g:d∈can P l)).1;exact vC k (can_mem.mp (e ▸ Ku:c∈can P l)).2.1 i
 exact⟨by rw[tt,RK a],by lia,less⟩
theorem kn:∀{a b:U Y},a.Pairwise (· > ·)->b.Pairwise (· > ·)->(∀x,x∈a ↔ x∈b)->a=b
|[],[],_,_,_=>rfl
|[],y::b,_,_,h=>RM ((h y).mpr Ku)<|by simp
|x::a,[],_,_,h=>RM ((h x).mp Ku)<|by simp
| x::a,y::b,g,i,h=>by
 have c:=Mt.mp g;have d:=Mt.mp i
 have e:x=y:=by
  rcases KD.mp ((h x).mp Ku) with z|z
  .exact z
  .rcases KD.mp ((h y).mpr Ku) with w | w
   .exact w.symm
   .have:=c.1 y w;have:=d.1 x z;lia
 subst e;rw[kn c.2 d.2 λz=>?_];constructor
 .intro f;rcases KD.mp ((h z).mp (Kw _ f)) with w|w
  .subst w;exact RM (c.1 z f)<|LB _
  .exact w
 .intro f;rcases KD.mp ((h z).mpr (Kw _ f)) with w|w
  .subst w;exact RM (d.1 z f)<|LB _
  .exact w
theorem iA {P:Y->U Y}{l:U Y}:(can P l).reverse.Pairwise (· > ·):=by rw[List.pairwise_reverse];exact(Nm).filter _
abbrev cT (p:Y×Y):T:=.tup [nI p.1,nI p.2]
abbrev bL (b:U<|Y×Y):T:=.lst<|b.map cT
abbrev DA:U S:=[
   .asg (.q [0] []) 5 (.op .ix Kg [.var 0,.op .neg Kg [.cst<|.int 1]]),
   .asg (.q [1,4] [5]) 6 (.op .min Kg [.var 4,.op .ix Kg [.var 1,.var 5]]),
   .app (.q [] [5,6]) 3 (.tup [.var 5,.var 6]),
   .asg (.q [4] [6]) 4 (.op .sub Kg [.var 4,.var 6])]
abbrev DB:U S:=[.setI (.q [1] [5,6]) 1 (.var 5)<|.op .sub Kg [.op .ix Kg [.var 1,.var 5],.var 6]]
abbrev DC:U S:=[.ite (.q [1] [5]) (.op .eq Kg [.op .ix Kg [.var 1,.var 5],.cst<|.int 0]) [.exp (.l [])<|.pop 0 []] []]
theorem HA (k:Y)(c f:Y)(a l:U Y)(bt:U<|Y×Y)(p:c<l.length)(x:bt.length<500)(b v w:j W)(r:Md):
  ∃t,evSs (C k) DA [O (.d,.lst<|(c::a).reverse.map nI),O (.o .s,.lst<|l.map nI),b,O (.d,bL bt),O (r,nI f),v,w]=.nx [O (.d,.lst<|(c::a).reverse.map nI),O (.o .s,.lst<|l.map nI),b,O (.d,bL<|bt++[(c,min f<|l.getD c 0)]),O (.d,nI<|f-min f (l.getD c 0)),O (t,nI c),O (.d,nI<|min f<|l.getD c 0)]:=by
 have e:atI ((c::a).reverse.map nI) (-1)=O (nI c):=kW (by rw[Px,Qx];rfl);have u:-(1:Int)=-1:=rfl;have g:=aO p;have h:(if((l.getD c 0:Y):Int)<((f:Y):Int) then((l.getD c 0:Y):Int) else((f:Y):Int))=((min f (l.getD c 0):Y):Int):=by split<;>lia
 have i:((f:Y):Int)-((min f (l.getD c 0):Y):Int)=((f-min f (l.getD c 0):Y):Int):=by lia
 have m:(bt.map cT).length<LIM:=by rw[Kr];exact vT<|by lia
 have n:bt.map cT++[T.tup [nI c,nI (min f (l.getD c 0))]]=(bt++[(c,min f (l.getD c 0))]).map cT:=by rw[LY];rfl
 exact⟨_,by simp_all only[e,u,g,h,i,m,n];rfl⟩
theorem FV (k:Y)(c m:Y)(l:U Y)(a:c<l.length)(t:m<=l.getD c 0)(e f g h:j W)(b d:Md):
  evSs (C k) DB [e,O (.o .s,.lst<|l.map nI),f,g,h,O (b,nI c),O (d,nI m)]=.nx [e,O (.o .s,.lst<|(l.set c<|l.getD c 0-m).map nI),f,g,h,O (b,nI c),O (d,nI m)]:=by
 have i:=aO a;have n:=dg a;have p:((l.getD c 0:Y):Int)-((m:Y):Int)=((l.getD c 0-m:Y):Int):=by lia
 have r:=cU l c<|l.getD c 0-m;simp_all only[i,n,p,r]
theorem EN (k:Y)(c:Y)(a l:U Y)(r:c<l.length)(g i m n:j W)(f:Md):
  evSs (C k) DC [O (.d,.lst<|(c::a).reverse.map nI),O (.o .s,.lst<|l.map nI),g,i,m,O (f,nI c),n]=.nx [O (.d,.lst<|(if l.getD c 0=0 then a else c::a).reverse.map nI),O (.o .s,.lst<|l.map nI),g,i,m,O (f,nI c),n]:=by
 have e:=aO r;by_cases h:l.getD c 0=0
 .have b:(((l.getD c 0:Y):Int)==0)=true:=by rw [h]; rfl
  rw[RJ h];have p:kY (.d,.lst ((c::a).reverse.map nI)) []=O ((.d,nI c),(.d,.lst (a.reverse.map nI))):=by rw[Ny,LY];unfold kY;simp;rfl
  simp_all only[e,b,p]
 .have b:(((l.getD c 0:Y):Int)==0)=false:=by rw [R7]; lia
  rw[RK h];simp_all only[e,b]
theorem fj (f c:Y)(a l:U Y):dlB f (c::a) l=if f=0 then[] else(c,min f<|l.getD c 0)::dlB (f-min f (l.getD c 0)) a (l.set c<|l.getD c 0-min f (l.getD c 0)):=rfl
theorem ig (f c:Y)(a l:U Y):dlL f (c::a) l=if f=0 then l else dlL (f-min f (l.getD c 0)) a (l.set c<|l.getD c 0-min f (l.getD c 0)):=rfl
theorem vG (f c:Y)(a l:U Y):dlR f (c::a) l=if f=0 then c::a else if l.getD c 0<=f then dlR (f-min f (l.getD c 0)) a (l.set c<|l.getD c 0-min f (l.getD c 0)) else c::a:=rfl
theorem j6 (a:U T):truth (.lst a)=O (!a.isEmpty):=rfl
abbrev DQ:U S:=[
   .asg (.q [0] []) 5 (.op .ix Kg [.var 0,.op .neg Kg [.cst<|.int 1]]),
   .asg (.q [1,4] [5]) 6 (.op .min Kg [.var 4,.op .ix Kg [.var 1,.var 5]]),
   .app (.q [] [5,6]) 3 (.tup [.var 5,.var 6]),
   .asg (.q [4] [6]) 4 (.op .sub Kg [.var 4,.var 6]),
   .setI (.q [1] [5,6]) 1 (.var 5) (.op .sub Kg [.op .ix Kg [.var 1,.var 5],.var 6]),
   .ite (.q [1] [5]) (.op .eq Kg [.op .ix Kg [.var 1,.var 5],.cst<|.int 0]) [.exp (.l [])<|.pop 0 []] []]
abbrev DT:E:=.and (.op .gt Kg [.var 4,.cst<|.int 0])<|.var 0
theorem r8 (k h:Y)(g l:U Y)(P:∀c∈g,c<l.length)(hl:g.length<=12)(t:j W)(p:Md):
  ∃z i m,jf (evT (C k) (.q [0,4] []) DT) (evSs (C k) DQ) jb [O (.d,.lst<|g.reverse.map nI),O (.o .s,.lst<|l.map nI),t,O (.d,.lst []),O (p,nI h),J,J]=.nx [O (.d,.lst<|(dlR h g l).reverse.map nI),O (.o .s,.lst<|(dlL h g l).map nI),t,O (.d,bL<|dlB h g l),z,i,m]:=by
 obtain⟨η',Z,z,i,m,rfl⟩:=eD (c:=evT (C k) (.q [0,4] []) DT) (f:=evSs (C k) DQ)
  (λr D=>∃(f:Y) (a e:U Y) (bt:U<|Y×Y) (p:Md) (i m:j W),r=a.length+(if f=0 then 0 else 1)/\(∀c∈a,c<e.length)/\bt.length+r<=24/\bt++dlB f a e=dlB h g l/\dlR f a e=dlR h g l/\dlL f a e=dlL h g l/\D=[O (.d,.lst<|a.reverse.map nI),O (.o .s,.lst<|e.map nI),t,O (.d,bL bt),O (p,nI f),i,m])
  (λD=>∃(z i m:j W),D=[O (.d,.lst<|(dlR h g l).reverse.map nI),O (.o .s,.lst<|(dlL h g l).map nI),t,O (.d,bL<|dlB h g l),z,i,m])
  jb (g.length+(if h=0 then 0 else 1)) [O (.d,.lst<|g.reverse.map nI),O (.o .s,.lst<|l.map nI),t,O (.d,.lst []),O (p,nI h),J,J] (by show _<1000000000000;split<;>lia)
  ⟨h,g,l,[],p,J,J,rfl,P,by simp only[NL];split<;>lia,rfl,rfl,rfl,rfl⟩
  (by
   rintro r D ⟨f,a,e,bt,p,i,m,G,u,hb,e1,e2,e3,Q⟩;subst Q;by_cases w:f=0
   .left;subst w;rw[CP,La] at e1;rw[Gp] at e2;rw[yw] at e3;have d:decide ((((0:Y):Y):Int)>0)=false:=rfl;exact⟨_,by simp_all only[d];rfl,O (p,nI 0),i,m,by rw[<- e1,<- e2,<- e3]⟩
   .have d:decide (((f:Y):Int)>0)=true:=RI (by lia);cases a with
    |nil=>
     left;have F:bt=dlB h g l:=by rw[<- e1];show bt=bt++[];rw[La]
     have A:truth (.lst (([]:U Y).reverse.map nI))=O false:=rfl;exact⟨_,by simp_all only[d,A];rfl,O (p,nI f),i,m,by rw[<- F,<- e2,<- e3];rfl⟩
    | cons c a =>
     right;have n:=u c Ku;have A:truth (.lst ((c::a).reverse.map nI))=O true:=by rw[j6];simp
     rw[Kz,RK w] at G;obtain⟨L,M⟩:=HA k c f a e bt n (by lia) t i m p;have N:=FV k c (min f<|e.getD c 0) e n (NY _ _) (O (.d,.lst<|(c::a).reverse.map nI)) t (O (.d,bL<|bt++[(c,min f<|e.getD c 0)])) (O (.d,nI<|f-min f (e.getD c 0))) L .d;have I:=EN k c a (e.set c<|e.getD c 0-min f (e.getD c 0)) (by rw[KZ];exact n) t (O (.d,bL<|bt++[(c,min f<|e.getD c 0)])) (O (.d,nI<|f-min f (e.getD c 0))) (O (.d,nI<|min f<|e.getD c 0)) L;rw[aq e c c _ n,RJ rfl] at I;have run:=(go1 (b:=DB++DC) M).trans<|(go1 (b:=DC) N).trans I;rw[fj f c a e,RK w] at e1;rw[vG f c a e,RK w] at e2;rw[ig f c a e,RK w] at e3;by_cases y:e.getD c 0<=f
     .have H:e.getD c 0-min f (e.getD c 0)=0:=by lia
      rw[RJ H] at run;rw[RJ y] at e2;refine⟨_,_,a.length+(if f-min f (e.getD c 0)=0 then 0 else 1),by simp_all only[d,A],run,?_,_,a,_,_,_,_,_,rfl,λx hx=>by rw[KZ];exact u x<|Kw _ hx,?_,?_,e2,e3,rfl⟩
      .rw[G];split<;>lia
      .rw[KJ,Lf];split<;>lia
      .rw[Ll];exact e1
     .have H:¬ e.getD c 0-min f (e.getD c 0)=0:=by lia
      have v:f-min f (e.getD c 0)=0:=by lia
      rw[RK H,v] at run;rw[RK y] at e2;rw[v,CP] at e1;rw[v,yw] at e3;refine⟨_,_,(c::a).length,by simp_all only[d,A],run,?_,0,c::a,_,_,_,_,_,by rw[RJ rfl];rfl,λx hx=>by rw[KZ];exact u x hx,?_,?_,by rw[Gp];exact e2,by rw[yw];exact e3,rfl⟩
      .rw[G,Kz];lia
      .rw[KJ,Lf,Kz];lia
      .rw[CP,La];exact e1)
 exact⟨z,i,m,Z⟩
theorem yF (k h:Y)(a l:U Y)(b:∀c∈a,c<l.length)(e:a.length<=12)(m:Md):C (k+1) 311 [(.d,.lst<|a.reverse.map nI),(.o .s,.lst<|l.map nI),(m,nI h)]=.ok ((.d,bL<|dlB h a l),[(.d,.lst<|(dlR h a l).reverse.map nI),(.o .s,.lst<|(dlL h a l).map nI)]):=by obtain⟨g,i,n,f⟩:=r8 k h a l b e (O (m,nI h)) .d;rw[zu,x_run _ _ _ rfl];simp_all only[gY,f]
abbrev PT:E:=.op .lt Kg [.var 2,.var 3]
abbrev PB:U S:=[
   .asg (.q [] [2,3]) 4 (.op .fdiv Kg [.op .add Kg [.var 2,.var 3],.cst<|.int 2]),
   .ite (.q [0] [1,4]) (.op .gt Kg [.op .ix Kg [.var 0,.var 4],.var 1]) [
    .asg (.q [] [4]) 2 (.op .add Kg [.var 4,.cst<|.int 1])] [
    .asg (.q [] [4]) 3 (.var 4)]]
theorem G8 (k:Y)(rd:U Y)(x lo a:Y)(o:lo<a)(n:a<=rd.length)(t:j W)(l r s:Md):
  ∃b c e,evSs (C k) PB [O (.d,.lst<|rd.map nI),O (l,nI x),O (r,nI lo),O (s,nI a),t]=.nx [O (.d,.lst<|rd.map nI),O (l,nI x),O (b,nI<|if rd.getD ((lo+a) / 2) 0>x then(lo+a) / 2+1 else lo),O (c,nI<|if rd.getD ((lo+a) / 2) 0>x then a else(lo+a) / 2),e]:=by
 have p:(lo+a) / 2<rd.length:=by lia
 have g:=aO p;have i:(((lo:Y):Int)+((a:Y):Int)) / 2=(((lo+a) / 2:Y):Int):=by lia
 have f:(decide ((0:Int)<2)&&decide ((2:Int)<1073741824))=true:=rfl;by_cases h:rd.getD ((lo+a) / 2) 0>x
 .have d:decide (((rd.getD ((lo+a) / 2) 0:Y):Int)>((x:Y):Int))=true:=RI (by lia);have m:(((lo+a) / 2:Y):Int)+1=(((lo+a) / 2+1:Y):Int):=by lia
  exact⟨_,_,_,by rw[RJ h,RJ h];simp_all only[f,i,g,d,m];rfl⟩
 .have d:decide (((rd.getD ((lo+a) / 2) 0:Y):Int)>((x:Y):Int))=false:=RR (by lia);exact⟨_,_,_,by rw[RK h,RK h];simp_all only[f,i,g,d];rfl⟩
theorem qw {rd:U Y}(h:rd.Pairwise (· > ·)){i a:Y}(b:i<a)(c:a<rd.length):rd.getD i 0>rd.getD a 0:=by rw[Kv,KN<|by lia,Kv,KN c];exact PF.mp h i a (by lia) c b
theorem vm (k:Y)(rd:U Y)(x:Y)(y:rd.Pairwise (· > ·))(L:rd.length<=100)(b o:Md):
  ∃lo n g o3 l,lo<=rd.length/\(∀i,i<lo->rd.getD i 0>x)/\(∀i,lo<=i->i<rd.length->rd.getD i 0<=x)/\jf (evT (C k) (.q [] [2,3]) PT) (evSs (C k) PB) jb [O (.d,.lst<|rd.map nI),O (b,nI x),O (.d,.int 0),O (o,nI rd.length),J]=.nx [O (.d,.lst<|rd.map nI),O (n,nI x),O (g,nI lo),o3,l]:=by
 obtain⟨I,D,lo,n,g,o3,l,t,m,p,rfl⟩:=eD (c:=evT (C k) (.q [] [2,3]) PT) (f:=evSs (C k) PB)
  (λr s=>∃(lo a:Y) (b g o:Md) (l:j W),r=a-lo/\lo<=a/\a<=rd.length/\(∀i,i<lo->rd.getD i 0>x)/\(∀i,a<=i->i<rd.length->rd.getD i 0<=x)/\s=[O (.d,.lst<|rd.map nI),O (b,nI x),O (g,nI lo),O (o,nI a),l])
  (λs=>∃(lo:Y) (b g:Md) (o3 l:j W),lo<=rd.length/\(∀i,i<lo->rd.getD i 0>x)/\(∀i,lo<=i->i<rd.length->rd.getD i 0<=x)/\s=[O (.d,.lst<|rd.map nI),O (b,nI x),O (g,nI lo),o3,l])
  jb rd.length [O (.d,.lst<|rd.map nI),O (b,nI x),O (.d,.int 0),O (o,nI rd.length),J] (by show _<1000000000000;lia)
  ⟨0,rd.length,b,.d,o,J,rfl,K4 _,Kt _,λi a=>RM a<|Ly _,λi t m=>RM m<|by lia,rfl⟩
  (by
   rintro r s ⟨lo,a,b,g,o,l,M,t,m,p,w,A⟩;subst A;rcases LW lo a with hlt|hge
   .right;have d:decide (((lo:Y):Int)<((a:Y):Int))=true:=RI (by lia);obtain⟨F,G,H,e⟩:=G8 k rd x lo a hlt m l b g o;by_cases h:rd.getD ((lo+a) / 2) 0>x
    .rw [RJ h,RJ h] at e;refine⟨_,_,a-((lo+a) / 2+1),by simp_all only[d],e,by lia,(lo+a) / 2+1,a,_,_,_,_,rfl,by lia,m,λi u=>?_,w,rfl⟩;rcases LW i ((lo+a) / 2) with z|z
     .exact Ng h (qw y z<|by lia)
     .have:i=(lo+a) / 2:=by lia
      rw[this];exact h
    .rw [RK h,RK h] at e;refine⟨_,_,(lo+a) / 2-lo,by simp_all only[d],e,by lia,lo,(lo+a) / 2,_,_,_,_,rfl,by lia,by lia,p,λi u v=>?_,rfl⟩;rcases LW ((lo+a) / 2) i with z|z
     .have:=qw y z v;lia
     .have:i=(lo+a) / 2:=by lia
      rw[this];lia
   .left;have d:decide (((lo:Y):Int)<((a:Y):Int))=false:=RR (by lia);have e:lo=a:=by lia
    subst e;exact⟨_,by simp_all only[d];rfl,lo,b,g,_,_,m,p,w,rfl⟩)
 exact⟨lo,n,g,o3,l,t,m,p,D⟩
theorem nN {rd:U Y}{y:Y}(h:y∈rd):∃i,i<rd.length/\rd.getD i 0=y:=by obtain⟨i,a,e⟩:=NO.mp h;exact⟨i,a,by rw[Kv,KN a];exact e⟩
theorem AI (k:Y)(rd:U Y)(x:Y)(h:rd.Pairwise (· > ·))(w:rd.length<=100)(hx:x ∉ rd)(p:Md):
  ∃c:U Y,c.Pairwise (· > ·)/\(∀y,y∈c ↔ y=x\/y∈rd)/\C (k+1) 299 [(.d,.lst<|rd.map nI),(p,nI x)]=.ok ((.d,.non),[(.d,.lst<|c.map nI)]):=by
 obtain⟨lo,m,I,o3,L,r,s,u,G⟩:=vm k rd x h w p .d;refine⟨rd.take lo++x::rd.drop lo,?_,λy=>?_,?_⟩
 .rw [OD,Mt];have o:∀y∈rd.drop lo,x>y:=λy g=>by obtain⟨i,l,e⟩:=nN g;rw[Mg] at l;rw[Kv,QY] at e;have:=u (lo+i) (by lia) (by lia);rw[Kv,e] at this;have A:y≠x:=λz=>hx (z ▸ OE g);lia
  have f:∀y∈rd.take lo,y>x:=λy g=>by obtain⟨i,l,e⟩:=nN g;rw[Ms] at l;rw[Kv,Rl<|by lia] at e;have:=s i (by lia);rw[Kv,e] at this;exact this
  exact⟨Qw (Pj _ _) h,⟨o,Qw (List.drop_sublist _ _) h⟩,λa n b v=>by
   rcases KD.mp v with z|z
   .rw[z];exact f a n
   .exact Ng (o b z) (f a n)⟩
 .rw [Li,KD];constructor
  .rintro (z | z | z)
   .exact .inr (O8 z)
   .exact .inl z
   .exact .inr (OE z)
  .rintro (z | z)
   .exact .inr (.inl z)
   .rw [<- OG lo rd,Li] at z;exact z.imp id .inr
 .have D:gX (O (.d,.lst (rd.map nI))) (O (I,nI lo)) (O (m,nI x))=O (.d,.lst ((rd.take lo++x::rd.drop lo).map nI)):=by
   show(if(decide (0<=((lo:Y):Int))&&decide ((((lo:Y):Int)).toNat<=(rd.map nI).length)&&decide ((rd.map nI).length<1000)&&leaves (rd.map nI)&&(nI x).leaf)=Kh then O ((.d,.lst ((rd.map nI).take (((lo:Y):Int)).toNat++nI x::(rd.map nI).drop (((lo:Y):Int)).toNat)):W) else J)=_;have H:leaves (rd.map nI)=true:=K5.mpr λt f=>by obtain⟨_,_,rfl⟩:=KG.mp f;rfl
   rw[Lz,Kr,H,RI<|show 0<=((lo:Y):Int) by lia,RI r,RI<|show rd.length<1000 by lia,LY,K2,Qr,Qq];rfl
  have F:(((rd.map nI).length:Y):Int)=((rd.length:Y):Int):=by rw[Kr]
  rw[ir,x_run _ _ _ rfl];simp_all only[bC,F,G,D]
def cn0 (l a:U Y):Y:=a.countP λp=>decide (0<l.getD p 0)
def cnE (e a:U Y):Y:=a.countP λp=>decide (p∈e)
theorem xh {l e:U Y}{x:Y}(d:∀y∈e,0<l.getD y 0)(hx:0<l.getD x 0)(f:x ∉ e):∀a:U Y,cnE e a+a.count x<=cn0 l a
|[]=>Kt _
| p::a=>by
 have g:=xh d hx f a;unfold cnE cn0 at g ⊢;rw[Mr,Mr,MF];by_cases b:p=x
 .subst b;simp[-Kv,f,hx];lia
 .by_cases c:p∈e
  .have:=d p c;simp[-Kv,b,c,this];lia
  .simp [-Kv,b,c];split<;>lia
theorem lC {e:U Y}{x:Y}(d:x ∉ e):∀a:U Y,cnE (e++[x]) a=cnE e a+a.count x
|[]=>rfl
| p::a=>by
 have f:=lC d a;unfold cnE at f ⊢;rw[Mr,Mr,MF,f];by_cases b:p=x
 .subst b;simp[-Kv,d];lia
 .by_cases c:p∈e
  .simp[-Kv,b,c];lia
  .simp[-Kv,b,c]
theorem mw {l l' e:U Y}(h:∀p,p∈e ↔ 0<l.getD p 0/\l'.getD p 0=0)(c:∀p,l'.getD p 0<=l.getD p 0):∀d:U Y,cn0 l d=cn0 l' d+cnE e d
|[]=>rfl
| p::d=>by
 have g:=mw h c d;unfold cn0 cnE at g ⊢;rw[Mr,Mr,Mr,g];have hp:=h p;have i:=c p;by_cases a:0<l.getD p 0
 .by_cases f:l'.getD p 0=0
  .have b:p∈e:=hp.mpr ⟨a,f⟩;rw[RI a,RI b,RR<|show¬0<l'.getD p 0 by lia];simp[-Kv];lia
  .have b:p ∉ e:=fun z=>f (hp.mp z).2;rw[RI a,RR b,RI<|show 0<l'.getD p 0 by lia];simp[-Kv];lia
 .have b:p ∉ e:=fun z=>a (hp.mp z).1;rw[RR a,RR b,RR<|show¬0<l'.getD p 0 by lia];simp[-Kv]
theorem vh {l a:U Y}:cn0 l a=0 ↔ ∀p∈a,l.getD p 0=0:=by rw[cn0,Q0];exact⟨λh p hp=>by have:=h p hp;simp[-Kv] at this;exact this,λh p hp=>by simp[-Kv,h p hp]⟩
structure Fz (P:Y->U Y)(n:Y)(l:U Y)(A:Y->Prop)(e u aw rd:U Y):Prop where
 len:aw.length=n
 cn:∀m,m<n->aw.getD m 0+u.count m+cnE e (P m)=cn0 l (P m)
 fall:rd.Pairwise (· > ·)
 mem:∀x,x∈rd ↔ A x\/(x<n/\0<cn0 l (P x)/\aw.getD x 0=0)
theorem Fz.lt {P:Y->U Y}{n:Y}{l:U Y}{A:Y->Prop}{e u a rd:U Y}(b:∀x,A x->x<n/\cn0 l (P x)=0)(h:Fz P n l A e u a rd):∀x∈rd,x<n:=λx hx=>((h.mem x).mp hx).elim (λz=>(b x z).1) Nd
theorem Fz.few {P:Y->U Y}{n:Y}{l:U Y}{A:Y->Prop}{e u c rd:U Y}(d:∀x,A x->x<n/\cn0 l (P x)=0)(h:Fz P n l A e u c rd):rd.length<=n:=
 d9 n rd (h.fall.imp λ{a b} z=>LS z) (h.lt d)
theorem Fz.step {P:Y->U Y}{n:Y}{l:U Y}{A:Y->Prop}{e u b rd:U Y}{x m:Y}(r:∀x,A x->x<n/\cn0 l (P x)=0)(s:∀y∈e,0<l.getD y 0)(hx:0<l.getD x 0)(w:x ∉ e)(h:Fz P n l A e u b rd)(k:m<n)(H:u.count m+1<=(P m).count x):
  1<=b.getD m 0/\m ∉ rd/\∀c:U Y,c.Pairwise (· > ·)->(∀y,y∈c ↔ (b.getD m 0-1=0/\y=m)\/y∈rd)->Fz P n l A e (u++[m]) (b.set m<|b.getD m 0-1) c:=by
 have F:=h.cn m k;have G:=xh s hx w<|P m;have p:1<=b.getD m 0:=by lia
 have d:m<b.length:=by rw[h.len];exact k
 have i:0<cn0 l (P m):=by lia
 have o:m ∉ rd:=λz=>by
  rcases(h.mem m).mp z with z|z
  .have:=(r m z).2;lia
  .lia
 refine⟨p,o,λc t D=>⟨by rw[KZ];exact h.len,λa v=>?_,t,λy=>?_⟩⟩
 .rw [aq b m a _ d,NR,MF,MZ];by_cases f:m=a
  .subst f;rw[RJ rfl];simp[-Kv];lia
  .rw[RK f];simp[-Kv,f];exact h.cn a v
 .rw [D y,h.mem y,aq b m y _ d];by_cases g:m=y
  .subst g;rw[RJ rfl];constructor
   .rintro (z | z | z)
    .exact .inr ⟨k,i,z.1⟩
    .exact .inl z
    .lia
   .rintro (z | z)
    .exact .inr (.inl z)
    .exact .inl ⟨z.2.2,rfl⟩
  .rw [RK g];constructor
   .rintro (z | z)
    .exact RM z.2.symm g
    .exact z
   .exact .inr
theorem Fz.next {P:Y->U Y}{n:Y}{l:U Y}{A:Y->Prop}{e u a rd:U Y}{x:Y}(c:x ∉ e)(h:Fz P n l A e u a rd)(d:∀m,m<n->u.count m=(P m).count x):Fz P n l A (e++[x]) [] a rd:=by refine⟨h.len,λm b=>?_,h.fall,h.mem⟩;have f:=h.cn m b;have g:=lC c<|P m;have i:=d m b;rw[MZ];lia
structure Hd (P:Y->U Y)(n:Y)(l aw:U Y):Prop where
 len:l.length=n
 alen:aw.length=n
 aw:∀m,m<n->aw.getD m 0=cn0 l (P m)
 st:∀m,m<n->0<cn0 l (P m)->0<l.getD m 0
theorem can_cn {P:Y->U Y}{l:U Y}{x:Y}:x∈can P l ↔ x<l.length/\0<l.getD x 0/\cn0 l (P x)=0:=by rw[can_mem,vh]
theorem Bo {P:Y->U Y}{h:Y}{l:U Y}(p:Y):p∈((dlB h (can P l) l).filter λq=>(dlL h (can P l) l).getD q.1 0==0).map (·.1) ↔ 0<l.getD p 0/\(dlL h (can P l) l).getD p 0=0:=by
 have i:∀c∈can P l,c<l.length:=λc g=>(can_mem.mp g).1;constructor
 .intro hp;obtain⟨⟨y,m⟩,b,e⟩:=KG.mp hp;have e:y=p:=e;subst e;have a:=LG.mp b;exact⟨(can_mem.mp<|dC _ _ _ y m a.1).2.1,by simpa[-Kv] using a.2⟩
 .rintro ⟨a,d⟩;have f:=jc (can P l) h l p i (by lia);obtain⟨⟨y,m⟩,b,e⟩:=KG.mp f;have e:y=p:=e;subst e;exact KG.mpr ⟨(y,m),LG.mpr ⟨b,by simp[-Kv,d]⟩,rfl⟩
theorem Hd.next {P:Y->U Y}{n h:Y}{l r o rd:U Y}(d:Hd P n l r)(f:Fz P n l (λx=>x∈can P l/\0<(dlL h (can P l) l).getD x 0) (((dlB h (can P l) l).filter λq=>(dlL h (can P l) l).getD q.1 0==0).map (·.1)) [] o rd):
  Hd P n (dlL h (can P l) l) o/\rd=(can P<|dlL h (can P l) l).reverse:=by
 have w:∀c∈can P l,c<l.length:=λc s=>(can_mem.mp s).1;have i:=λp=>oX (can P l) h l p w;have b:(dlL h (can P l) l).length=n:=by rw[cS];exact d.len
 have u:=λm=>mw (l:=l) (l':=dlL h (can P l) l) (λp=>Bo (P:=P) (h:=h) (l:=l) p) i<|P m;have e:∀m,m<n->o.getD m 0=cn0 (dlL h (can P l) l) (P m):=λm t=>by have k:=f.cn m t;have D:=u m;rw[MZ] at k;lia
 have out:∀x,0<cn0 l (P x)->(dlL h (can P l) l).getD x 0=l.getD x 0:=λx hx=>fH (can P l) h l x w λz=>by have:=(can_cn.mp z).2.2;lia
 refine⟨⟨b,f.len,e,λm t A=>?_⟩,kn f.fall iA λx=>?_⟩
 .have k:0<cn0 l (P m):=by have:=u m; lia
  rw[out m k];exact d.st m t k
 .rw [f.mem x,Oi,can_cn (l:=dlL h (can P l) l),b];constructor
  .rintro (⟨a,g⟩ | ⟨a,g,v⟩)
   .have y:=can_cn.mp a;have:=u x;exact⟨by rw[<- d.len];exact y.1,g,by lia⟩
   .exact⟨a,by rw[out x g];exact d.st x a g,by rw[<- e x a];exact v⟩
  .rintro ⟨a,g,v⟩;by_cases s:cn0 l (P x)=0
   .exact .inl ⟨can_cn.mpr ⟨by rw[d.len];exact a,Ld g<|i x,s⟩,g⟩
   .exact .inr ⟨a,by lia,by rw[e x a];exact v⟩
theorem Hd.fz {P:Y->U Y}{n h:Y}{l b:U Y}(d:Hd P n l b):Fz P n l (λx=>x∈can P l/\0<(dlL h (can P l) l).getD x 0) [] [] b (dlR h (can P l) l).reverse:=by
 have e:∀c∈can P l,c<l.length:=λc a=>(can_mem.mp a).1;refine⟨d.alen,λm f=>?_,?_,λx=>?_⟩
 .rw[d.aw m f,MZ];simp[-Kv,cnE]
 .obtain ⟨p,hp⟩:=qd (can P l) h l;have:=iA (P:=P) (l:=l);rw[hp,List.reverse_append] at this;exact(OD.mp this).1
 .rw [Oi,qB (can P l) h l dS e (fun c a=>(can_mem.mp a).2.1) x];constructor
  .exact .inl
  .rintro (z | z)
   .exact z
   .have:=d.aw x z.1;lia
abbrev T1:U S:=[.setI (.q [3,9] []) 3 (.var 9)<|.op .sub Kg [.op .ix Kg [.var 3,.var 9],.cst<|.int 1]]
abbrev T2:U S:=[.ite (.q [3,9] []) (.op .eq Kg [.op .ix Kg [.var 3,.var 9],.cst<|.int 0]) [.exp (.l [9])<|.call 299 [.io 5,.var 9]] []]
theorem Gy (k:Y)(a:U Y)(m:Y)(b:m<a.length)(r:1<=a.getD m 0)(d e f g h i l n:j W)(c:Md):
  evSs (C k) T1 [d,e,f,O (.o .s,.lst<|a.map nI),g,h,i,l,n,O (c,nI m),J,J,J,J]=.nx [d,e,f,O (.o .s,.lst<|(a.set m<|a.getD m 0-1).map nI),g,h,i,l,n,O (c,nI m),J,J,J,J]:=by
 have e1:=aO b;have e2:=dg b;have e3:((a.getD m 0:Y):Int)-1=((a.getD m 0-1:Y):Int):=by lia
 have p:=cU a m<|a.getD m 0-1;simp_all only[e1,e2,e3,p]
theorem FR (k:Y)(b rd:U Y)(m:Y)(w:m<b.length)(c:rd.Pairwise (· > ·))(v:rd.length<=100)(hx:m ∉ rd)(e f g i l n p:j W):
  ∃(a:U Y) (x:Md),a.Pairwise (· > ·)/\(∀y,y∈a ↔ (b.getD m 0=0/\y=m)\/y∈rd)/\evSs (C<|k+1) T2 [e,f,g,O (.o .s,.lst<|b.map nI),i,O (.d,.lst<|rd.map nI),l,n,p,O (.s,nI m),J,J,J,J]=.nx [e,f,g,O (.o .s,.lst<|b.map nI),i,O (.d,.lst<|a.map nI),l,n,p,O (x,nI m),J,J,J,J]:=by
 have e1:=aO w;by_cases h:b.getD m 0=0
 .have e2:(((b.getD m 0:Y):Int)==0)=true:=by rw [h]; rfl
  obtain⟨a,r,t,u⟩:=AI k rd m c v hx .s;exact⟨a,_,r,λy=>by rw[t y];simp[-Kv,h],by simp_all only[e1,e2,u];rfl⟩
 .have e2:(((b.getD m 0:Y):Int)==0)=false:=by rw [R7]; lia
  exact⟨rd,_,c,λy=>by simp[-Kv,h],by simp_all only[e1,e2];rfl⟩
abbrev TI:U S:=[
     .setI (.q [3,9] []) 3 (.var 9) (.op .sub Kg [.op .ix Kg [.var 3,.var 9],.cst<|.int 1]),
     .ite (.q [3,9] []) (.op .eq Kg [.op .ix Kg [.var 3,.var 9],.cst<|.int 0]) [.exp (.l [9])<|.call 299 [.io 5,.var 9]] []]
theorem pN (k n:Y)(hn:n<=12)(P:Y->U Y)(l:U Y)(A:Y->Prop)(M:∀x,A x->x<n/\cn0 l (P x)=0)(e:U Y)(he:∀y∈e,0<l.getD y 0)(x:Y)(hx:0<l.getD x 0)(G:x ∉ e)(L:U Y)(hs:∀m,m<n->L.count m=(P m).count x)(p t v w z D F:j W):
 ∀(r u a rd:U Y) (I:j W),u++r=L->(∀m∈r,m<n)->Fz P n l A e u a rd ->
 ∃c b g,Fz P n l A e L c b/\aS [9] (evSs (C<|k+1) TI) (r.map λi=>[((.s,nI i):W)]) [p,t,v,O (.o .s,.lst<|a.map nI),w,O (.d,.lst<|rd.map nI),z,D,F,I,J,J,J,J]=.nx [p,t,v,O (.o .s,.lst<|c.map nI),w,O (.d,.lst<|b.map nI),z,D,F,g,J,J,J,J]
|[],u,a,rd,I,H,_,h=>⟨a,rd,I,by rw[<- H,La];exact h,rfl⟩
| m::r,u,a,rd,I,H,hr,h=>by
 have N:=hr m Ku;have hc:u.count m+1<=(P m).count x:=by rw[<- hs m N,<- H,NR,MF];simp
 obtain⟨h1,h2,h3⟩:=h.step M he hx G N hc;have f:m<a.length:=by rw[h.len];exact N
 have hfew:=h.few M;have e1:=Gy (k+1) a m f h1 p t v w (O (.d,.lst<|rd.map nI)) z D F .s;obtain⟨b,m9,a1,Z,e2⟩:=FR k (a.set m<|a.getD m 0-1) rd m (by rw[KZ];exact f) h.fall (by lia) h2 p t v w z D F;rw[aq a m m _ f,RJ rfl] at Z;obtain⟨c,Q,g,h',lp⟩:=pN k n hn P l A M e he x hx G L hs p t v w z D F r (u++[m]) _ b (O (m9,nI m)) (by rw[Ll];exact H) (λy hy=>hr y<|Kw _ hy)<|h3 b a1 Z;refine⟨c,Q,g,h',?_⟩;show Fl.turn (evSs (C<|k+1) (T1++T2) [p,t,v,O (.o .s,.lst<|a.map nI),w,O (.d,.lst<|rd.map nI),z,D,F,O (.s,nI m),J,J,J,J]) (aS [9] (evSs (C<|k+1) TI)<|r.map λi=>[((.s,nI i):W)])=_;rw[go1 e1,e2];exact lp
abbrev TJ:U S:=[.forS [4] [8] .seq [.op .ix Kg [.var 4,.var 8]] [9] TI]
theorem qz (k n:Y)(hn:n<=12)(P:Y->U Y)(l:U Y)(A:Y->Prop)(hA:∀x,A x->x<n/\cn0 l (P x)=0)(E:U Y)(hE:E.Nodup)(M:∀y∈E,y<n)(g:∀y∈E,0<l.getD y 0)(w D F G H:j W):
 ∀(r e f rd:U Y) (o8 v:j W) (L:Md),e++r=E->Fz P n l A e [] f rd ->
 ∃a b u c t,Fz P n l A E [] a b/\aS [8] (evSs (C<|k+1) TJ) (r.map λi=>[((.s,nI i):W)]) [w,D,F,O (.o .s,.lst<|f.map nI),O (L,.lst<|mS<|aE P n n),O (.d,.lst<|rd.map nI),G,H,o8,v,J,J,J,J]=.nx [w,D,F,O (.o .s,.lst<|a.map nI),O (t,.lst<|mS<|aE P n n),O (.d,.lst<|b.map nI),G,H,u,c,J,J,J,J]
|[],e,f,rd,o8,v,L,I,h=>⟨f,rd,o8,v,L,by rw[<- I,La];exact h,rfl⟩
| x::r,e,f,rd,o8,v,L,I,h=>by
 have Q:x∈E:=by rw[<- I];exact K7 _ Ku
 have p:=M x Q;have N:∀y∈e,y∈E:=λy hy=>by rw[<- I];exact LU _ hy
 have Z:x ∉ e:=λz=>by rw[<- I,Py] at hE;exact hE.2.2 x z x Ku rfl
 have sc:∀m,m<n->((aE P n n).getD x []).count m=(P m).count x:=λm hm=>by rw[ck P n n x m p,RJ hm]
 have sl:∀m∈(aE P n n).getD x [],m<n:=λm hm=>by
  rcases LW m n with z|z
  .exact z
  .have:=ck P n n x m p;rw[RK<|by lia] at this;exact RM hm<|QT.mp this
 obtain⟨a,b,c,h',lp⟩:=pN k n hn P l A hA e (λy hy=>g y<|N y hy) x (g x Q) Z ((aE P n n).getD x []) sc w D F (O (.s,.lst<|mS<|aE P n n)) G H (O (.s,nI x)) ((aE P n n).getD x []) [] f rd v rfl sl h;obtain⟨aw2,rd2,u,o9'',t,h2,lp2⟩:=qz k n hn P l A hA E hE M g w D F G H r (e++[x]) a b (O (.s,nI x)) c .s (by rw[Ll];exact I)<|h'.next Z sc;refine⟨aw2,rd2,u,o9'',t,h2,?_⟩;have g1:=pF (S:=aE P n n) (x:=x) (by rw[bI];exact p);have g2:=aZ<|(aE P n n).getD x [];have e1:evSs (C (k+1)) TJ [w,D,F,O (.o .s,.lst (f.map nI)),O (L,.lst (mS (aE P n n))),O (.d,.lst (rd.map nI)),G,H,O (.s,nI x),v,J,J,J,J]=.nx [w,D,F,O (.o .s,.lst (a.map nI)),O (.s,.lst (mS (aE P n n))),O (.d,.lst (b.map nI)),G,H,O (.s,nI x),c,J,J,J,J]:=by simp_all only[g1,g2,lp]
 show Fl.turn (evSs (C<|k+1) TJ [w,D,F,O (.o .s,.lst<|f.map nI),O (L,.lst<|mS<|aE P n n),O (.d,.lst<|rd.map nI),G,H,O (.s,nI x),v,J,J,J,J]) (aS [8] (evSs (C<|k+1) TJ)<|r.map λi=>[((.s,nI i):W)])=_;rw[e1];exact lp2
abbrev QE:E:=.comp Kh .seq [.var 7] [13] (O<|.op .eq Kg [.op .ix Kg [.var 2,.op .ix Kg [.var 13,.cst<|.int 0]],.cst<|.int 0])<|.op .ix Kg [.var 13,.cst<|.int 0]
abbrev TW:U S:=[
   .asg (.l [1]) 7 (.call 311 [.io 5,.io 2,.var 1]),
   .forU .seq [.qx [2,7] [] QE] [8] TJ,
   .app (.l []) 6 (.mv 7)]
theorem lD {a b:T}:atI [a,b] 0=O a:=rfl
theorem rL {a b:T}:atI [a,b] 1=O b:=rfl
theorem dy {a:Type}(c:Y×Y->RN)(g:Y×Y->a):∀l:U<|Y×Y,l.filterMap (λi=>if c i then O (g i) else J)=(l.filter c).map g
|[]=>rfl
|x::l=>by
 rw[Mk,P7];cases h:c x with
 |true=>rw[RJ rfl,RJ rfl,K2,dy c g l]
 |false=>rw[RK KH,RK KH,dy c g l]
theorem Ff (k:Y)(l:U Y)(b:U<|Y×Y)(h:∀q∈b,q.1<l.length):
  evE (C k) QE [J,J,O (.s,.lst<|l.map nI),J,J,J,J,O (.s,bL b),J,J,J,J,J,J]=.ok ((.d,.lst<|((b.filter λq=>l.getD q.1 0==0).map (·.1)).map nI),[J,J,O (.s,.lst<|l.map nI),J,J,J,J,O (.s,bL b),J,J,J,J,J,J]):=by
 have f:aA [13] (cw (evE (C k) (.op .eq Kg [.op .ix Kg [.var 2,.op .ix Kg [.var 13,.cst (.int 0)]],.cst (.int 0)])) (evE (C k) (.op .ix Kg [.var 13,.cst (.int 0)]))) (b.map λq=>[((.s,cT q):W)]) [J,J,O (.s,.lst (l.map nI)),J,J,J,J,O (.s,bL b),J,J,J,J,J,J] []=.ok ([]++b.filterMap (λq=>if l.getD q.1 0==0 then O ((.s,nI q.1):W) else J),[J,J,O (.s,.lst (l.map nI)),J,J,J,J,O (.s,bL b),J,J,J,J,J,J]):=bX (λq=>if l.getD q.1 0==0 then O ((.s,nI q.1):W) else J) b [] λq i=>by
  refine⟨_,[J,J,O (.s,.lst<|l.map nI),J,J,J,J,O (.s,bL b),J,J,J,J,J,O (.s,cT q)],rfl,?_,rfl⟩;have g:=aO<|h q i;have a:=d7 (l.getD q.1 0) 0;cases e:l.getD q.1 0==0 with
  |true=>rw[e] at a;have c:(((l.getD q.1 0:Y):Int)==0)=true:=a;rw[RJ rfl];simp_all only[lD,g,c]
  |false=>rw[e] at a;have c:(((l.getD q.1 0:Y):Int)==0)=false:=a;rw[RK KH];simp_all only[lD,g,c]
 have n:(b.map cT).map (λt=>[((.s,t):W)])=b.map λq=>[((.s,cT q):W)]:=by rw[Lh];rfl
 have o:=dy (λq=>l.getD q.1 0==0) (λq=>((.s,nI q.1):W)) b;have p:aK ((b.filter λq=>l.getD q.1 0==0).map λq=>((.s,nI q.1):W))=((b.filter λq=>l.getD q.1 0==0).map (·.1)).map nI:=by rw[ax (λ_=>Md.s) (λq:Y×Y=>nI q.1),Lh];rfl
 have r:((b.filter λq=>l.getD q.1 0==0).map λq=>((.s,nI q.1):W)).all okD=true:=K5.mpr λw m=>by obtain⟨_,_,rfl⟩:=KG.mp m;rfl
 simp_all only[n,f,o,p,r]
theorem EV (k n h:Y)(Q:n<=12)(P:Y->U Y)(l t:U Y)(d:Hd P n l t)(bs:U<|U<|Y×Y)(hb:bs.length<10000)(v o7 D F:j W)(m1 A:Md):
  ∃a N i p r,Hd P n (dlL h (can P l) l) a/\evSs (C<|k+2) TW [v,O (m1,nI h),O (.o .s,.lst<|l.map nI),O (.o .s,.lst<|t.map nI),O (A,.lst<|mS<|aE P n n),O (.d,.lst<|(can P l).reverse.map nI),O (.d,.lst<|bs.map bL),o7,D,F,J,J,J,J]=.nx [v,O (N,nI h),O (.o .s,.lst<|(dlL h (can P l) l).map nI),O (.o .s,.lst<|a.map nI),O (i,.lst<|mS<|aE P n n),O (.d,.lst<|(can P<|dlL h (can P l) l).reverse.map nI),O (.d,.lst<|(bs++[dlB h (can P l) l]).map bL),J,p,r,J,J,J,J]:=by
 have b:∀c∈can P l,c<l.length:=λc L=>(can_mem.mp L).1;have f:∀c∈can P l,c<n:=λc L=>by rw[<- d.len];exact b c L
 have u:(can P l).length<=12:=K0 (d9 n _ dS f) Q;have e1:=λm=>yF (k+1) h (can P l) l b u m;have e2:=Ff (k+2) (dlL h (can P l) l) (dlB h (can P l) l) λq hq=>by rw[cS];exact b q.1<|dC _ _ _ q.1 q.2 hq
 generalize w:((dlB h (can P l) l).filter λq=>(dlL h (can P l) l).getD q.1 0==0).map (·.1)=E at e2;have I:∀y∈E,0<l.getD y 0:=λy g=>by rw[<- w] at g;exact((Bo y).mp g).1
 have G:∀y∈E,y∈can P l:=λy g=>by rw[<- w] at g;obtain⟨⟨z,m⟩,hz,e⟩:=KG.mp g;have e:z=y:=e;subst e;exact dC _ _ _ z m (LG.mp hz).1
 have H:E.Nodup:=by rw[<- w];exact((pZ (can P l) h l dS).sublist<|Rw _ List.filter_sublist)
 obtain⟨a,rd',p,r,i,hF,Z⟩:=qz (k+1) n Q P l (λx=>x∈can P l/\0<(dlL h (can P l) l).getD x 0) (λx hx=>⟨f x hx.1,(can_cn.mp hx.1).2.2⟩) E H (λy g=>f y<|G y g) I v (O (.s,nI h)) (O (.o .s,.lst<|(dlL h (can P l) l).map nI)) (O (.d,.lst<|bs.map bL)) (O (.d,bL<|dlB h (can P l) l)) E [] t (dlR h (can P l) l).reverse D F A rfl d.fz;obtain⟨M,hr⟩:=Hd.next d (by rw[w];exact hF);rw[hr] at Z;have g1:(bs.map bL).length<LIM:=by rw[Kr];show _<16777215;lia
 have g2:bs.map bL++[bL (dlB h (can P l) l)]=(bs++[dlB h (can P l) l]).map bL:=by rw[LY];rfl
 have g3:=aZ E;refine⟨a,.s,i,p,r,M,?_⟩;have hA:evSs (C (k+2)) (TW.take 1) [v,O (m1,nI h),O (.o .s,.lst (l.map nI)),O (.o .s,.lst (t.map nI)),O (A,.lst (mS (aE P n n))),O (.d,.lst ((can P l).reverse.map nI)),O (.d,.lst (bs.map bL)),o7,D,F,J,J,J,J]=.nx [v,O (.s,nI h),O (.o .s,.lst ((dlL h (can P l) l).map nI)),O (.o .s,.lst (t.map nI)),O (A,.lst (mS (aE P n n))),O (.d,.lst ((dlR h (can P l) l).reverse.map nI)),O (.d,.lst (bs.map bL)),O (.d,bL (dlB h (can P l) l)),D,F,J,J,J,J]:=by simp_all only[NU,Nz,e1]
 show evSs (C<|k+2) (TW.take 1++TW.drop 1) _=_;rw[go1 hA];simp_all only[Oq,M0,e2,g3,Z,g1,g2]
def wN (L:U T):U Y:=L.map λu=>(wOf u).toNat
theorem bU (L:U T):(wN L).length=L.length:=Kr _
theorem eP {L:U T}(b:Sts L){k:Y}(hk:k<L.length):0<(wN L).getD k 0/\(wN L).getD k 0<=60:=by obtain⟨i,a,w,c,e,_,_,d,f,_⟩:=b.st _<|gI hk;rw[Kv,KN hk] at e;have e:L[k]=_:=e;rw[wN,Kv,KY,KN hk,e];show 0<w.toNat/\w.toNat<=60;lia
theorem ur {L:U T}(b:Sts L):(L.map λu=>T.int<|wOf u)=(wN L).map nI:=by rw[wN,Lh];exact Mi λu c=>by obtain⟨i,a,w,d,rfl,_,_,e,_⟩:=b.st u c;show T.int w=.int ((w.toNat:Y):Int);rw[NT<|by lia]
theorem qv:∀(l:U Y) (b:Y),(∀x∈l,x<=b)->aB l<=b * l.length
|[],_,_=>K4 _
|x::l,b,h=>by have:=qv l b λy a=>h y<|Kw _ a;have:=h x Ku;show x+aB l<=b * (l.length+1);rw[Nat.mul_add];lia
theorem kO {L:U T}(b:Sts L):aB (wN L)<=720:=by
 have c:=qv (wN L) 60 λx hx=>by obtain⟨i,a,e⟩:=NO.mp hx;rw[bU] at a;have:=(eP b a).2;rw[Kv,KN<|by rw[bU];exact a,e] at this;exact this
 rw[bU] at c;have:=b.len;lia
theorem hd0 {L:U T}(b:Sts L):Hd (PL L) L.length (wN L) ((Kq L.length).map λm=>(PL L m).length):=by
 have g:∀m,m<L.length->((Kq L.length).map λm=>(PL L m).length).getD m 0=(PL L m).length:=λm a=>by rw[Kv,KY,LZ a];rfl
 refine⟨bU L,by rw[Kr,K9],λm a=>?_,λm a _=>(eP b a).1⟩;rw[g m a,cn0]
 symm
 rw[List.countP_eq_length];intro p hp;obtain⟨_,_,_,_,c,_⟩:=gk b a;exact RI (eP b<|c p hp).1
theorem nC (k:Y)(L:U T)(A:Sts L)(h:Y)(hh:0<h)(m m':Md):C (k+3) 310 [(m,.lst L),(m',nI h)]=.ok ((.d,.lst<|(tt (PL L) h 1000<|wN L).map bL),[]):=by
 have hn:=A.len;have c0:=jO (C<|k+2) 10 L A.st [O (.s,.lst L),J,J,J,J,J,J,J,J,J,J,J,J,J] (λ_=>rfl) λ_=>rfl;have t0:aK (L.map λu=>((.s,.int (wOf u)):W))=(wN L).map nI:=by rw[ek,ur A]
 have c1:aA [11] (bJ (evE (C (k+2)) (.op .len Kg [.op .ix Kg [.var 11,.cst (.int 3)]]))) (L.map λt=>[((.s,t):W)]) [O (.s,.lst L),J,J,J,J,J,J,J,J,J,J,J,J,J] []=.ok ([]++L.map (λu=>((.d,nI (ahT u).length):W)),[O (.s,.lst L),J,J,J,J,J,J,J,J,J,J,J,J,J]):=aI (λu=>((.d,nI (ahT u).length):W)) L [] λu hu=>⟨_,[O (.s,.lst L),J,J,J,J,J,J,J,J,J,J,O (.s,u),J,J],rfl,by
  obtain⟨i,p,w,ns,rfl,_⟩:=A.st u hu;have e:ahT (.tup [.tup [.int (i:Int),.int (p:Int)],.tup [],.int w,.lst (ns.map T.int)])=ns.map T.int:=rfl;rw[e];simp_all only[iI],rfl⟩
 generalize M:(Kq L.length).map (λm=>(PL L m).length)=v;have t1:aK (L.map λu=>((.d,nI (ahT u).length):W))=v.map nI:=by rw[ax (λ_=>Md.d) (λu=>nI (ahT u).length) L,jU,<- M,Lh];exact Mi λi _=>by show nI _=nI _;rw[tG]
 have I:=hd0 A;rw[M] at I;have e1:=Bt (k+1) L A
 -- those that wait for J, falling
 have c2:aA [12] (cw (evE (C (k+2)) (.op .eq Kg [.op .ix Kg [.var 3,.var 12],.cst (.int 0)])) (evE (C (k+2)) (.var 12))) ((Kq L.length).map λ(p:Y)=>[((.d,.int (((L.length:Y):Int)-1-(p:Int))):W)]) [O (.s,.lst L),J,J,O (.s,.lst (v.map nI)),J,J,J,J,J,J,J,J,J,J] []=.ok ([]++(Kq L.length).filterMap (λp=>if v.getD (L.length-1-p) 0==0 then O ((.d,nI (L.length-1-p)):W) else J),[O (.s,.lst L),J,J,O (.s,.lst (v.map nI)),J,J,J,J,J,J,J,J,J,J]):=bX (λp=>if v.getD (L.length-1-p) 0==0 then O ((.d,nI<|L.length-1-p):W) else J) _ [] λp hj=>by
  have y:=Lc.mp hj;have ej:((L.length:Y):Int)-1-(p:Int)=((L.length-1-p:Y):Int):=by lia
  refine⟨[O (.s,.lst L),J,J,O (.s,.lst<|v.map nI),J,J,J,J,J,J,J,J,O (.d,nI<|L.length-1-p),J],[O (.s,.lst L),J,J,O (.s,.lst<|v.map nI),J,J,J,J,J,J,J,J,O (.d,nI<|L.length-1-p),J],by rw[ej];rfl,?_,rfl⟩;have g:=aO (l:=v) (m:=L.length-1-p) (by rw[I.alen];lia);have D:=d7 (v.getD (L.length-1-p) 0) 0;cases h0:v.getD (L.length-1-p) 0==0 with
  |true=>rw[h0] at D;have N:(((v.getD (L.length-1-p) 0:Y):Int)==0)=true:=D;rw[RJ rfl];simp_all only[g,N]
  |false=>rw[h0] at D;have N:(((v.getD (L.length-1-p) 0:Y):Int)==0)=false:=D;rw[RK KH];simp_all only[g,N]
 have t2:=aW (λp=>v.getD (L.length-1-p) 0==0) (λp=>((.d,nI<|L.length-1-p):W))<|Kq L.length
 have t3:aK (((Kq L.length).filter λp=>v.getD (L.length-1-p) 0==0).map λp=>((.d,nI (L.length-1-p)):W))=(can (PL L) (wN L)).reverse.map nI:=by
  rw[ax (λ_=>Md.d) λp=>nI<|L.length-1-p]
  have:(can (PL L)<|wN L).reverse=((Kq L.length).filter λp=>v.getD (L.length-1-p) 0==0).map λp=>L.length-1-p:=by
   refine kn iA ?_ λx=>?_
   .rw [Ol];refine((Nm (n:=L.length)).filter _).imp_of_mem λ{a b} ha hb hab=>?_;have hb':=Lc.mp (LG.mp hb).1;show L.length-1-a>L.length-1-b;lia
   .rw [Oi,can_cn,bU];constructor
    .rintro ⟨z1,z2,z3⟩;refine KG.mpr ⟨L.length-1-x,LG.mpr ⟨Lc.mpr<|by lia,?_⟩,by lia⟩;rw[show L.length-1-(L.length-1-x)=x by lia,I.aw x z1,z3];rfl
    .intro z;obtain⟨p,hj,e⟩:=KG.mp z;have y:=LG.mp hj;have hjl:=Lc.mp y.1;have e:L.length-1-p=x:=e;have hx:x<L.length:=by lia
     rw[e,I.aw x hx,R9] at y;exact⟨hx,(eP A hx).1,y.2⟩
  rw[this,Lh];rfl
 have t4:(((Kq L.length).filter λp=>v.getD (L.length-1-p) 0==0).map λp=>((.d,nI (L.length-1-p)):W)).all okD=true:=K5.mpr λw hw=>by obtain⟨_,_,rfl⟩:=KG.mp hw;rfl
 have hs:=kO A
 obtain⟨η',lp,w0,o1,o2,o3,o4,o5,F,G,H,rfl⟩:=eD (c:=evT (C<|k+2) (.q [5] [])<|.var 5) (f:=evSs (C<|k+2) TW)
  (λr Z=>∃(l v:U Y) (bs:U<|U<|Y×Y) (f:Y) (m1 m4:Md) (F G H:j W),r=aB l/\Hd (PL L) L.length l v/\aB l<f/\bs.length+aB l<=720/\bs++tt (PL L) h f l=tt (PL L) h 1000 (wN L)/\Z=[O (.s,.lst L),O (m1,nI h),O (.o .s,.lst<|l.map nI),O (.o .s,.lst<|v.map nI),O (m4,.lst<|mS<|aE (PL L) L.length L.length),O (.d,.lst<|(can (PL L) l).reverse.map nI),O (.d,.lst<|bs.map bL),F,G,H,J,J,J,J])
  (λZ=>∃(w0 o1 o2 o3 o4 o5 F G H:j W),Z=[w0,o1,o2,o3,o4,o5,O (.d,.lst<|(tt (PL L) h 1000<|wN L).map bL),F,G,H,J,J,J,J])
  jb (aB<|wN L) [O (.s,.lst L),O (m',nI h),O (.o .s,.lst<|(wN L).map nI),O (.o .s,.lst<|v.map nI),O (.d,.lst<|mS<|aE (PL L) L.length L.length),O (.d,.lst<|(can (PL L)<|wN L).reverse.map nI),O (.d,.lst []),J,J,J,J,J,J,J] (by show _<1000000000000;lia)
  ⟨wN L,v,[],1000,m',.d,J,J,J,rfl,I,by lia,by simp;lia,rfl,rfl⟩
  (by
   rintro r Z ⟨l,v,bs,f,m1,m4,F,G,H,hr,d,hf,hb,e,he⟩;subst he;cases f with
   |zero=>exact RM hf<|Ly _
   | succ f =>
    by_cases Q:can (PL L) l=[]
    .left;have tr:truth (.lst ((can (PL L) l).reverse.map nI))=O false:=by rw[Q];rfl
     have e':bs=tt (PL L) h 1000 (wN L):=by rw[tt,RJ Q,La] at e;exact e
     exact⟨_,by simp_all only[tr];rfl,_,_,_,_,_,_,_,_,_,by rw[<- e']⟩
    .right
     have tr:truth (.lst ((can (PL L) l).reverse.map nI))=O true:=by
      rw[j6];cases hh:can (PL L) l with
      |nil=>exact RM hh Q
      |cons a b=>simp
     obtain⟨g1,D,N⟩:=ql (P:=PL L) (h:=h) (f:=f) (l:=l) hh Q hf;obtain⟨aw',m1',m4',o8',o9',d',run⟩:=EV k L.length h hn (PL L) l v d bs (by lia) (O (.s,.lst L)) F G H m1 m4;rw[g1] at e;exact⟨_,_,aB<|dlL h (can (PL L) l) l,by simp_all only[tr],run,by lia,dlL h (can (PL L) l) l,aw',bs++[dlB h (can (PL L) l) l],f,m1',m4',J,o8',o9',rfl,d',D,by rw[KJ,Lf];lia,by rw[Ll];exact e,rfl⟩)
 have n1:-(1:Int)=-1:=rfl;have r1:(((L.length:Y):Int)-1-(-1)).toNat=L.length:=by lia
 have r2:(decide ((((L.length:Y):Int)-1).natAbs<4611686018427387904)&&decide ((-1:Int).natAbs<4611686018427387904)&&decide Sv&&fits L.length)=true:=by rw[RI<|show(((L.length:Y):Int)-1).natAbs<4611686018427387904 by lia,show fits L.length=Kh from RI<|by show _<=16777215;lia];rfl
 rw[kl,x_run _ _ _ rfl];simp_all only[b7,c0,t0,c1,t1,e1,n1,r1,r2,c2,t2,t3,t4,lp]
theorem kr (l:U Y):dp (.lst<|l.map nI)<=64:=by
 have:dps (l.map nI)<=0:=n5 λu a=>by obtain⟨_,_,rfl⟩:=KG.mp a;exact Kt _
 show dps (l.map nI)+1<=64;lia
theorem Af (l:U Y):eqT (.lst<|l.map nI) (.lst [])=l.isEmpty:=by cases l<;>rfl
theorem Ct (l:U Y)(m m':Md):oSem .eq Kg [(m,.lst<|l.map nI),(m',.lst [])]=O (.d,.bl l.isEmpty):=by show(if(decide (dp (.lst<|l.map nI)<=64)&&decide (dp (.lst [])<=64))=Kh then O ((.d,.bl<|eqT (.lst<|l.map nI)<|.lst []):W) else J)=_;rw[RI<|kr l,Af];rfl
theorem BM (k:Y)(L:U T)(G:Sts L)(l:U Y)(x:l.length=L.length)(m m':Md):C (k+1) 308 [(m,.lst L),(m',.lst<|l.map nI)]=.ok ((.d,.lst<|(can (PL L) l).map nI),[]):=by
 have Z:=G.len
 have I:aA [2] (cw (evE (C k) (.and (.op .gt Kg [.op .ix Kg [.var 1,.var 2],.cst (.int 0)]) (.op .eq Kg [.comp Kg .seq [.op .ix Kg [.op .ix Kg [.var 0,.var 2],.cst (.int 3)]] [3] (O (.op .gt Kg [.op .ix Kg [.var 1,.var 3],.cst (.int 0)])) (.var 3),.lst Kg []]))) (evE (C k) (.var 2))) ((Kq L.length).map λ(i:Y)=>[((.d,.int (i:Int)):W)]) [O (.s,.lst L),O (.s,.lst (l.map nI)),J,J] []=.ok ([]++(Kq L.length).filterMap (λi=>if i7 (PL L) l i then O ((.d,nI i):W) else J),[O (.s,.lst L),O (.s,.lst (l.map nI)),J,J]):=bX (λi=>if i7 (PL L) l i then O ((.d,nI i):W) else J) _ [] λi M=>by
  have e:=Lc.mp M;refine⟨_,[O (.s,.lst L),O (.s,.lst<|l.map nI),O (.d,nI i),J],rfl,?_,rfl⟩;have t:=aO (l:=l) (m:=i) (by rw[x];exact e);obtain⟨a,b,w,e1,e2,e3⟩:=gk G e;have u:=iT e;rw[e1] at u;by_cases D:0<l.getD i 0
  .have n:decide (((l.getD i 0:Y):Int)>0)=true:=RI (by lia)
   have y:aA [3] (cw (evE (C k) (.op .gt Kg [.op .ix Kg [.var 1,.var 3],.cst (.int 0)])) (evE (C k) (.var 3))) ((PL L i).map λc=>[((.s,nI c):W)]) [O (.s,.lst L),O (.s,.lst (l.map nI)),O (.d,nI i),J] []=.ok ([]++(PL L i).filterMap (λc=>if decide (0<l.getD c 0) then O ((.s,nI c):W) else J),[O (.s,.lst L),O (.s,.lst (l.map nI)),O (.d,nI i),J]):=bX (λc=>if decide (0<l.getD c 0) then O ((.s,nI c):W) else J) _ [] λc g=>by
    refine⟨_,[O (.s,.lst L),O (.s,.lst<|l.map nI),O (.d,nI i),O (.s,nI c)],rfl,?_,rfl⟩;have A:=aO (l:=l) (m:=c) (by rw[x];exact e2 c g);by_cases h:0<l.getD c 0
    .have r:decide (((l.getD c 0:Y):Int)>0)=true:=RI (by lia);rw[RI h,RJ rfl];simp_all only[A,r]
    .have r:decide (((l.getD c 0:Y):Int)>0)=false:=RR (by lia);rw[RR h,RK KH];simp_all only[A,r]
   have H:=aZ<|PL L i;have o:=aW (λc=>decide (0<l.getD c 0)) (λc=>((.s,nI c):W))<|PL L i;have p:aK (((PL L i).filter λc=>decide (0<l.getD c 0)).map λc=>((.s,nI c):W))=((PL L i).filter λc=>decide (0<l.getD c 0)).map nI:=ax (λ_=>Md.s) nI _;have f:=λm m'=>Ct ((PL L i).filter λc=>decide (0<l.getD c 0)) m m';have v:i7 (PL L) l i=((PL L i).filter λc=>decide (0<l.getD c 0)).isEmpty:=by rw[i7,RI D,MX,OR,K5,List.isEmpty_iff,List.filter_eq_nil_iff];exact⟨λz c g=>by have:=z c g;rw[R9] at this;rw[RP];lia,λz c g=>by have:=z c g;rw[RP] at this;rw[R9];lia⟩
   rw[v];cases F:((PL L i).filter λc=>decide (0<l.getD c 0)).isEmpty with
   |true=>rw[F] at f;rw[RJ rfl];simp_all only[t,n,u,iI,H,y,o,p,f]
   |false=>rw[F] at f;rw[RK KH];simp_all only[t,n,u,iI,H,y,o,p,f]
  .have n:decide (((l.getD i 0:Y):Int)>0)=false:=RR (by lia);have v:i7 (PL L) l i=false:=by rw[i7,RR D,Nt]
   rw[v,RK KH];simp_all only[t,n]
 have o:=aW (i7 (PL L) l) (λi=>((.d,nI i):W))<|Kq L.length;have p:aK (((Kq L.length).filter (i7 (PL L) l)).map λi=>((.d,nI i):W))=(can (PL L) l).map nI:=by rw[ax (λ_=>Md.d) nI,can,x]
 have f:(((Kq L.length).filter (i7 (PL L) l)).map λi=>((.d,nI i):W)).all okD=true:=K5.mpr λw N=>by obtain⟨_,_,rfl⟩:=KG.mp N;rfl
 have P:(decide ((((L.length:Y):Int)).natAbs<4611686018427387904)&&fits L.length)=true:=by rw[RI<|show(((L.length:Y):Int)).natAbs<4611686018427387904 by lia,show fits L.length=Kh from RI<|by show _<=16777215;lia];rfl
 have Q:(((L.length:Y):Int)).toNat=L.length:=Lz _;rw[oW,x_run _ _ _ rfl];simp_all only[c9,P,Q,I,o,p,f]
def smB (b:U<|Y×Y):Y:=aB<|b.map (·.2)
theorem xA (b:U<|Y×Y)(c m:Y):smB (b++[(c,m)])=smB b+m:=by
 unfold smB;rw[LY];induction b with
 |nil=>show m+0=0+m;lia
 |cons q b a=>show q.2+aB (b.map (·.2)++[m])=q.2+aB (b.map (·.2))+m;have a:aB (b.map (·.2)++[m])=aB (b.map (·.2))+m:=a;lia
theorem Ao (b:U<|Y×Y):cq (b.map cT)=O (b.map λq=>[((.s,nI q.1):W),(.s,nI q.2)]):=by
 induction b with
 |nil=>rfl
 |cons q b a=>show(cq<|b.map cT).map ([((.s,nI q.1):W),(.s,nI q.2)]::·)=_;rw[a];rfl
theorem fJ:∀l:U Y,(l.map λ(i:Y)=>(i:Int)).sum=((aB l:Y):Int)
|[]=>rfl
|x::l=>by rw[K2,Qm,fJ l];show(x:Int)+((aB l:Y):Int)=((x+aB l:Y):Int);lia
structure Bt1 (P:Y->U Y)(h:Y)(l:U Y)(b:U (Y×Y))(l':U Y):Prop where
 len:l'.length=l.length
 asc:(b.map (·.1)).Pairwise (· < ·)
 one:∀q∈b,q.1<l.length/\1<=q.2/\l'.getD q.1 0+q.2=l.getD q.1 0/\∀p∈P q.1,l.getD p 0=0
 sum:smB b<=h
 out:∀x,x ∉ b.map (·.1)->l'.getD x 0=l.getD x 0
 all:aB l'+smB b=aB l
inductive Run (P:Y->U Y)(h:Y):U Y->U (U (Y×Y))->U Y->Prop
 |nil (l:U Y):Run P h l [] l
 |cons {l l' l2:U Y} {b:U (Y×Y)} {bs:U (U (Y×Y))}:Bt1 P h l b l'->Run P h l' bs l2->Run P h l (b::bs) l2
theorem Run.snoc {P:Y->U Y}{h:Y}{l a c:U Y}{b:U<|Y×Y}{bs:U<|U<|Y×Y}(r:Run P h l bs a)(x:Bt1 P h a b c):Run P h l (bs++[b]) c:=by
 induction r with
 |nil l=>exact .cons x<|.nil _
 |cons y _ d=>exact .cons y<|d x
theorem Run.len {P:Y->U Y}{h:Y}{l a:U Y}{bs:U<|U<|Y×Y}(r:Run P h l bs a):a.length=l.length:=by
 induction r with
 |nil l=>rfl
 |cons y _ b=>rw[b,y.len]
theorem Run.work {P:Y->U Y}{h:Y}{l c:U Y}{bs:U<|U<|Y×Y}(r:Run P h l bs c):aB l<=h * bs.length+aB c:=by
 induction r with
 |nil l=>lia
 |cons y _ d=>have a:=y.all;have b:=y.sum;rw[Kz,Qf];lia
theorem Av {l:U Y}{t:Y}(h:t<mxN l):∃x∈l,t<x:=by
 have a:l≠[]:=by rintro rfl;exact RM h<|Ly _
 exact⟨_,gH a,h⟩
theorem Run.deep {P:Y->U Y}{h n:Y}{s:Y->Y}(o:dX P n s){l f:U Y}{bs:U<|U<|Y×Y}(r:Run P h l bs f)(z:∀x,f.getD x 0=0):
  ∀t,(∀k,k<n->t<lg P k->0<l.getD k 0)->∀k,k<n->lg P k<=t+bs.length:=by
 induction r with
 |nil l=>
  intro t a k hk;by_cases e:t<lg P k
  .have:=a k hk e;have:=z k;lia
  .show _<=t+0;lia
 | cons y _ m =>
  rename_i w A D b bs r;intro t a k hk
  have:=m z (t+1) (λk hk e=>by
   by_cases d:k∈b.map (·.1)
   .obtain ⟨q,i,rfl⟩:=KG.mp d;have g:=(y.one q i).2.2.2;rw[eV o hk] at e;obtain⟨x,hx,c⟩:=Av (show t<mxN ((P q.1).map<|lg P) by lia);obtain⟨p,hp,rfl⟩:=KG.mp hx;have u:=a p (o.lt _ hk p hp) c;have v:=g p hp;lia
   .rw[y.out k d];exact a k hk<|by lia) k hk
  rw[Kz];lia
theorem uZ (c m:Y)(b:U<|Y×Y):smB ((c,m)::b)=m+smB b:=rfl
theorem kF:∀(a:U Y) (f:Y) (l:U Y),a.Nodup->(∀c∈a,c<l.length)->aB (dlL f a l)+smB (dlB f a l)=aB l/\smB (dlB f a l)<=f/\(smB (dlB f a l)=f\/∀c∈a,(dlL f a l).getD c 0=0)
|[],f,l,_,_=>⟨rfl,K4 _,.inr λ_ z=>nomatch z⟩
| c::a,f,l,nd,s=>by
 rw[fj,ig];by_cases k:f=0
 .rw [RJ k,RJ k];exact⟨rfl,K4 _,.inl k.symm⟩
 .rw [RK k,RK k,uZ];have n:=Le.mp nd;have h:=s c Ku;have p:min f (l.getD c 0)<=f:=PY _ _;have r:min f (l.getD c 0)<=l.getD c 0:=NY _ _;have b:min f (l.getD c 0)=f\/min f (l.getD c 0)=l.getD c 0:=by lia
  generalize min f (l.getD c 0)=m at p r b ⊢;have v:=fL l c (l.getD c 0-m) h;have g:∀d∈a,d<(l.set c (l.getD c 0-m)).length:=λd i=>by rw[KZ];exact s d<|Kw _ i
  obtain⟨t,u,o⟩:=kF a (f-m) (l.set c<|l.getD c 0-m) n.2 g;have e:=fH a (f-m) (l.set c<|l.getD c 0-m) c g n.1;rw[aq l c c _ h,RJ rfl] at e;refine⟨by lia,by lia,?_⟩;rcases o with o|o
  .exact .inl (by lia)
  .rcases b with b | b
   .exact .inl (by lia)
   .refine .inr fun d i=>?_;rcases KD.mp i with rfl|i
    .rw[e];lia
    .exact o d i
theorem pG:∀(a:U Y) (f:Y) (l:U Y),((dlB f a l).map (·.1)).Sublist a
|[],_,_=>Pw _
|c::a,f,l=>by
 rw[fj];split
 .exact List.nil_sublist _
 .exact(pG a _ _).cons₂ c
theorem qp:∀(a:U Y) (f:Y) (l:U Y),a.Nodup->(∀c∈a,c<l.length)->(∀c∈a,0<l.getD c 0)->∀q∈dlB f a l,1<=q.2/\(dlL f a l).getD q.1 0+q.2=l.getD q.1 0
|[],_,_,_,_,_,_,h=>nomatch h
| c::a,f,l,nd,t,hp,q,b=>by
 rw[fj] at b;rw[ig];by_cases u:f=0
 .rw[RJ u] at b;cases b
 .rw [RK u] at b ⊢;have i:=Le.mp nd;have g:=t c Ku;have x:=hp c Ku;have o:1<=min f (l.getD c 0):=by lia
  have p:min f (l.getD c 0)<=l.getD c 0:=NY _ _;generalize min f (l.getD c 0)=m at o p b ⊢;have n:∀d∈a,d<(l.set c (l.getD c 0-m)).length:=λd k=>by rw[KZ];exact t d<|Kw _ k
  rcases KD.mp b with rfl|b
  .have e:=fH a (f-m) (l.set c<|l.getD c 0-m) c n i.1;rw[aq l c c _ g,RJ rfl] at e;exact⟨o,by show(dlL (f-m) a<|l.set c<|l.getD c 0-m).getD c 0+m=l.getD c 0;lia⟩
  .have r:q.1∈a:=dC _ _ _ q.1 q.2 b;have v:∀d∈a,c≠d:=λd k e=>i.1<|e ▸ k;obtain⟨w,s⟩:=qp a (f-m) (l.set c<|l.getD c 0-m) i.2 n (λd k=>by rw[aq l c d _ g,RK<|v d k];exact hp d<|Kw _ k) q b;rw[aq l c q.1 _ g,RK<|v _ r] at s;exact⟨w,s⟩
theorem Fj {P:Y->U Y}{h:Y}{l:U Y}:Bt1 P h l (dlB h (can P l) l) (dlL h (can P l) l):=by
 have b:∀c∈can P l,c<l.length:=λc z=>(can_mem.mp z).1;obtain⟨f,g,_⟩:=kF (can P l) h l dS b;refine⟨cS _ _ _,?_,λq d=>?_,g,λx hx=>?_,f⟩
 .have:(can P l).Pairwise (· < ·):=Qs _ Nm;exact this.sublist<|pG _ _ _
 .have a:=can_mem.mp<|dC _ _ _ q.1 q.2 d;obtain⟨i,k⟩:=qp _ _ _ dS b (λc z=>(can_mem.mp z).2.1) q d;exact⟨a.1,i,k,a.2.2⟩
 .by_cases e:(dlL h (can P l) l).getD x 0=l.getD x 0
  .exact e
  .exact RM (jc _ _ _ x b e) hx
theorem kc {P:Y->U Y}{n:Y}{b:Y->Y}(o:dX P n b){l:U Y}(g:l.length=n)(d:can P l=[]):∀x,l.getD x 0=0:=by
 have a:∀(r k:Y),b k<r->k<n->l.getD k 0=0:=by
  intro r;induction r with
  |zero=>intro k hk;exact RM hk<|Ly _
  | succ r f =>
   intro k hk c;by_cases e:l.getD k 0=0
   .exact e
   .have:k∈can P l:=can_mem.mpr ⟨by lia,by lia,fun p hp=>f p (by have:=o.dn k c p hp; lia)<|o.lt k c p hp⟩;rw[d] at this;cases this
 intro x;by_cases hx:x<n
 .exact a (b x+1) x (MG _) hx
 .rw[Kv,Mv<|by lia];rfl
theorem wy {P:Y->U Y}{h n:Y}{i:Y->Y}(o:dX P n i)(d:0<h):∀(f:Y) (l:U Y),l.length=n->aB l<f->∃a,Run P h l (tt P h f l) a/\∀x,a.getD x 0=0
|0,_,_,c=>RM c<|Ly _
| f+1,l,g,c=>by
 by_cases b:can P l=[]
 .rw [tt,RJ b];exact⟨l,.nil l,kc o g b⟩
 .obtain ⟨e,e2,_⟩:=ql d b c;obtain⟨a,r,z⟩:=wy o d f (dlL h (can P l) l) (by rw[cS,g]) e2;rw[e];exact⟨a,.cons Fj r,z⟩
theorem oN {P:Y->U Y}{h n Lx:Y}{H:Y->Y}(o:dX P n H)(r:0<h)(hx:∀k,k<n->lg P k<=Lx):∀(f:Y) (l:U Y) (a:Y),l.length=n->aB l<f->(∀k,k<n->lg P k<=a->l.getD k 0=0)->∃F N,(tt P h f l).length=F+N/\h * F<=aB l/\N<=Lx-a
|0,_,_,_,m,_=>RM m<|Ly _
| f+1,l,a,u,m,s=>by
 by_cases i:can P l=[]
 .rw [tt,RJ i];exact⟨0,0,rfl,K4 _,K4 _⟩
 .obtain ⟨e,e2,_⟩:=ql r i m;have d:∀c∈can P l,c<l.length:=λc z=>(can_mem.mp z).1;obtain⟨I,L,v⟩:=kF (can P l) h l dS d;have le:∀x,(dlL h (can P l) l).getD x 0<=l.getD x 0:=λx=>oX _ _ _ x d;rw[e,Kz];by_cases G:smB (dlB h (can P l) l)=h
  .obtain ⟨F,N,y,A,t⟩:=oN o r hx f (dlL h (can P l) l) a (by rw [cS,u]) e2 fun k hk b=>by have:=s k hk b; have:=le k; lia
   exact⟨F+1,N,by lia,by rw[Qf];lia,t⟩
  .have w:=v.resolve_left G
   obtain⟨F,N,y,A,t⟩:=oN o r hx f (dlL h (can P l) l) (a+1) (by rw[cS,u]) e2 λk hk b=>by
    by_cases M:l.getD k 0=0
    .have:=le k;lia
    .refine w k (can_mem.mpr ⟨by lia,by lia,fun p hp=>s p (o.lt k hk p hp) ?_⟩);have:=hV<|LH (f:=lg P) hp;rw[eV o hk] at b;lia
   obtain⟨k,hk⟩:=List.exists_mem_of_ne_nil _ i;have D:=can_mem.mp hk;have g:k<n:=by lia
   have:a<lg P k:=by
    by_cases z:lg P k<=a
    .have:=s k g z;lia
    .lia
   have:=hx k g;exact⟨F,N+1,by lia,by lia,by lia⟩
theorem sX {P:Y->U Y}{n:Y}{i:Y->Y}(o:dX P n i):∀(f:Y) (l:U Y),l.length=n->aB l<f->(tt P 1 f l).length=aB l
|0,_,_,d=>RM d<|Ly _
| f+1,l,g,d=>by
 by_cases b:can P l=[]
 .rw [tt,RJ b];have z:=kc o g b
  have:∀(l:U Y),(∀x,l.getD x 0=0)->aB l=0:=by
   intro l;induction l with
   |nil=>intro _;rfl
   |cons a l h=>intro z;have p:a=0:=z 0;have r:=h λx=>z<|x+1;show a+aB l=0;lia
  rw[this l z];rfl
 .obtain ⟨e,e2,e3⟩:=ql PX b d;obtain⟨k,m,_⟩:=kF (can P l) 1 l dS λc z=>(can_mem.mp z).1;rw[e,Kz,sX o f _ (by rw[cS,g]) e2];lia
theorem gO:∀l:U Y,eqTs (l.map nI) (l.map nI)=Kh
|[]=>rfl
|a::l=>by show(((a:Int)==(a:Int))&&eqTs (l.map nI) (l.map nI))=Kh;rw[R4,gO l];rfl
theorem Cj (l:U Y)(m m':Md):oSem .eq Kg [(m,.lst<|l.map nI),(m',.lst<|l.map nI)]=O (.d,.bl Kh):=by show(if(decide (dp (.lst<|l.map nI)<=64)&&decide (dp (.lst<|l.map nI)<=64))=Kh then O ((.d,.bl<|eqTs (l.map nI)<|l.map nI):W) else J)=_;rw[RI<|kr l,gO];rfl
theorem CO (l:U Y)(m m':Md):oSem .ne Kg [(m,.lst<|l.map nI),(m',.lst<|l.map nI)]=O (.d,.bl Kg):=by show(if(decide (dp (.lst<|l.map nI)<=64)&&decide (dp (.lst<|l.map nI)<=64))=Kh then O ((.d,.bl<|!eqTs (l.map nI) (l.map nI)):W) else J)=_;rw[RI<|kr l,gO];rfl
theorem mF:∀(l p:U Int),(p++l).Pairwise (· < ·)->l.foldl addZ p=p++l
|[],p,_=>(La p).symm
| a::l,p,h=>by
 have b:a ∉ p:=λz=>by have:=(OD.mp h).2.2 a z a Ku;lia
 rw[Nw,addZ,RK b,mF l (p++[a])<|by rw[Ll];exact h,Ll];rfl
theorem lB:∀l:U Int,l.Pairwise (· < ·)->sortI l=l
|[],_=>rfl
|a::l,h=>by
 have c:=Mt.mp h;rw[sortI,lB l c.2];cases l with
 |nil=>rfl
 |cons b r=>rw[insI,RJ (by have:=c.1 b Ku;lia)]
theorem Ek {l:U Y}(h:l.Pairwise (· < ·))(a:l.length<=12)(m:Md):oSem .sortedSet Kg [(m,.lst<|l.map nI)]=O (.d,.lst<|l.map nI):=by have hp:(l.map λ(i:Y)=>(i:Int)).Pairwise (· < ·):=Ol.mpr (h.imp λz=>by lia);rw[mX,b9];show(if decide ((l.map λ(i:Y)=>(i:Int)).length<64)=Kh then _ else J)=_;rw[RJ<|RI<|by rw[Kr];lia,mF _ [] hp,Lq,lB _ hp,Lh];rfl
theorem H9 {c:Y}(h:c<=1000):rOk (nI c)=true:=RI<|by lia
theorem Cy (k c m N:Y)(p:c<N)(o:N<=12)(r:1<=m)(b:m<=1000)(l n:Md):C (k+3) 302 [(l,cT (c,m)),(n,nI N)]=.ok ((.d,.bl Kh),[]):=by
 have e1:∀e,C (k+2) 265 [(e,.tup [nI c,nI m])]=.ok ((.d,.bl Kh),[]):=λe=>pA k [nI c,nI m] (λt a=>by
  rcases KD.mp a with rfl|a
  .exact H9 (by lia)
  .rcases KD.mp a with rfl | a
   .exact H9 b
   .cases a) e
 have f:decide ((0:Int)<=(c:Int))=true:=RI (by lia);have g:decide ((c:Int)<(N:Int))=true:=RI (by lia);have h:decide ((m:Int) >= 1)=true:=RI (by lia);have i:((([nI c,nI m].length:Y):Int)==2)=true:=rfl;rw[lz,x_run _ _ _ rfl];simp_all only[cO,e1,i,lD,rL,f,g,h]
theorem Gs (b:U<|Y×Y):aK (b.map λq=>((.s,nI q.1):W))=(b.map (·.1)).map nI:=by rw[ax (λ_=>Md.s) (λq:Y×Y=>nI q.1),Lh];rfl
theorem EJ (b:U<|Y×Y):aK (b.map λq=>((.s,nI q.2):W))=(b.map (·.2)).map nI:=by rw[ax (λ_=>Md.s) (λq:Y×Y=>nI q.2),Lh];rfl
theorem kU (b:U<|Y×Y):(b.map cT).map (λt=>[((.s,t):W)])=b.map λq=>[((.s,cT q):W)]:=by rw[Lh];rfl
theorem vk {a:Type}(l:U a):(l.map λ_=>Kh).all id=true:=K5.mpr λx hx=>by obtain⟨_,_,rfl⟩:=KG.mp hx;rfl
theorem zU (a:U T):(["list"].any λc=>isOne c<|T.lst a)=true:=rfl
theorem DI (k h N:Y)(t:N<=12)(b:U<|Y×Y)(l:∀q∈b,q.1<N/\1<=q.2/\q.2<=1000)(u:(b.map (·.1)).Pairwise (· < ·))(v:b.length<=12)(Q:smB b<=h)(w x y:Md):C (k+4) 357 [(w,bL b),(x,nI N),(y,nI h)]=.ok ((.d,.bl Kh),[]):=by
 have o:∀a c f g,aA [4] (bJ (evE (C (k+3)) (.call 302 [.var 4,.var 1]))) (b.map λq=>[((.s,cT q):W)]) [a,O (c,nI N),f,g,J,J,J] []=.ok ([]++b.map (λ_=>((.d,.bl Kh):W)),[a,O (c,nI N),f,g,J,J,J]):=λa c f g=>aI (λ_=>((.d,.bl Kh):W)) b [] λq i=>⟨_,[a,O (c,nI N),f,g,O (.s,cT q),J,J],rfl,by
  have e:=λm n=>Cy k q.1 q.2 N (l q i).1 t (l q i).2.1 (l q i).2.2 m n;simp_all only[e],rfl⟩
 have p:∀a c f g,aA [5] (bJ (evE (C (k+3)) (.op .ix Kg [.var 5,.cst (.int 0)]))) (b.map λq=>[((.s,cT q):W)]) [a,c,f,g,J,J,J] []=.ok ([]++b.map (λq=>((.s,nI q.1):W)),[a,c,f,g,J,J,J]):=λa c f g=>aI (λq=>((.s,nI q.1):W)) b [] λq i=>⟨_,[a,c,f,g,J,O (.s,cT q),J],rfl,by simp_all only[lD],rfl⟩;have r:∀a c f g,aA [6] (bJ (evE (C (k+3)) (.op .ix Kg [.var 6,.cst (.int 1)]))) (b.map λq=>[((.s,cT q):W)]) [a,c,f,g,J,J,J] []=.ok ([]++b.map (λq=>((.s,nI q.2):W)),[a,c,f,g,J,J,J]):=λa c f g=>aI (λq=>((.s,nI q.2):W)) b [] λq i=>⟨_,[a,c,f,g,J,J,O (.s,cT q)],rfl,by simp_all only[rL],rfl⟩;have A:=bT (λ_:Y×Y=>Kh) b;have D:=vk b;have F:=Gs b;have G:=EJ b;have H:=λm=>Ek u (by rw[Kr];exact v) m;have I:=λm n=>Cj (b.map (·.1)) m n;have L:=b9<|b.map (·.2);have M:=fJ<|b.map (·.2);have P:decide (((aB (b.map (·.2)):Y):Int)<=(h:Int))=true:=RI (by show((smB b:Y):Int)<=_;lia);have z:=kU b;rw[ou,x_run _ _ _ rfl];simp_all only[da,zU,z,o,p,r,A,D,F,eU,H,I,G,L,M,P]
def c8:U (Y×Y)->U Y->U Y
|[],l=>l
|q::b,l=>c8 b<|l.set q.1<|l.getD q.1 0-q.2
theorem iO:∀(b:U<|Y×Y) (l:U Y),(c8 b l).length=l.length
|[],_=>rfl
|q::b,l=>by rw[c8,iO b,KZ]
theorem fD:∀(b:U<|Y×Y) (l:U Y) (x:Y),(∀q∈b,q.1<l.length)->x ∉ b.map (·.1)->(c8 b l).getD x 0=l.getD x 0
|[],_,_,_,_=>rfl
|q::b,l,x,h,hx=>by rw[c8,fD b _ x (λr a=>by rw[KZ];exact h r<|Kw _ a) λz=>hx<|Kw _ z,aq l q.1 x _<|h q Ku,RK λz=>hx<|by rw[<- z];exact Ku]
theorem kZ:∀(b:U<|Y×Y) (l:U Y),(∀q∈b,q.1<l.length)->(b.map (·.1)).Nodup->∀q∈b,(c8 b l).getD q.1 0=l.getD q.1 0-q.2
|[],_,_,_,_,h=>nomatch h
| r::b,l,h,nd,q,c=>by
 have a:=Le.mp nd;have d:∀q∈b,q.1<(l.set r.1 (l.getD r.1 0-r.2)).length:=λq c=>by rw[KZ];exact h q<|Kw _ c
 have g:=h r Ku;rcases KD.mp c with rfl|c
 .rw[c8,fD b _ _ d a.1,aq l _ _ _ g,RJ rfl]
 .have i:r.1≠q.1:=fun e=>a.1 (by show r.1∈_; rw [e]; exact LH (f:=fun p:Y×Y=>p.1) c);rw[c8,kZ b _ d a.2 q c,aq l _ _ _ g,RK i]
theorem lF {a b:U Y}(e:a.length=b.length)(h:∀x,a.getD x 0=b.getD x 0):a=b:=by refine OU e λi c d=>?_;have:=h i;rw[Kv,Kv,KN c,KN d] at this;exact this
theorem Bt1.sub {P:Y->U Y}{h:Y}{l e:U Y}{b:U<|Y×Y}(x:Bt1 P h l b e):c8 b l=e:=by
 have nd:(b.map (·.1)).Nodup:=x.asc.imp λz=>by lia
 have d:∀q∈b,q.1<l.length:=λq a=>(x.one q a).1;refine lF (by rw[iO,x.len]) λy=>?_;by_cases c:y∈b.map (·.1)
 .obtain ⟨q,a,rfl⟩:=KG.mp c;have:=(x.one q a).2.2.1;rw[kZ b l d nd q a];lia
 .rw[fD b l y d c,x.out y c]
abbrev I1:U S:=[
    .ite (.q [0,3,5] []) (.op .any Kg [.comp Kg .seq [.op .ix Kg [.op .ix Kg [.var 0,.op .ix Kg [.var 5,.cst (.int 0)]],.cst (.int 3)]] [7] J (.op .ne Kg [.op .ix Kg [.var 3,.var 7],.cst (.int 0)])]) [
     .ret [] (.cst<|.bl Kg)] []]
abbrev I2:U S:=[
    .setI (.q [3,5] []) 3 (.op .ix Kg [.var 5,.cst<|.int 0]) (.op .sub Kg [.op .ix Kg [.var 3,.op .ix Kg [.var 5,.cst<|.int 0]],.op .ix Kg [.var 5,.cst<|.int 1]])]
theorem CG {a:Type}(l:U a):(l.map λ_=>Kg).any id=false:=QR.mpr λx hx=>by obtain⟨_,_,rfl⟩:=KG.mp hx;decide
theorem GQ (k:Y)(L:U T)(y:Sts L)(l:U Y)(A:l.length=L.length)(q:Y×Y)(r:q.1<L.length)(D:∀p∈PL L q.1,l.getD p 0=0)(t u v:j W)(F:Md):
  ∃g,evSs (C k) I1 [O (F,.lst L),t,u,O (.o .s,.lst<|l.map nI),v,O (.s,cT q),J,J,J]=.nx [O (g,.lst L),t,u,O (.o .s,.lst<|l.map nI),v,O (.s,cT q),J,J,J]:=by
 obtain⟨a,b,w,e1,e2,e3⟩:=gk y r;have h:=iT r;rw[e1] at h;have G:=aZ<|PL L q.1
 have x:∀e f,aA [7] (bJ (evE (C k) (.op .ne Kg [.op .ix Kg [.var 3,.var 7],.cst (.int 0)]))) ((PL L q.1).map λc=>[((.s,nI c):W)]) [e,J,J,O (.s,.lst (l.map nI)),J,f,J,J,J] []=.ok ([]++(PL L q.1).map (λ_=>((.d,.bl Kg):W)),[e,J,J,O (.s,.lst (l.map nI)),J,f,J,J,J]):=λe f=>aI (λ_=>((.d,.bl Kg):W)) (PL L q.1) [] λc n=>⟨_,[e,J,J,O (.s,.lst<|l.map nI),J,f,J,O (.s,nI c),J],rfl,by
  have i:=aO (l:=l) (m:=c) (by rw[A];exact e2 c n);rw[D c n] at i;have z:(!(((0:Y):Int)==0))=false:=rfl;simp_all only[i,z],rfl⟩
 have H:=bT (λ_:Y=>Kg)<|PL L q.1;have I:=CG<|PL L q.1;exact⟨_,by simp_all only[lD,h,iI,G,x,H,eU,I,Bj];rfl⟩
theorem qD (k:Y)(c d g h:j W):∀(b:U<|Y×Y) (l:U Y) (m:j W),(b.map (·.1)).Nodup->(∀q∈b,q.1<l.length/\q.2<=l.getD q.1 0) ->
 ∃a,aS [5] (evSs (C k) I2) (b.map λq=>[((.s,cT q):W)]) [c,d,g,O (.o .s,.lst<|l.map nI),h,m,J,J,J]=.nx [c,d,g,O (.o .s,.lst<|(c8 b l).map nI),h,a,J,J,J]
|[],l,m,_,_=>⟨m,rfl⟩
| q::b,l,m,nd,t=>by
 have i:=Le.mp nd;obtain⟨n,D⟩:=t q Ku;obtain⟨a,F⟩:=qD k c d g h b (l.set q.1<|l.getD q.1 0-q.2) (O (.s,cT q)) i.2 λr u=>by have G:q.1≠r.1:=λe=>i.1 (by show q.1∈_;rw[e];exact LH (f:=λp:Y×Y=>p.1) u);obtain⟨z,A⟩:=t r<|Kw _ u;rw[KZ,aq l _ _ _ n,RK G];exact⟨z,A⟩
 refine⟨a,?_⟩;have v:=aO n;have w:=dg n;have x:((l.getD q.1 0:Y):Int)-((q.2:Y):Int)=((l.getD q.1 0-q.2:Y):Int):=by lia
 have y:=cU l q.1<|l.getD q.1 0-q.2;have e:evSs (C k) I2 [c,d,g,O (.o .s,.lst (l.map nI)),h,O (.s,cT q),J,J,J]=.nx [c,d,g,O (.o .s,.lst ((l.set q.1 (l.getD q.1 0-q.2)).map nI)),h,O (.s,cT q),J,J,J]:=by simp_all only[lD,rL,v,w,x,y]
 show Fl.turn (evSs (C k) I2 [c,d,g,O (.o .s,.lst<|l.map nI),h,O (.s,cT q),J,J,J]) (aS [5] (evSs (C k) I2)<|b.map λq=>[((.s,cT q):W)])=_;rw[e];exact F
abbrev IT:U S:=[
   .ite (.q [0,1,4] []) (.not (.call 357 [.var 4,.op .len Kg [.var 0],.var 1])) [
    .ret [] (.cst<|.bl Kg)] [],
   .forS [4] [] .seq [.var 4] [5] I1,
   .forS [4] [] .seq [.var 4] [5] I2]
theorem Bt1.nd {P:Y->U Y}{h:Y}{l a:U Y}{b:U<|Y×Y}(x:Bt1 P h l b a):(b.map (·.1)).Nodup:=x.asc.imp λz=>by lia
theorem Bt1.few {P:Y->U Y}{h n:Y}{l e:U Y}{b:U<|Y×Y}(x:Bt1 P h l b e)(a:l.length=n)(f:n<=12):b.length<=12:=by
 have:=d9 n _ x.nd λy d=>by obtain⟨q,c,rfl⟩:=KG.mp d;rw[<- a];exact(x.one q c).1
 rw[Kr] at this;lia
theorem Bt1.le {P:Y->U Y}{h:Y}{l c:U Y}{b:U<|Y×Y}(x:Bt1 P h l b c)(y:Y):c.getD y 0<=l.getD y 0:=by
 by_cases a:y∈b.map (·.1)
 .obtain ⟨q,d,rfl⟩:=KG.mp a;have:=(x.one q d).2.2.1;lia
 .rw[x.out y a];exact Kt _
theorem yy (k:Y)(L:U T)(w:Sts L)(l:U Y)(y:l.length=L.length)(b:U<|Y×Y)(t:∀q∈b,q.1<L.length/\∀p∈PL L q.1,l.getD p 0=0)(i m n d:j W)(c:Md):
  ∃a h,aS [5] (evSs (C k) I1) (b.map λq=>[((.s,cT q):W)]) [O (c,.lst L),i,m,O (.o .s,.lst<|l.map nI),n,d,J,J,J]=.nx [O (a,.lst L),i,m,O (.o .s,.lst<|l.map nI),n,h,J,J,J]:=by
 obtain⟨A,z,a,h,rfl⟩:=aU (tg:=[5]) (f:=evSs (C k) I1) (g:=λ(q:Y×Y)=>[((.s,cT q):W)])
  (λpre v=>∃(c:Md) (d:j W),v=[O (c,.lst L),i,m,O (.o .s,.lst<|l.map nI),n,d,J,J,J])
  b [] [O (c,.lst L),i,m,O (.o .s,.lst<|l.map nI),n,d,J,J,J] ⟨c,d,rfl⟩
  (by
   rintro p q r v hp ⟨c,d,x⟩;subst x;have u:q∈b:=by rw[show b=p++q::r from hp];simp
   obtain⟨a,e⟩:=GQ k L w l y q (t q u).1 (t q u).2 i m n c;exact⟨_,_,rfl,e,a,_,rfl⟩)
 exact⟨_,_,z⟩
theorem E9 (k h:Y)(L:U T)(r:Sts L)(l v:U Y)(t:l.length=L.length)(D:∀x,l.getD x 0<=1000)(b:U<|Y×Y)(x:Bt1 (PL L) h l b v)(f y:j W)(w n:Md):
  ∃c p d,evSs (C<|k+4) IT [O (w,.lst L),O (n,nI h),f,O (.o .s,.lst<|l.map nI),O (.s,bL b),y,J,J,J]=.nx [O (c,.lst L),O (p,nI h),f,O (.o .s,.lst<|v.map nI),O (.s,bL b),d,J,J,J]:=by
 have u:=r.len
 have e1:=λm F i=>DI k h L.length u b (λq a=>by
  obtain⟨H,A,I,_⟩:=x.one q a;have:=D q.1;exact⟨by lia,A,by lia⟩) x.asc (x.few t u) x.sum m F i
 have G:=kU b;obtain⟨c,d,g⟩:=yy (k+4) L r l t b (λq a=>⟨by have:=(x.one q a).1;lia,(x.one q a).2.2.2⟩) (O (n,nI h)) f (O (.s,bL b)) y w;obtain⟨z,e⟩:=qD (k+4) (O (c,.lst L)) (O (n,nI h)) f (O (.s,bL b)) b l d x.nd λq a=>⟨(x.one q a).1,by have:=(x.one q a).2.2.1;lia⟩;rw[x.sub] at e;exact⟨_,_,_,by simp_all only[e1,G,g,e];rfl⟩
theorem Aa (k h:Y)(L:U T)(G:Sts L)(u:j W){l F:U Y}{bs:U<|U<|Y×Y}(r:Run (PL L) h l bs F):l.length=L.length->(∀x,l.getD x 0<=1000)->∀(v p:j W) (f i:Md),
  ∃a c w d,aS [4] (evSs (C<|k+4) IT) (bs.map λb=>[((.s,bL b):W)]) [O (f,.lst L),O (i,nI h),u,O (.o .s,.lst<|l.map nI),v,p,J,J,J]=.nx [O (a,.lst L),O (c,nI h),u,O (.o .s,.lst<|F.map nI),w,d,J,J,J]:=by
 induction r with
 |nil l=>intro _ _ v p f i;exact⟨_,_,_,_,rfl⟩
 | cons y _ H =>
  rename_i D I N b bs r;intro z A v p f i;obtain⟨a,c,d,e⟩:=E9 k h L G D I z A b y u p f i;obtain⟨g,m,n,t,M⟩:=H (by rw[y.len,z]) (λx=>K0 (y.le x)<|A x) (O (.s,bL b)) d a c;refine⟨g,m,n,t,?_⟩
  .show Fl.turn (evSs (C<|k+4) IT [O (f,.lst L),O (i,nI h),u,O (.o .s,.lst<|D.map nI),O (.s,bL b),p,J,J,J]) (aS [4] (evSs (C<|k+4) IT)<|bs.map fun b=>[((.s,bL b):W)])=_;rw[e];exact M
theorem An (bs:U<|U<|Y×Y):(bs.map bL).map (λt=>[((.s,t):W)])=bs.map λb=>[((.s,bL b):W)]:=by rw[Lh];rfl
theorem BF {L:U T}(a:Sts L)(x:Y):(wN L).getD x 0<=1000:=by
 by_cases hx:x<L.length
 .have:=(eP a hx).2;lia
 .rw[Kv,Mv<|by rw[bU];lia];exact K4 _
theorem Ag (k h:Y)(L:U T)(c:Sts L){bs:U<|U<|Y×Y}{b:U Y}(r:Run (PL L) h (wN L) bs b)(z:∀x,b.getD x 0=0)(y p F:Md):C (k+5) 356 [(y,.lst L),(p,nI h),(F,.lst<|bs.map bL)]=.ok ((.d,.bl Kh),[]):=by
 have c0:=jO (C<|k+4) 6 L c.st [O (.s,.lst L),J,J,J,J,J,J,J,J] (λ_=>rfl) λ_=>rfl;have G:aK (L.map λu=>((.s,.int (wOf u)):W))=(wN L).map nI:=by rw[ek,ur c]
 have H:=An bs;obtain⟨A,D,Q,Z,w⟩:=Aa k h L c (O (.s,.lst<|bs.map bL)) r (bU L) (BF c) J J .s p
 have t:∀f g l m n o,aA [8] (bJ (evE (C (k+4)) (.op .eq Kg [.var 8,.cst (.int 0)]))) (b.map λa=>[((.s,nI a):W)]) [f,g,l,m,n,o,J,J,J] []=.ok ([]++b.map (λ_=>((.d,.bl Kh):W)),[f,g,l,m,n,o,J,J,J]):=λf g l m n o=>aI (λ_=>((.d,.bl Kh):W)) b [] λa v=>⟨_,[f,g,l,m,n,o,J,J,O (.s,nI a)],rfl,by
  obtain⟨i,P,rfl⟩:=nN v;rw[z i];have e:(((0:Y):Int)==0)=true:=rfl;simp_all only[e],rfl⟩
 have I:=bT (λ_:Y=>Kh) b;have M:=vk b;have N:=aZ b;rw[gB,x_run _ _ _ rfl];simp_all only[bo,zU,c0,G,H,w,N,t,I,eU,M]
theorem uy (k c m N:Y)(n:c<N)(o:1<=m)(g h:Md):C (k+2) 303 [(g,nI N),(h,cT (c,m))]=.ok ((.d,.bl Kh),[]):=by have e1:=λi l=>qG k i l;have a:decide ((0:Int)<=(c:Int))=true:=RI (by lia);have b:decide ((c:Int)<(N:Int))=true:=RI (by lia);have e:decide ((m:Int)>0)=true:=RI (by lia);have f:(!((([nI c,nI m].length:Y):Int)==2))=false:=rfl;rw[i8,x_run _ _ _ rfl];simp_all only[bF,lA,e1,f,lD,rL,a,b,e]
def fg (a:Y):U (Y×Y)->U (U Y)->U (U Y)
|[],S=>S
|q::b,S=>fg a b<|cW a S q.1
def fU:U (Y×Y)->U Y->U Y
|[],d=>d
|q::b,d=>fU b<|d.set q.1<|d.getD q.1 0+q.2
theorem nG (a:Y):∀(b:U<|Y×Y) (S:U<|U Y),(fg a b S).length=S.length
|[],_=>rfl
|q::b,S=>by rw[fg,nG a b,bu]
theorem cZ (a:Y):∀(b:U<|Y×Y) (S:U<|U Y) (x:Y),x<S.length->x ∉ b.map (·.1)->(fg a b S).getD x []=S.getD x []
|[],_,_,_,_=>rfl
|q::b,S,x,hx,c=>by rw[fg,cZ a b _ x (by rw[bu];exact hx) λz=>c<|Kw _ z,cF a S q.1 x hx,RK λz=>c<|by rw[<- z];exact Ku]
theorem gJ (a:Y):∀(b:U<|Y×Y) (S:U<|U Y),(∀q∈b,q.1<S.length)->(b.map (·.1)).Nodup->∀q∈b,(fg a b S).getD q.1 []=S.getD q.1 []++[a]
|[],_,_,_,_,h=>nomatch h
| r::b,S,h,nd,q,c=>by
 have d:=Le.mp nd;have g:=h r Ku;rcases KD.mp c with rfl|c
 .rw[fg,cZ a b _ _ (by rw[bu];exact g) d.1,cF a S _ _ g,RJ rfl]
 .have i:r.1≠q.1:=fun e=>d.1 (by show r.1∈_; rw [e]; exact LH (f:=fun p:Y×Y=>p.1) c);rw[fg,gJ a b _ (λq c=>by rw[bu];exact h q<|Kw _ c) d.2 q c,cF a S _ _<|h q<|Kw _ c,RK i]
theorem mB:∀(b:U<|Y×Y) (l:U Y),(fU b l).length=l.length
|[],_=>rfl
|q::b,l=>by rw[fU,mB b,KZ]
theorem fC:∀(b:U<|Y×Y) (l:U Y) (x:Y),(∀q∈b,q.1<l.length)->x ∉ b.map (·.1)->(fU b l).getD x 0=l.getD x 0
|[],_,_,_,_=>rfl
|q::b,l,x,h,hx=>by rw[fU,fC b _ x (λr a=>by rw[KZ];exact h r<|Kw _ a) λz=>hx<|Kw _ z,aq l q.1 x _<|h q Ku,RK λz=>hx<|by rw[<- z];exact Ku]
theorem pK:∀(b:U<|Y×Y) (l:U Y),(∀q∈b,q.1<l.length)->(b.map (·.1)).Nodup->∀q∈b,(fU b l).getD q.1 0=l.getD q.1 0+q.2
|[],_,_,_,_,h=>nomatch h
| r::b,l,h,nd,q,c=>by
 have a:=Le.mp nd;have d:∀q∈b,q.1<(l.set r.1 (l.getD r.1 0+r.2)).length:=λq c=>by rw[KZ];exact h q<|Kw _ c
 have g:=h r Ku;rcases KD.mp c with rfl|c
 .rw[fU,fC b _ _ d a.1,aq l _ _ _ g,RJ rfl]
 .have i:r.1≠q.1:=fun e=>a.1 (by show r.1∈_; rw [e]; exact LH (f:=fun p:Y×Y=>p.1) c);rw[fU,pK b _ d a.2 q c,aq l _ _ _ g,RK i]
structure Jx (P:Y->U Y)(n:Y)(w l:U Y)(a:Y)(S:U (U Y))(dn:U Y):Prop where
 lS:S.length=n
 ld:dn.length=n
 ll:l.length=n
 j1:∀k,dn.getD k 0+l.getD k 0=w.getD k 0
 j2:∀k,k<n->(S.getD k []).length<=a/\∀x∈S.getD k [],x<a
 j3:∀k,k<n->∀p∈P k,∀x∈S.getD p [],∀y∈S.getD k [],x<y
 j4:∀k,k<n->S.getD k []≠[]->∀p∈P k,l.getD p 0=0
 j5:∀k,k<n->0<dn.getD k 0->S.getD k []≠[]
theorem Jx.step {P:Y->U Y}{n h:Y}{w l I:U Y}{a:Y}{S:U<|U Y}{s:U Y}{b:U<|Y×Y}(L:∀k,k<n->∀p∈P k,p<n)(c:Jx P n w l a S s)(x:Bt1 P h l b I):Jx P n w I (a+1) (fg a b S) (fU b s):=by
 have F:∀q∈b,q.1<n:=λq f=>by have:=(x.one q f).1;have:=c.ll;lia
 have nd:=x.nd;have o:∀q∈b,q.1<S.length:=λq f=>by rw[c.lS];exact F q f
 have r:∀q∈b,q.1<s.length:=λq f=>by rw[c.ld];exact F q f
 have i:∀k,k<n->∀y∈(fg a b S).getD k [],y∈S.getD k []\/(y=a/\k∈b.map (·.1)):=λk hk y m=>by
  by_cases g:k∈b.map (·.1)
  .obtain ⟨q,f,rfl⟩:=KG.mp g;rw[gJ a b S o nd q f] at m;rcases Li.mp m with z|z
   .exact .inl z
   .exact .inr ⟨K1.mp z,g⟩
  .rw[cZ a b S k (by rw[c.lS];exact hk) g] at m;exact .inl m
 refine⟨by rw[nG,c.lS],by rw[mB,c.ld],by rw[x.len,c.ll],λk=>?_,λk hk=>⟨?_,λy m=>?_⟩,λk hk p hp y m z H=>?_,λk hk t p hp=>?_,λk hk G=>?_⟩
 .have d:=c.j1 k;by_cases g:k∈b.map (·.1)
  .obtain ⟨q,f,rfl⟩:=KG.mp g;rw[pK b s r nd q f];have:=(x.one q f).2.2.1;lia
  .rw[fC b s k r g,x.out k g];exact d
 .have d:=(c.j2 k hk).1;by_cases g:k∈b.map (·.1)
  .obtain ⟨q,f,rfl⟩:=KG.mp g;rw[gJ a b S o nd q f,KJ,Lf];lia
  .rw[cZ a b S k (by rw[c.lS];exact hk) g];lia
 .rcases i k hk y m with z | z
  .have:=(c.j2 k hk).2 y z;lia
  .lia
 .have A:=L k hk p hp;have N:p∈b.map (·.1)->l.getD p 0≠0:=λz=>by obtain⟨q,f,rfl⟩:=KG.mp z;have:=(x.one q f).2.1;have:=(x.one q f).2.2.1;lia
  have D:z∈S.getD k []\/k∈b.map (·.1)->l.getD p 0=0:=λu=>by
   rcases u with u|u
   .exact c.j4 k hk (λe=>by rw[e] at u;cases u) p hp
   .obtain ⟨q,f,rfl⟩:=KG.mp u;exact(x.one q f).2.2.2 p hp
  have M:l.getD p 0=0:=D<|(i k hk z H).imp id And.right;rcases i p A y m with u|u
  .rcases i k hk z H with v | v
   .exact c.j3 k hk p hp y u z v
   .have:=(c.j2 p A).2 y u;lia
  .exact RM M (N u.2)
 .have le:=x.le p;by_cases g:k∈b.map (·.1)
  .obtain ⟨q,f,rfl⟩:=KG.mp g;have:=(x.one q f).2.2.2 p hp;lia
  .rw [cZ a b S k (by rw [c.lS]; exact hk) g] at t;have:=c.j4 k hk t p hp;lia
 .by_cases g:k∈b.map (·.1)
  .obtain ⟨q,f,rfl⟩:=KG.mp g;rw[gJ a b S o nd q f];simp
  .rw [fC b s k r g] at G;rw[cZ a b S k (by rw[c.lS];exact hk) g];exact c.j5 k hk G
abbrev JA:U S:=[
    .ite (.q [0,7,9] []) (.or (.not (.call 303 [.op .len Kg [.var 0],.var 9])) (.op .le Kg [.op .ix Kg [.var 9,.cst (.int 0)],.var 7])) [
     .ret [] (.cst<|.bl Kg)] [],
    .asg (.q [9] []) 7 (.op .ix Kg [.var 9,.cst<|.int 0]),
    .asg (.q [8,9] []) 8 (.op .add Kg [.var 8,.op .ix Kg [.var 9,.cst<|.int 1]])]
abbrev JB:U S:=[
    .setI (.q [4,7,9] []) 4 (.var 7) (.op .add Kg [.op .ix Kg [.var 4,.var 7],.op .ix Kg [.var 9,.cst<|.int 1]])]
abbrev JC:U S:=[
    .ite (.q [0,7,9] []) (.or (.not (.call 303 [.op .len Kg [.var 0],.var 9])) (.op .le Kg [.op .ix Kg [.var 9,.cst (.int 0)],.var 7])) [
     .ret [] (.cst<|.bl Kg)] [],
    .asg (.q [9] []) 7 (.op .ix Kg [.var 9,.cst<|.int 0]),
    .asg (.q [8,9] []) 8 (.op .add Kg [.var 8,.op .ix Kg [.var 9,.cst<|.int 1]]),
    .apN 3 7 5,
    .setI (.q [4,7,9] []) 4 (.var 7) (.op .add Kg [.op .ix Kg [.var 4,.var 7],.op .ix Kg [.var 9,.cst<|.int 1]])]
theorem GO (k:Y)(L:U T)(S:U<|U Y)(f:U Y)(a u:Y)(v:Int)(q:Y×Y)(hn:L.length<=12)(Z:S.length=L.length)(hd:f.length=L.length)(x:q.1<L.length)(y:1<=q.2)(hv:v<(q.1:Int))(hs:(S.getD q.1 []).length<1000)(i l n:j W)(z g A D:Md):
  ∃b c e,evSs (C<|k+2) JC [O (z,.lst L),i,l,O (.d,.lst<|mS S),O (.o .s,.lst<|f.map nI),O (g,nI a),n,O (A,.int v),O (D,nI u),O (.s,cT q),J,J,J,J,J,J] =
   .nx [O (b,.lst L),i,l,O (.d,.lst<|mS<|cW a S q.1),O (.o .s,.lst<|(f.set q.1<|f.getD q.1 0+q.2).map nI),O (g,nI a),n,O (c,nI q.1),O (e,nI<|u+q.2),O (.s,cT q),J,J,J,J,J,J]:=by
 have e1:=λm m'=>uy k q.1 q.2 L.length x y m m';have G:decide ((q.1:Int)<=v)=false:=RR (by lia);have H:((u:Y):Int)+((q.2:Y):Int)=((u+q.2:Y):Int):=by lia
 have r:∃b c e,evSs (C<|k+2) JA [O (z,.lst L),i,l,O (.d,.lst<|mS S),O (.o .s,.lst<|f.map nI),O (g,nI a),n,O (A,.int v),O (D,nI u),O (.s,cT q),J,J,J,J,J,J] =
   .nx [O (b,.lst L),i,l,O (.d,.lst<|mS S),O (.o .s,.lst<|f.map nI),O (g,nI a),n,O (c,nI q.1),O (e,nI<|u+q.2),O (.s,cT q),J,J,J,J,J,J]:=⟨_,_,_,by simp_all only[e1,G,lD,rL,H];rfl⟩
 obtain⟨b,c,e,r⟩:=r;have F:=A7 (S:=S) (k:=q.1) (m:=a) (by rw[Z];exact x) (by lia) hs c g
 have Q:evSs (C<|k+2) [.apN 3 7 5] [O (b,.lst L),i,l,O (.d,.lst<|mS S),O (.o .s,.lst<|f.map nI),O (g,nI a),n,O (c,nI q.1),O (e,nI<|u+q.2),O (.s,cT q),J,J,J,J,J,J] =
   .nx [O (b,.lst L),i,l,O (.d,.lst<|mS<|cW a S q.1),O (.o .s,.lst<|f.map nI),O (g,nI a),n,O (c,nI q.1),O (e,nI<|u+q.2),O (.s,cT q),J,J,J,J,J,J]:=by
  have e2:evSs (C (k+2)) [.apN 3 7 5] [O (b,.lst L),i,l,O (.d,.lst (mS S)),O (.o .s,.lst (f.map nI)),O (g,nI a),n,O (c,nI q.1),O (e,nI (u+q.2)),O (.s,cT q),J,J,J,J,J,J]=Fl.seq (nxO [O (b,.lst L),i,l,O (.d,.lst (mS S)),O (.o .s,.lst (f.map nI)),O (g,nI a),n,O (c,nI q.1),O (e,nI (u+q.2)),O (.s,cT q),J,J,J,J,J,J] ((kE (O (.d,.lst (mS S))) (O (c,nI q.1)) (O (g,nI a))).map λw=>put [O (b,.lst L),i,l,O (.d,.lst (mS S)),O (.o .s,.lst (f.map nI)),O (g,nI a),n,O (c,nI q.1),O (e,nI (u+q.2)),O (.s,cT q),J,J,J,J,J,J] 3 w)) (evSs (C (k+2)) []):=rfl;rw[e2,F];rfl
 have p:q.1<f.length:=by rw[hd];exact x
 have I:=aO p;have M:=dg p;have N:((f.getD q.1 0:Y):Int)+((q.2:Y):Int)=((f.getD q.1 0+q.2:Y):Int):=by lia
 have P:=cU f q.1<|f.getD q.1 0+q.2
 have t:∃h,evSs (C<|k+2) JB [O (b,.lst L),i,l,O (.d,.lst<|mS<|cW a S q.1),O (.o .s,.lst<|f.map nI),O (g,nI a),n,O (c,nI q.1),O (e,nI<|u+q.2),O (.s,cT q),J,J,J,J,J,J] =
   .nx [O (b,.lst L),i,l,O (.d,.lst<|mS<|cW a S q.1),O (.o .s,.lst<|(f.set q.1<|f.getD q.1 0+q.2).map nI),O (g,nI a),n,O (h,nI q.1),O (e,nI<|u+q.2),O (.s,cT q),J,J,J,J,J,J]:=⟨_,by simp_all only[rL,I,M,N,P];rfl⟩
 obtain⟨h,t⟩:=t;refine⟨b,h,e,?_⟩;rw[show JC=JA++([.apN 3 7 5]++JB) from rfl,go1 r,go1 Q,t]
theorem jQ {c:Type}{tg:U Y}{f:Env->Fl}{g:c->U W}{x:c}{ts:U c}{d a b:Env}(h:f a=.nx b)(e:bA tg (g x) d=O a):aS tg f ((x::ts).map g) d=aS tg f (ts.map g) b:=by rw[K2];show Fl.of _ (ofO<|bA tg (g x) d) _=_;rw[e];show Fl.turn (f a) _=_;rw[h];rfl
theorem yP (k:Y)(L:U T)(hn:L.length<=12)(a:Y)(N P Q:j W)(H:Md)(b:U<|Y×Y):∀(S:U<|U Y) (c:U Y) (u:Y) (v:Int) (F:j W) (n w z:Md),S.length=L.length->c.length=L.length->(b.map (·.1)).Pairwise (· < ·)->(∀q∈b,q.1<L.length/\1<=q.2/\v<(q.1:Int)/\(S.getD q.1 []).length<1000) ->
  ∃h i l v' I,aS [9] (evSs (C<|k+2) JC) (b.map λq=>[((.s,cT q):W)]) [O (n,.lst L),N,P,O (.d,.lst<|mS S),O (.o .s,.lst<|c.map nI),O (H,nI a),Q,O (w,.int v),O (z,nI u),F,J,J,J,J,J,J] =
   .nx [O (h,.lst L),N,P,O (.d,.lst<|mS<|fg a b S),O (.o .s,.lst<|(fU b c).map nI),O (H,nI a),Q,O (i,.int v'),O (l,nI<|u+smB b),I,J,J,J,J,J,J]:=by
 induction b with
 |nil=>intro S c u v F n w z _ _ _ _;exact⟨n,w,z,v,F,rfl⟩
 | cons q b ih =>
  intro S c u v F n w z G hd ha hb;have m:=Mt.mp ha;obtain⟨b1,b2,b3,b4⟩:=hb q Ku;obtain⟨h,i,l,e⟩:=GO k L S c a u v q hn G hd b1 b2 b3 b4 N P Q n H w z;obtain⟨t,y,A,M,D,lp⟩:=ih (cW a S q.1) (c.set q.1<|c.getD q.1 0+q.2) (u+q.2) (q.1:Int) (O (.s,cT q)) h i l (by rw[bu,G]) (by rw[KZ,hd]) m.2 λr hr=>by obtain⟨Z,c2,c3,c4⟩:=hb r<|Kw _ hr;have lt:q.1<r.1:=m.1 r.1<|LH (f:=λp:Y×Y=>p.1) hr;exact⟨Z,c2,by lia,by rw[cF a S q.1 r.1<|by rw[G];exact Z,RK<|by lia];exact c4⟩
  have sm:u+q.2+smB b=u+smB (q::b):=by show _=u+(q.2+smB b);lia
  rw[sm] at lp;refine⟨t,y,A,M,D,?_⟩;refine(jQ (tg:=[9]) (f:=evSs (C<|k+2) JC) (g:=λ(q:Y×Y)=>[((.s,cT q):W)]) (x:=q) (ts:=b) e rfl).trans ?_;rw[show fg a (q::b) S=fg a b (cW a S q.1) from rfl,show fU (q::b) c=fU b (c.set q.1<|c.getD q.1 0+q.2) from rfl];exact lp
abbrev JT:U S:=[
   .ite (.q [6] []) (.not (.op (.isI ["list"]) Kg [.var 6])) [
    .ret [] (.cst<|.bl Kg)] [],
   .asg (.q [] []) 7 (.op .neg Kg [.cst<|.int 1]),
   .asg (.q [] []) 8 (.cst<|.int 0),
   .forS [6] [] .seq [.var 6] [9] JC,
   .ite (.q [1,8] []) (.op .gt Kg [.var 8,.var 1]) [
    .ret [] (.cst<|.bl Kg)] []]
theorem HD (k h:Y)(L:U T)(D:L.length<=12)(S:U<|U Y)(e l F:U Y)(a:Y)(b:U<|Y×Y)(w:U Y)(c:Jx (PL L) L.length w l a S e)(P:a<1000)(x:Bt1 (PL L) h l b F)(m I M y:j W)(p r:Md):
  ∃f t u v g,evSs (C<|k+2) JT [O (p,.lst L),O (r,nI h),m,O (.d,.lst<|mS S),O (.o .s,.lst<|e.map nI),O (.d,nI a),O (.s,bL b),I,M,y,J,J,J,J,J,J] =
   .nx [O (f,.lst L),O (t,nI h),m,O (.d,.lst<|mS<|fg a b S),O (.o .s,.lst<|(fU b e).map nI),O (.d,nI a),O (.s,bL b),u,v,g,J,J,J,J,J,J]:=by
 have N:=kU b;obtain⟨f,G,H,Z,g,i⟩:=yP k L D a (O (r,nI h)) m (O (.s,bL b)) .d b S e 0 (-1) y p .d .d c.lS c.ld x.asc λq z=>by have n:=(x.one q z).1;rw[c.ll] at n;have:=(c.j2 q.1 n).1;exact⟨n,(x.one q z).2.1,by lia,by lia⟩
 rw[MU] at i;have i:aS [9] (evSs (C (k+2)) JC) (b.map λq=>[((.s,cT q):W)]) [O (p,.lst L),O (r,nI h),m,O (.d,.lst (mS S)),O (.o .s,.lst (e.map nI)),O (.d,nI a),O (.s,bL b),O (.d,.int (-1)),O (.d,.int 0),y,J,J,J,J,J,J]=_:=i;have Q:=x.sum;have A:decide (((smB b:Y):Int)>(h:Int))=false:=RR (by lia);exact⟨_,_,_,_,_,by simp_all only[zU,N,i,A];rfl⟩
theorem Dg {P:Y->U Y}{h:Y}{l c:U Y}{bs:U<|U<|Y×Y}{i:Y}(a:i<bs.length)(r:Run P h l (bs.drop i) c):∃b,Bt1 P h l (bs.getD i []) b/\Run P h b (bs.drop<|i+1) c:=by
 rw[Oy a] at r;have e:bs.getD i []=bs[i]:=by rw[Kv,KN a];rfl
 cases r with
 |cons y r=>exact⟨_,by rw[e];exact y,r⟩
theorem Ho {bs:U<|U<|Y×Y}{i:Y}(a:i<bs.length):(bs.map bL).getD i .non=bL (bs.getD i []):=by rw[Kv,Kv,KY,KN a];rfl
theorem Jx.zero {P:Y->U Y}{n:Y}{w:U Y}(b:w.length=n):Jx P n w w 0 (Ky n []) (Ky n 0):=by
 have r0:∀k,(Ky n ([]:U Y)).getD k []=[]:=λk=>by rw[Kv,MI];split<;>rfl
 have a:∀k,(Ky n 0).getD k 0=0:=λk=>by rw[Kv,MI];split<;>rfl
 refine⟨LO,LO,b,λk=>by rw[a];lia,λk _=>?_,λk _ p _ x hx=>?_,λk _ h=>?_,λk _ h=>?_⟩
 .rw[r0];exact⟨Kt _,λx hx=>nomatch hx⟩
 .rw[r0] at hx;cases hx
 .exact RM (r0 k) h
 .rw[a] at h;exact RM h<|LB _
theorem AL (k h:Y)(L:U T)(M:Sts L)(bs:U<|U<|Y×Y)(hb:bs.length<1000){G:U Y}(r:Run (PL L) h (wN L) bs G)(D:j W)(n t:Md):
  ∃S b c m y z u v w,Jx (PL L) L.length (wN L) G bs.length S b/\aS [5,6] (evSs (C<|k+2) JT) ((Kq bs.length).map λi=>[((.d,nI i):W),(.s,(bs.map bL).getD i .non)]) [O (n,.lst L),O (t,nI h),D,O (.d,.lst<|mS<|Ky L.length []),O (.o .s,.lst<|(Ky L.length 0).map nI),J,J,J,J,J,J,J,J,J,J,J] =
   .nx [O (c,.lst L),O (m,nI h),D,O (.d,.lst<|mS S),O (.o .s,.lst<|b.map nI),y,z,u,v,w,J,J,J,J,J,J]:=by
 have hn:=M.len;have hP:∀k,k<L.length->∀p∈PL L k,p<L.length:=λk hk=>by obtain⟨_,_,_,_,e2,_⟩:=gk M hk;exact e2
 obtain⟨η',lp,S,b,l,c,m,y,z,u,v,w,a,A,rfl⟩:=aU (tg:=[5,6]) (f:=evSs (C<|k+2) JT) (g:=λ(i:Y)=>[((.d,nI i):W),(.s,(bs.map bL).getD i .non)])
  (λpre Q=>∃(S:U<|U Y) (b l:U Y) (n t:Md) (y z u v w:j W),Jx (PL L) L.length (wN L) l pre.length S b/\Run (PL L) h l (bs.drop pre.length) G/\Q=[O (n,.lst L),O (t,nI h),D,O (.d,.lst<|mS S),O (.o .s,.lst<|b.map nI),y,z,u,v,w,J,J,J,J,J,J])
  (Kq bs.length) [] [O (n,.lst L),O (t,nI h),D,O (.d,.lst<|mS<|Ky L.length []),O (.o .s,.lst<|(Ky L.length 0).map nI),J,J,J,J,J,J,J,J,J,J,J]
  ⟨_,_,wN L,n,t,J,J,J,J,J,Jx.zero<|bU L,r,rfl⟩
  (by
   rintro p i I Q hp ⟨S,b,l,n,t,y,z,u,v,w,a,A,he⟩;subst he;obtain⟨Z,N⟩:=eh (show Kq bs.length=p++i::I from hp);subst Z;obtain⟨P,x,H⟩:=Dg N A;obtain⟨c,m,o7',o8',o9',e⟩:=HD k h L hn S b l P p.length (bs.getD p.length []) (wN L) a (by lia) x D u v w n t;rw[<- Ho N] at e;have F:(p++[p.length]).length=p.length+1:=by rw[KJ];rfl
   exact⟨_,_,rfl,e,_,_,P,_,_,_,_,_,_,_,by rw[F];exact a.step hP x,by rw[F];exact H,rfl⟩)
 rw[Lq,K9] at a A;have F:l=G:=by rw[NV] at A;cases A;rfl
 subst F;exact⟨S,b,c,m,y,z,u,v,w,a,lp⟩
abbrev JE:U S:=[
    .ite (.q [3,12] [10]) (.op .le Kg [.op .ix Kg [.op .ix Kg [.var 3,.var 10],.cst (.int 0)],.op .ix Kg [.op .ix Kg [.var 3,.var 12],.op .neg Kg [.cst (.int 1)]]]) [
     .ret [] (.cst<|.bl Kg)] []]
abbrev JF:U S:=[.forS [11] [] .seq [.op .ix Kg [.var 11,.cst<|.int 3]] [12] JE]
theorem nr {l:U Y}(h:l≠[]):∃x∈l,atI (l.map nI) (-1)=O (nI x):=by refine⟨l.getLast h,List.getLast_mem h,kW ?_⟩;rw[Px,Ra h];rfl
theorem sG {l:U Y}(h:l≠[]):∃x∈l,atI (l.map nI) 0=O (nI x):=by
 cases l with
 |nil=>exact RM rfl h
 |cons x r=>exact⟨x,Ku,aO (l:=x::r) (m:=0)<|Nat.succ_pos _⟩
theorem Fy (n:Y)(S:U<|U Y)(a p:Y)(G:a<S.length)(hp:p<S.length)(f:S.getD a []≠[])(g:S.getD p []≠[])(h:∀x∈S.getD p [],∀y∈S.getD a [],x<y)(i k l m o r t u v c:j W)(e:Md):
  ∃b,evSs (C n) JE [i,k,l,O (.d,.lst<|mS S),m,o,r,t,u,v,O (e,nI a),c,O (.s,nI p),J,J,J]=.nx [i,k,l,O (.d,.lst<|mS S),m,o,r,t,u,v,O (b,nI a),c,O (.s,nI p),J,J,J]:=by
 have z:=pF G;have A:=pF hp;obtain⟨y,H,D⟩:=sG f;obtain⟨x,hx,F⟩:=nr g;have lt:=h x hx y H;have w:decide (((y:Y):Int)<=((x:Y):Int))=false:=RR (by lia);exact⟨_,by simp_all only[z,A,D,F,w];rfl⟩
theorem GI (n:Y)(L:U T)(hL:Sts L)(S:U<|U Y)(Z l w:U Y)(c:Y)(b:Jx (PL L) L.length w l c S Z)(N:∀k,k<L.length->S.getD k []≠[])(a:Y)(I:a<L.length)(v x y z A D F G H o:j W)(m:Md):
  ∃h t,evSs (C n) JF [v,x,y,O (.d,.lst<|mS S),z,A,D,F,G,H,O (m,nI a),O (.s,L.getD a .non),o,J,J,J]=.nx [v,x,y,O (.d,.lst<|mS S),z,A,D,F,G,H,O (h,nI a),O (.s,L.getD a .non),t,J,J,J]:=by
 obtain⟨x1,x2,x3,e1,e2,e3⟩:=gk hL I
 obtain⟨η',P,h,t,rfl⟩:=aU (tg:=[12]) (f:=evSs (C n) JE) (g:=λ(i:Y)=>[((.s,nI i):W)])
  (λpre Q=>∃(m:Md) (o:j W),Q=[v,x,y,O (.d,.lst<|mS S),z,A,D,F,G,H,O (m,nI a),O (.s,L.getD a .non),o,J,J,J])
  (PL L a) [] [v,x,y,O (.d,.lst<|mS S),z,A,D,F,G,H,O (m,nI a),O (.s,L.getD a .non),o,J,J,J] ⟨m,o,rfl⟩
  (by
   rintro p i r Q hp ⟨m,o,he⟩;subst he;have M:i∈PL L a:=by rw[show PL L a=p++i::r from hp];simp
   have u:=e2 i M;obtain⟨h,e⟩:=Fy n S a i (by rw[b.lS];exact I) (by rw[b.lS];exact u) (N a I) (N i u) (b.j3 a I i M) v x y z A D F G H (O (.s,L.getD a .non)) m;exact⟨_,_,rfl,e,h,_,rfl⟩)
 have t0:=aZ<|PL L a;rw[e1] at P ⊢;exact⟨h,t,by simp_all only[iI,t0,P]⟩
theorem zY (n:Y)(L:U T)(Z:Sts L)(S:U<|U Y)(N l w:U Y)(c:Y)(h:Jx (PL L) L.length w l c S N)(hz:∀k,k<L.length->S.getD k []≠[])(y z A D F G H I M o t m:j W):
  ∃v x u,aS [10,11] (evSs (C n) JF) ((Kq L.length).map λi=>[((.d,nI i):W),(.s,L.getD i .non)]) [y,z,A,O (.d,.lst<|mS S),D,F,G,H,I,M,o,t,m,J,J,J]=.nx [y,z,A,O (.d,.lst<|mS S),D,F,G,H,I,M,v,x,u,J,J,J]:=by
 obtain⟨η',lp,a,b,d,rfl⟩:=aU (tg:=[10,11]) (f:=evSs (C n) JF) (g:=λ(i:Y)=>[((.d,nI i):W),(.s,L.getD i .non)])
  (λpre Q=>∃(o t m:j W),Q=[y,z,A,O (.d,.lst<|mS S),D,F,G,H,I,M,o,t,m,J,J,J])
  (Kq L.length) [] [y,z,A,O (.d,.lst<|mS S),D,F,G,H,I,M,o,t,m,J,J,J] ⟨_,_,_,rfl⟩
  (by
   rintro p i r Q hp ⟨o,t,m,he⟩;subst he;obtain⟨_,hi⟩:=eh (show Kq L.length=p++i::r from hp);obtain⟨P,u,e⟩:=GI n L Z S N l w c h hz i hi y z A D F G H I M m .d;exact⟨_,_,rfl,e,_,_,_,rfl⟩)
 exact⟨_,_,_,lp⟩
theorem wZ (k h:Y)(L:U T)(l:Sts L)(bs:U<|U<|Y×Y)(I:bs.length<1000){p:U Y}(r:Run (PL L) h (wN L) bs p)(z:∀x,p.getD x 0=0)(m0 D m2:Md):C (k+3) 358 [(m0,.lst L),(D,nI h),(m2,.lst<|bs.map bL)]=.ok ((.d,.bl Kh),[]):=by
 have hn:=l.len;have F:∀b c e f g,aA [13] (bJ (evE (C (k+2)) (.lst Kh []))) (L.map λt=>[((.s,t):W)]) [b,c,e,f,g,J,J,J,J,J,J,J,J,J,J,J] []=.ok ([]++L.map (λ_=>((.d,.lst []):W)),[b,c,e,f,g,J,J,J,J,J,J,J,J,J,J,J]):=λb c e f g=>aI (λ_=>((.d,.lst []):W)) L [] λu M=>⟨_,[b,c,e,f,g,J,J,J,J,J,J,J,J,O (.s,u),J,J],rfl,by simp_all only[],rfl⟩;have t1:aK (L.map λ_=>((.d,.lst []):W))=mS (Ky L.length []):=by rw[ax (λ_=>Md.d) (λ_=>T.lst []) L,mS,Nj,Ow];rfl
 have t2:(L.map λ_=>((.d,.lst []):W)).all okD=true:=K5.mpr λw N=>by obtain⟨_,_,rfl⟩:=KG.mp N;rfl
 have G:∀b c e f g,aA [14] (bJ (evE (C (k+2)) (.cst (.int 0)))) (L.map λt=>[((.s,t):W)]) [b,c,e,f,g,J,J,J,J,J,J,J,J,J,J,J] []=.ok ([]++L.map (λ_=>((.d,nI 0):W)),[b,c,e,f,g,J,J,J,J,J,J,J,J,J,J,J]):=λb c e f g=>aI (λ_=>((.d,nI 0):W)) L [] λu M=>⟨_,[b,c,e,f,g,J,J,J,J,J,J,J,J,J,O (.s,u),J],rfl,by simp_all only[];rfl,rfl⟩;have t3:aK (L.map λ_=>((.d,nI 0):W))=(Ky L.length 0).map nI:=by rw[ax (λ_=>Md.d) (λ_=>nI 0) L,Nj,Ow]
 have t4:eL .s 0 (bs.map bL)=(Kq bs.length).map λi=>[((.d,nI i):W),(.s,(bs.map bL).getD i .non)]:=by rw[d6,Kr]
 have t5:=d6 L;obtain⟨S,n,m0',y,o5,o6,o7,o8,o9,a,Q⟩:=AL k h L l bs I r (O (.s,.lst<|bs.map bL)) .s D;have A:n=wN L:=lF (by rw[a.ld,bU]) λx=>by have:=a.j1 x;rw[z x] at this;lia
 have P:∀k,k<L.length->S.getD k []≠[]:=λk hk=>a.j5 k hk (by rw[A];exact(eP l hk).1);obtain⟨o10,o11,o12,v⟩:=zY (k+2) L l S n p (wN L) bs.length a P (O (.s,.lst L)) (O (y,nI h)) (O (.s,.lst<|bs.map bL)) (O (.o .s,.lst<|n.map nI)) o5 o6 o7 o8 o9 J J J;subst A;have H:=jO (C<|k+2) 15 L l.st [O (.s,.lst L),J,J,J,O (.s,.lst<|(wN L).map nI),J,J,J,J,J,J,J,J,J,J,J] (λ_=>rfl) λ_=>rfl;have t6:aK (L.map λu=>((.s,.int (wOf u)):W))=(wN L).map nI:=by rw[ek,ur l]
 have t7:=λm Z=>CO (wN L) m Z;rw[gp,x_run _ _ _ rfl];simp_all only[bj,zU,F,t1,t2,G,t3,t4,Q,H,t6,t7,t5,v]
abbrev OA:U S:=[
    .asg (.q [3,5,9] []) 10 (.op .min Kg [.var 5,.op .ix Kg [.var 3,.var 9]]),
    .ite (.l [7,9]) (.and (.op .gt Kg [.var 10,.cst (.int 0)]) (.or (.op .lt Kg [.var 8,.cst (.int 2)]) (.or (.op .eq Kg [.var 9,.op .ix Kg [.var 7,.op .neg Kg [.cst (.int 1)]]]) (.op .eq Kg [.call 201 [.io 0,.cst (.int 2)],.cst (.int 0)])))) [
     .ite (.q [] [8]) (.op .eq Kg [.var 8,.cst (.int 1)]) [
      .asg (.l []) 10 (.op .add Kg [.cst<|.int 1,.call 201 [.io 0,.var 10]])] [],
     .app (.q [9] [10]) 6 (.tup [.var 9,.var 10]),
     .asg (.q [5] [10]) 5 (.op .sub Kg [.var 5,.var 10])] []]
def Dl (d c f:Y)(bt:U<|Y×Y)(b:Y)(a:U<|Y×Y):Prop:=∃m,1<=m/\m<=f/\m<=d/\b=f-m/\a=bt++[(c,m)]
theorem FC (k N f c lst:Y)(z:Int)(l Z:U Y)(hc:c<l.length)(hp:0<l.getD c 0)(h60:l.getD c 0<=1000)(b:atI (Z.map nI) (-1)=O (nI lst))(bt:U<|Y×Y)(hb:bt.length<500)(t:T)(A:Tp N t)(hN:N+5<1000000000000000000)(w1 w2 w4 o10:j W)(m5 m8:Md):
  ∃t' L g m5' m8' m9' H,Tp (N+2) t'/\((L=f/\g=bt)\/Dl (l.getD c 0) c f bt L g)/\(0<f->c=lst->Dl (l.getD c 0) c f bt L g) /\
   evSs (C<|k+1) OA [O (.d,t),w1,w2,O (.o .s,.lst<|l.map nI),w4,O (m5,nI f),O (.o .s,bL bt),O (.s,.lst<|Z.map nI),O (m8,.int z),O (.s,nI c),o10,J] =
   .nx [O (.d,t'),w1,w2,O (.o .s,.lst<|l.map nI),w4,O (m5',nI L),O (.o .s,bL g),O (.s,.lst<|Z.map nI),O (m8',.int z),O (m9',nI c),H,J]:=by
 have y:=aO hc;have i:(if((l.getD c 0:Y):Int)<((f:Y):Int) then((l.getD c 0:Y):Int) else((f:Y):Int))=((min f (l.getD c 0):Y):Int):=by split<;>lia
 have D:min f (l.getD c 0)<=f:=PY _ _;have F:min f (l.getD c 0)<=l.getD c 0:=NY _ _;have M:(bt.map cT).length<LIM:=by rw[Kr];exact vT<|by lia
 have P:∀m,bt.map cT++[T.tup [nI c,nI m]]=(bt++[(c,m)]).map cT:=λm=>by rw[LY];rfl
 by_cases h0:f=0
 .subst h0;have d:decide (((min 0 (l.getD c 0):Y):Int)>0)=false:=RR (by lia);exact⟨t,0,bt,_,_,_,_,tm A<|by lia,.inl ⟨rfl,rfl⟩,λz=>RM z<|LB _,by simp_all only[y,i,d];rfl⟩
 .have G:1<=min f (l.getD c 0):=by lia
  have d:decide (((min f (l.getD c 0):Y):Int)>0)=true:=RI (by lia);generalize min f (l.getD c 0)=u at i D F G d;have g7:((f:Y):Int)-((u:Y):Int)=((f-u:Y):Int):=by lia
  have a:Dl (l.getD c 0) c f bt (f-u) (bt++[(c,u)]):=⟨u,G,D,F,rfl,rfl⟩;by_cases hz:z<2
  .have x:decide (z<2)=true:=RI hz;by_cases h1:z=1
   .subst h1;obtain⟨r,t1,a1,b1,p,e1⟩:=eS (n:=k) .s ((u:Y):Int) A (by lia) (by lia) (by lia);obtain⟨r2,t2,a2,b2,ht2,e2⟩:=eS (n:=k) .d ((u:Y):Int) A (by lia) (by lia) (by lia);have h:((1:Int)==1)=true:=rfl;obtain⟨v,rfl⟩:=Pd a1;obtain⟨w,rfl⟩:=Pd a2;have g8:(1:Int)+((w:Y):Int)=((1+w:Y):Int):=by lia
    have g9:((f:Y):Int)-((1+w:Y):Int)=((f-(1+w):Y):Int):=by lia
    have part:Dl (l.getD c 0) c f bt (f-(1+w)) (bt++[(c,1+w)]):=⟨1+w,by lia,by lia,by lia,rfl,rfl⟩;exact⟨t2,_,_,_,_,_,_,tm ht2<|by lia,.inr part,λ_ _=>part,by simp_all only[y,i,d,x,h,e2,g8,M,P,g9];rfl⟩
   .have h:(z==1)=false:=beq_eq_false_iff_ne.mpr h1;exact⟨t,_,_,_,_,_,_,tm A<|by lia,.inr a,λ_ _=>a,by simp_all only[y,i,d,x,h,M,P,g7];rfl⟩
  .have x:decide (z<2)=false:=RR hz;have h:(z==1)=false:=beq_eq_false_iff_ne.mpr (by lia);by_cases Q:c=lst
   .have I:(((c:Y):Int)==((lst:Y):Int))=true:=by rw [d7,Q]; exact R4 _
    exact⟨t,_,_,_,_,_,_,tm A<|by lia,.inr a,λ_ _=>a,by simp_all only[y,i,d,x,h,b,I,M,P,g7];rfl⟩
   .have I:(((c:Y):Int)==((lst:Y):Int))=false:=by rw [d7]; exact beq_eq_false_iff_ne.mpr Q
    obtain⟨r,t1,a1,b1,p,e1⟩:=eS (n:=k) .d 2 A (by lia) (by decide) (by decide);by_cases hr:r=0
    .have d5:(r==0)=true:=by rw [hr]; rfl
     exact⟨t1,_,_,_,_,_,_,tm p<|by lia,.inr a,λ_ e=>RM e Q,by simp_all only[y,i,d,x,h,b,I,e1,d5,M,P,g7];rfl⟩
    .have d5:(r==0)=false:=beq_eq_false_iff_ne.mpr hr;exact⟨t1,f,bt,_,_,_,_,tm p<|by lia,.inl ⟨rfl,rfl⟩,λ_ e=>RM e Q,by simp_all only[y,i,d,x,h,b,I,e1,d5];rfl⟩
abbrev VC:U S:=[.setI (.q [3,9] [10]) 3 (.var 9)<|.op .sub Kg [.op .ix Kg [.var 3,.var 9],.var 10]]
structure Ob (P:Y->U Y)(h:Y)(l p:U Y)(lst f:Y)(bt:U (Y×Y)):Prop where
 sm:smB bt+f=h
 sub:(bt.map (·.1)).Sublist p
 one:∀q∈bt,1<=q.2/\q.2<=l.getD q.1 0
 go:lst∈p->bt≠[]
theorem AD (k N h:Y)(hh:0<h)(z:Int)(P:Y->U Y)(l w:U Y)(hcs:w.length<=12)(hc:∀c∈w,c<l.length/\0<l.getD c 0/\l.getD c 0<=1000)(lst:Y)(D:atI (w.map nI) (-1)=O (nI lst))(t:T)(ht:Tp N t)(hN:N+100<1000000000000000000)(M Q Z I v:j W)(F G:Md):
  ∃L A b x y H n,Tp (N+24) L/\Ob P h l w lst A b /\
   aS [9] (evSs (C<|k+1) OA) (w.map λi=>[((.s,nI i):W)]) [O (.d,t),M,Q,O (.o .s,.lst<|l.map nI),Z,O (F,nI h),O (.o .s,bL []),O (.s,.lst<|w.map nI),O (G,.int z),I,v,J] =
   .nx [O (.d,L),M,Q,O (.o .s,.lst<|l.map nI),Z,O (x,nI A),O (.o .s,bL b),O (.s,.lst<|w.map nI),O (y,.int z),H,n,J]:=by
 obtain⟨η',lp,L,A,b,x,y,H,n,htt,a,rfl⟩:=aU (tg:=[9]) (f:=evSs (C<|k+1) OA) (g:=λ(i:Y)=>[((.s,nI i):W)])
  (λpre η=>∃(t:T) (f:Y) (bt:U<|Y×Y) (F G:Md) (I v:j W),Tp (N+2 * pre.length) t/\Ob P h l pre lst f bt/\η=[O (.d,t),M,Q,O (.o .s,.lst<|l.map nI),Z,O (F,nI f),O (.o .s,bL bt),O (.s,.lst<|w.map nI),O (G,.int z),I,v,J])
  w [] [O (.d,t),M,Q,O (.o .s,.lst<|l.map nI),Z,O (F,nI h),O (.o .s,bL []),O (.s,.lst<|w.map nI),O (G,.int z),I,v,J]
  ⟨t,h,[],F,G,I,v,ht,⟨MU _,Pw _,(λq hq=>nomatch hq),(λz=>nomatch z)⟩,rfl⟩
  (by
   rintro p c r η hp ⟨t,f,bt,F,G,I,v,ht,a,he⟩;subst he;have hcm:c∈w:=by rw[show w=p++c::r from hp];simp
   have hpl:p.length<12:=by have:=RY MH (show w=p++c::r from hp);rw[KJ,Kz] at this;lia
   have hbl:bt.length<=p.length:=by have:=a.sub.length_le;rw[Kr] at this;exact this
   obtain⟨c1,c2,c3⟩:=hc c hcm;obtain⟨L,A,b,x,y,m9',n,ht',d1,d2,e⟩:=FC k (N+2 * p.length) f c lst z l w c1 c2 c3 D bt (by lia) t ht (by lia) M Q Z v F G;have el:(p++[c]).length=p.length+1:=by rw[KJ];rfl
   have dl:Dl (l.getD c 0) c f bt A b->Ob P h l (p++[c]) lst A b:=λ⟨m,x1,x2,x3,x4,x5⟩=>by
    subst x4;subst x5;have sm:=a.sm;refine⟨by rw[xA];lia,?_,λq hq=>?_,λ_=>by simp⟩
    .rw[LY];exact a.sub.append<|Pw _
    .rcases Li.mp hq with u | u
     .exact a.one q u
     .rw[K1.mp u];exact⟨x1,x3⟩
   refine⟨_,_,rfl,e,L,A,b,x,y,_,n,tm ht'<|by rw[el];lia,?_,rfl⟩;rcases d1 with⟨x1,x2⟩|d1
   .subst x1; subst x2;refine⟨a.sm,a.sub.trans (List.sublist_append_left _ _),a.one,λu eb=>?_⟩;rcases Li.mp u with u|u
    .exact a.go u eb
    .have ec:=(K1.mp u).symm;have f0:0<A:=by have sm:=a.sm;rw[eb] at sm;have:smB []=0:=rfl;lia
     obtain⟨m,_,_,_,_,x5⟩:=d2 f0 ec;rw[eb] at x5;cases x5
   .exact dl d1)
 exact⟨L,A,b,x,y,H,n,tm htt<|by simp;lia,a,lp⟩
theorem ng:∀(b:U<|Y×Y) (l:U Y),(∀q∈b,q.1<l.length/\q.2<=l.getD q.1 0)->(b.map (·.1)).Nodup->aB (c8 b l)+smB b=aB l
|[],_,_,_=>rfl
| q::b,l,h,nd=>by
 have a:=Le.mp nd;obtain⟨c,m⟩:=h q Ku
 have o:=ng b (l.set q.1<|l.getD q.1 0-q.2) (λr d=>by
  have k:q.1≠r.1:=λe=>a.1 (by show q.1∈_;rw[e];exact LH (f:=λp:Y×Y=>p.1) d);obtain⟨g,i⟩:=h r<|Kw _ d;rw[KZ,aq l _ _ _ c,RK k];exact⟨g,i⟩) a.2
 have n:=fL l q.1 (l.getD q.1 0-q.2) c;show aB (c8 b _)+(q.2+smB b)=_;lia
theorem Ob.bt {P:Y->U Y}{h lst f:Y}{l:U Y}{bt:U<|Y×Y}(a:Ob P h l (can P l) lst f bt):Bt1 P h l bt (c8 bt l):=by
 have e:∀q∈bt,q.1∈can P l:=λq b=>a.sub.subset<|LH (f:=λp:Y×Y=>p.1) b;have d:∀q∈bt,q.1<l.length:=λq b=>(can_mem.mp<|e q b).1;have c:(bt.map (·.1)).Pairwise (· < ·):=(show(can P l).Pairwise (· < ·) from Qs _ Nm).sublist a.sub;have nd:(bt.map (·.1)).Nodup:=c.imp λz=>by lia
 have g:=a.sm;refine⟨iO _ _,c,λq b=>⟨d q b,(a.one q b).1,?_,(can_mem.mp<|e q b).2.2⟩,by lia,λx hx=>fD bt l x d hx,ng bt l (λq b=>⟨d q b,(a.one q b).2⟩) nd⟩;rw[kZ bt l d nd q b];have:=(a.one q b).2;lia
theorem ze {bt:U<|Y×Y}(h:bt≠[])(a:∀q∈bt,1<=q.2):1<=smB bt:=by
 cases bt with
 |nil=>exact RM rfl h
 |cons q b=>have:=a q Ku;show 1<=q.2+smB b;lia
theorem yE (k:Y)(n t u v w y z A:j W)(b:U<|Y×Y):∀(l:U Y) (m c:j W),(b.map (·.1)).Nodup->(∀q∈b,q.1<l.length/\q.2<=l.getD q.1 0) ->
  ∃h a,aS [9,10] (evSs (C k) VC) (b.map λq=>[((.s,nI q.1):W),(.s,nI q.2)]) [n,t,u,O (.o .s,.lst<|l.map nI),v,w,y,z,A,m,c,J]=.nx [n,t,u,O (.o .s,.lst<|(c8 b l).map nI),v,w,y,z,A,h,a,J]:=by
 induction b with
 |nil=>intro l m c _ _;exact⟨m,c,rfl⟩
 | cons q b ih =>
  intro l m c nd G;have i:=Le.mp nd;obtain⟨D,Z⟩:=G q Ku;have I:=aO D;have L:=dg D;have M:((l.getD q.1 0:Y):Int)-((q.2:Y):Int)=((l.getD q.1 0-q.2:Y):Int):=by lia
  have N:=cU l q.1<|l.getD q.1 0-q.2;have e:∃F d,evSs (C k) VC [n,t,u,O (.o .s,.lst (l.map nI)),v,w,y,z,A,O (.s,nI q.1),O (.s,nI q.2),J]=.nx [n,t,u,O (.o .s,.lst ((l.set q.1 (l.getD q.1 0-q.2)).map nI)),v,w,y,z,A,O (F,nI q.1),O (d,nI q.2),J]:=⟨_,_,by simp_all only[I,L,M,N];rfl⟩;obtain⟨F,d,e⟩:=e;obtain⟨h,a,lp⟩:=ih (l.set q.1<|l.getD q.1 0-q.2) (O (F,nI q.1)) (O (d,nI q.2)) i.2 λr H=>by have ne:q.1≠r.1:=λe=>i.1 (by show q.1∈_;rw[e];exact LH (f:=λp:Y×Y=>p.1) H);obtain⟨P,Q⟩:=G r<|Kw _ H;rw[KZ,aq l _ _ _ D,RK ne];exact⟨P,Q⟩
  refine⟨h,a,(jQ (tg:=[9,10]) (f:=evSs (C k) VC) (g:=λ(q:Y×Y)=>[((.s,nI q.1):W),(.s,nI q.2)]) (x:=q) (ts:=b) e rfl).trans ?_⟩;rw[show c8 (q::b) l=c8 b (l.set q.1<|l.getD q.1 0-q.2) from rfl];exact lp
abbrev OB:U S:=[
   .asg (.q [2] []) 5 (.var 2),
   .asg (.q [] []) 6 (.lst Kg []),
   .asg (.q [1,3] []) 7 (.call 308 [.var 1,.var 3]),
   .asg (.l []) 8 (.call 201 [.io 0,.cst<|.int 3]),
   .forS [7] [] .seq [.var 7] [9] OA,
   .forS [6] [] .sq2 [.var 6] [9,10] VC,
   .app (.q [6] []) 4 (.var 6)]
abbrev OC:E:=.op .gt Kg [.op .sum Kg [.var 3],.cst<|.int 0]
theorem nD:∀{l:U Y},aB l=0->∀x,l.getD x 0=0
|[],_,x=>rfl
|a::l,h,x=>by
 have b:a+aB l=0:=h;cases x with
 |zero=>show a=0;lia
 |succ x=>exact nD (l:=l) (by lia) x
theorem iP:∀{l:U Y},(∀x,l.getD x 0=0)->aB l=0
|[],_=>rfl
|a::l,h=>by have b:a=0:=h 0;have c:=iP (l:=l) λx=>h<|x+1;show a+aB l=0;lia
theorem EO (k N h:Y)(hh:0<h)(L:U T)(hL:Sts L)(l:U Y)(hl:l.length=L.length)(hs:∀x,l.getD x 0<=1000)(H:can (PL L) l≠[])(t:T)(ht:Tp N t)(hN:N+200<1000000000000000000)(f:U<|U<|Y×Y)(hb:f.length<10000)(o5 o6 o7 o8 w b:j W)(D F:Md):
  ∃y bt m1' m2' o5' o6' o7' o8' p e,Tp (N+25) y/\Bt1 (PL L) h l bt (c8 bt l)/\1<=smB bt/\evSs (C<|k+1) OB [O (.d,t),O (D,.lst L),O (F,nI h),O (.o .s,.lst<|l.map nI),O (.o .s,.lst<|f.map bL),o5,o6,o7,o8,w,b,J] =
   .nx [O (.d,y),O (m1',.lst L),O (m2',nI h),O (.o .s,.lst<|(c8 bt l).map nI),O (.o .s,.lst<|(f++[bt]).map bL),o5',o6',o7',o8',p,e,J]:=by
 have hn:=hL.len;have u:∀c∈can (PL L) l,c<l.length:=λc r=>(can_mem.mp r).1;have v:(can (PL L) l).length<=12:=K0 (d9 L.length _ dS λc r=>by rw[<- hl];exact u c r) hn;have e1:=λm m'=>BM k L hL l hl m m';have g3:=aZ<|can (PL L) l;obtain⟨z,t1,a1,b1,M,e2⟩:=eS (n:=k) .d 3 ht (by lia) (by decide) (by decide);obtain⟨lst,G,g⟩:=nr H;have Q:=λ(w1 w2 w4 w b:j W) (m5 m8:Md)=>AD k (N+1) h hh z (PL L) l (can (PL L) l) v (λc r=>⟨u c r,(can_mem.mp r).2.1,hs c⟩) lst g t1 M (by lia) w1 w2 w4 w b m5 m8;obtain⟨y,f',bt,m5',m8',p,e,I,a,P⟩:=Q (O (D,.lst L)) (O (F,nI h)) (O (.o .s,.lst<|f.map bL)) w b .d .d;have P:aS [9] (evSs (C (k+1)) OA) ((can (PL L) l).map λi=>[((.s,nI i):W)]) [O (.d,t1),O (D,.lst L),O (F,nI h),O (.o .s,.lst (l.map nI)),O (.o .s,.lst (f.map bL)),O (.d,nI h),O (.o .s,.lst []),O (.s,.lst ((can (PL L) l).map nI)),O (.d,.int z),w,b,J]=_:=P;have x:=a.bt;have t0:=Ao bt;obtain⟨o9'',o10'',Z⟩:=yE (k+1) (O (.d,y)) (O (D,.lst L)) (O (F,nI h)) (O (.o .s,.lst<|f.map bL)) (O (m5',nI f')) (O (.s,bL bt)) (O (.s,.lst<|(can (PL L) l).map nI)) (O (m8',.int z)) bt l p e x.nd λq A=>⟨(x.one q A).1,(a.one q A).2⟩;have g1:(f.map bL).length<LIM:=by rw[Kr];show _<16777215;lia
 have g2:f.map bL++[bL bt]=(f++[bt]).map bL:=by rw[LY];rfl
 exact⟨y,bt,_,_,_,_,_,_,_,_,tm I<|by lia,x,ze (a.go G) λq A=>(a.one q A).1,by simp_all only[e1,e2,g3,P,Be,t0,Z,g1,g2];rfl⟩
theorem zC (k N h:Y)(hh:0<h)(L:U T)(i:Sts L)(t:T)(G:Tp N t)(hN:N+30000<1000000000000000000)(D n:Md):
  ∃md a m g,Tp (N+20000) g/\Run (PL L) h (wN L) a m/\(∀x,m.getD x 0=0)/\a.length<=720/\C (k+2) 359 [(.d,t),(D,.lst L),(n,nI h)]=.ok ((md,.lst<|a.map bL),[(.d,g)]):=by
 obtain⟨rk,o⟩:=cV i;have hn:=i.len;have c0:=jO (C<|k+1) 11 L i.st [J,O (.s,.lst L),J,J,J,J,J,J,J,J,J,J] (λ_=>rfl) λ_=>rfl;have t0:aK (L.map λu=>((.s,.int (wOf u)):W))=(wN L).map nI:=by rw[ek,ur i]
 have hs:=kO i
 obtain⟨η',lp,a,m,g,w1,w2,o3,p,v,w,z,A,b,a1,a2,a3,a4,rfl⟩:=eD (c:=evT (C<|k+1) (.q [3] []) OC) (f:=evSs (C<|k+1) OB)
  (λr H=>∃(l:U Y) (a:U<|U<|Y×Y) (t:T) (D n:Md) (p v w z A b:j W),r=aB l/\l.length=L.length/\(∀x,l.getD x 0<=1000)/\a.length+aB l<=720/\Tp (N+25 * a.length) t/\Run (PL L) h (wN L) a l/\H=[O (.d,t),O (D,.lst L),O (n,nI h),O (.o .s,.lst<|l.map nI),O (.o .s,.lst<|a.map bL),p,v,w,z,A,b,J])
  (λH=>∃(a:U<|U<|Y×Y) (m:U Y) (g:T) (w1 w2 o3 p v w z A b:j W),Tp (N+20000) g/\Run (PL L) h (wN L) a m/\(∀x,m.getD x 0=0)/\a.length<=720/\H=[O (.d,g),w1,w2,o3,O (.o .s,.lst<|a.map bL),p,v,w,z,A,b,J])
  jb (aB<|wN L) [O (.d,t),O (.s,.lst L),O (n,nI h),O (.o .s,.lst<|(wN L).map nI),O (.o .s,.lst []),J,J,J,J,J,J,J] (by show _<1000000000000;lia)
  ⟨wN L,[],t,.s,n,J,J,J,J,J,J,rfl,bU L,BF i,by simp;lia,tm G<|by simp,.nil _,rfl⟩
  (by
   rintro r H ⟨l,a,t,D,n,p,v,w,z,A,b,hr,I,hx,hb,G,rr,he⟩;subst he;have e1:=b9 l;have e2:=fJ l;by_cases h0:aB l=0
   .left;have d:decide (((aB l:Y):Int)>0)=false:=RR (by lia);exact⟨_,by simp_all only[e1,e2,d];rfl,a,l,t,_,_,_,_,_,_,_,_,_,tm G<|by lia,rr,nD h0,by lia,rfl⟩
   .right;have d:decide (((aB l:Y):Int)>0)=true:=RI (by lia);have M:can (PL L) l≠[]:=λe=>h0 (iP (kc o I e));obtain⟨g,bt,Q,Z,o5',o6',o7',o8',o9',F,P,x,hp,e⟩:=EO k (N+25 * a.length) h hh L i l I hx M t G (by lia) a (by lia) p v w z A b D n;have al:=x.all;have el:(a++[bt]).length=a.length+1:=by rw[KJ];rfl
    exact⟨_,_,aB<|c8 bt l,by simp_all only[e1,e2,d],e,by lia,c8 bt l,a++[bt],g,Q,Z,o5',o6',o7',o8',o9',F,rfl,by rw[x.len,I],λy=>K0 (x.le y)<|hx y,by rw[el];lia,tm P<|by rw[el];lia,rr.snoc x,rfl⟩)
 exact⟨_,a,m,g,a1,a2,a3,a4,by rw[eQ,x_run _ _ _ rfl];simp_all only[aV,c0,t0,lp];rfl⟩
abbrev QA:U S:=[
   .asg (.l []) 3 (.call 278 [.io 1]),
   .asg (.l [3]) 4 (.call 279 [.io 1])]
abbrev QB:U S:=[
   .asg (.q [3] []) 5 (.op .sum Kg [.comp Kg .seq [.var 3] [10] J<|.op .ix Kg [.var 10,.cst<|.int 2]]),
   .asg (.q [3,4] []) 6 (.call 310 [.var 3,.var 4]),
   .asg (.q [3,4] []) 7 (.call 266 [.var 3,.var 4,.call 294 [.var 3,.var 4]]),
   .ite (.q [3,4,6] []) (.not (.call 358 [.var 3,.var 4,.var 6])) [
    .ret [] (.cst<|.bl Kg)] [],
   .ite (.q [3,4,6,7] []) (.or (.op .isnB Kg [.call 356 [.var 3,.var 4,.var 6],.cst (.bl Kh)]) (.not (.call 272 [.var 7]))) [
    .ret [] (.cst<|.bl Kg)] []]
abbrev QC:U S:=[
   .asg (.q [3,4] [5]) 8 (.op .add Kg [.op .fdiv Kg [.op .sub Kg [.op .add Kg [.var 5,.var 4],.cst<|.int 1],.var 4],.call 286 [.var 3]]),
   .ite (.q [6,7,8] []) (.or (.op .lt Kg [.op .len Kg [.var 6],.var 7]) (.op .gt Kg [.op .len Kg [.var 6],.var 8])) [
    .ret [] (.cst<|.bl Kg)] []]
abbrev QD:U S:=[
   .asg (.l [3,4]) 9 (.call 359 [.io 1,.var 3,.var 4]),
   .ite (.q [6,7,9] []) (.or (.op .lt Kg [.op .len Kg [.var 9],.var 7]) (.op .lt Kg [.op .mul Kg [.cst (.int 2),.op .len Kg [.var 9]],.op .len Kg [.var 6]])) [
    .ret [] (.cst<|.bl Kg)] [],
   .ite (.q [3] [5]) (.op .ne Kg [.op .len Kg [.call 310 [.var 3,.cst (.int 1)]],.var 5]) [
    .ret [] (.cst<|.bl Kg)] []]
theorem sJ {n:Y}(d:n<=12){a:U Y}(b:∀x∈a,x<n):rOk (.lst<|a.map nI)=true:=rOks_all.mpr λt c=>by obtain⟨x,hx,rfl⟩:=KG.mp c;have:=b x hx;exact RI<|by lia
theorem yd (a:U Y):dp (.lst<|a.map nI)<=1:=by
 have:dps (a.map nI)<=0:=n5 λu b=>by obtain⟨_,_,rfl⟩:=KG.mp b;exact Kt _
 show dps (a.map nI)+1<=1;lia
theorem cw_ne:(q "chain"==q "width")=false:=by rw[qeq];rfl
theorem H8:rOk (.str<|q "chain")=true:=by decide +kernel
theorem Hf (L:U T)(b:Sts L)(h:Int)(e:1<=h)(g:h<=20):∃(p:T) (n c:Md) (v:Int),(v=least L h\/v=((Lm L:Y):Int))/\C 39 294 [(.s,.lst L),(.s,.int h)]=.ok ((n,p),[])/\C 39 266 [(.s,.lst L),(.s,.int h),(n,p)]=.ok ((c,.int v),[]):=by
 obtain⟨a,r,t,m,i⟩:=tD 35 L b h e g .s .s;rcases i with⟨i,e1⟩|⟨i,e1⟩
 .have u:(((a.map nI).length:Y):Int)=((Lm L:Y):Int):=by rw [Kr,r]
  have k:rOk (.tup [.str (q "chain"),.lst (a.map nI)])=true:=by show(rOk (.str<|q "chain")&&(rOk (.lst<|a.map nI)&&Kh))=Kh;rw[H8,sJ b.len m];rfl
  have f:dp (.tup [.str (q "chain"),.lst (a.map nI)])<=60:=by have:=yd a;show max 0 (max (dp<|.lst<|a.map nI) 0)+1<=60;lia
  obtain⟨c,e2⟩:=lZ 35 L b h e g _ k f .s .s<|.o .s;have l:kI L h (.tup [.str (q "chain"),.lst (a.map nI)])=.int ((Lm L:Y):Int):=by show(if(eqS (q "width") (.str<|q "chain")&&eqI (least L h) (.lst<|a.map nI))=Kh then T.int (least L h) else if(eqS (q "chain") (.str<|q "chain")&&gy L (.lst<|a.map nI))=Kh then lnT (.lst<|a.map nI) else .non)=_;rw[RK<|by show¬((q "chain"==q "width")&&_)=Kh;rw[cw_ne];simp,RJ<|by show((q "chain"==q "chain")&&gy L (.lst<|a.map nI))=Kh;rw[EI b t m,R4];rfl];show T.int (((a.map nI).length:Y):Int)=_;rw[u]
  rw[l] at e2;exact⟨_,_,c,_,.inr rfl,e1,e2⟩
 .obtain ⟨w,x⟩:=pW b e;have k:rOk (.tup [.str (q "width"),.int (least L h)])=true:=by show(rOk (.str (q "width"))&&(decide ((least L h).natAbs<10000000000000000000)&&Kh))=Kh;rw[ET,RI (by lia)];rfl
  have f:dp (.tup [.str (q "width"),.int (least L h)])<=60:=by show max 0 (max 0 0)+1<=60;decide
  obtain⟨c,e2⟩:=lZ 35 L b h e g _ k f .s .s .d;have l:kI L h (.tup [.str (q "width"),.int (least L h)])=.int (least L h):=by show(if(eqS (q "width") (.str<|q "width")&&eqI (least L h) (.int<|least L h))=Kh then T.int (least L h) else _)=_;exact RJ<|by show((q "width"==q "width")&&(least L h==least L h))=Kh;rw[R4,R4];rfl
  rw[l] at e2;exact⟨_,_,c,_,.inl rfl,e1,e2⟩
theorem kA {L:U T}(b:Sts L):dI L=((aB (wN L):Y):Int):=by have a:=lj b.st;rw[ur b,b9] at a;have e:=K8 a;rw[dI,<- e,fJ]
theorem jL {L:U T}(a:Sts L){h:Y}(d:0<h){bs:U<|U<|Y×Y}{b:U Y}(r:Run (PL L) h (wN L) bs b)(z:∀x,b.getD x 0=0):least L (h:Int)<=(bs.length:Int)/\Lm L<=bs.length:=by
 obtain⟨e,o⟩:=cV a;constructor
 .have w:=r.work;rw[iP z] at w
  have f:((aB (wN L):Y):Int)<=(bs.length:Int) * (h:Int):=by
   have:aB (wN L)<=bs.length * h:=by rw[Of];lia
   exact_mod_cast this
  have:(dI L+(h:Int)-1) / (h:Int)<(bs.length:Int)+1:=Qy (by lia) (by rw[kA a,Int.add_mul];lia);show(dI L+(h:Int)-1) / (h:Int)<=_;lia
 .refine i5 fun y c=>?_;obtain⟨k,hk,rfl⟩:=KG.mp c;have:=r.deep o z 0 (λk hk _=>(eP a hk).1) k<|Lc.mp hk;lia
theorem gQ {L:U T}(a:Sts L){h:Y}(c:0<h):∃(F N:Y) (b:U Y),(tt (PL L) h 1000<|wN L).length=F+N/\(F:Int)<=least L (h:Int)/\N<=Lm L/\(tt (PL L) h 1000<|wN L).length<1000/\Run (PL L) h (wN L) (tt (PL L) h 1000<|wN L) b/\(∀x,b.getD x 0=0):=by
 obtain⟨t,o⟩:=cV a;have p:=kO a;obtain⟨b,r,z⟩:=wy o c 1000 (wN L) (bU L) (by lia);obtain⟨F,N,d,e,l⟩:=oN (Lx:=Lm L) o c (λk hk=>hV<|LH (f:=lg<|PL L)<|Lc.mpr hk) 1000 (wN L) 0 (bU L) (by lia) λk hk m=>by have:=ox (P:=PL L) k;lia
 have n:F<=720:=K0 (Nat.le_mul_of_pos_left F c) (by lia);obtain⟨os,i,_⟩:=ja 0 L a .s;have g:Lm L<=12:=K0 (wz o i) a.len;refine⟨F,N,b,d,?_,by lia,by lia,r,z⟩;show _<=(dI L+(h:Int)-1) / (h:Int);refine Int.le_ediv_of_mul_le (by lia) ?_
 have:((F:Y):Int) * (h:Int)<=((aB (wN L):Y):Int):=by
  have:F * h<=aB (wN L):=by rw[Of];exact e
  exact_mod_cast this
 rw[kA a];lia
theorem Gj (L:U T)(e:Sts L)(h:Y)(g:1<=h)(h2:h<=20)(l n o I M P i k:j W)(G:Md):
  ∃(v:Int) (f H:Md),(v=least L (h:Int)\/v=((Lm L:Y):Int))/\evSs (C 39) QB [l,n,o,O (.s,.lst L),O (G,nI h),I,M,P,i,k,J]=.nx [l,n,o,O (.s,.lst L),O (f,nI h),O (.d,nI<|aB<|wN L),O (.d,.lst<|(tt (PL L) h 1000<|wN L).map bL),O (H,.int v),i,k,J]:=by
 have t:=λw4=>jO (C 39) 10 L e.st [J,J,J,O (.s,.lst L),w4,J,J,J,J,J,J] (λ_=>rfl) λ_=>rfl;have Q:=ek L;have Z:=lj e.st;have y:(L.map wOf).sum=((aB (wN L):Y):Int):=kA e;have e1:=λm D=>nC 36 L e h g m D;obtain⟨tl,ms,md,v,A,e2,e3⟩:=Hf L e (h:Int) (by lia) (by lia);obtain⟨F,N,l2,_,_,_,p,r,z⟩:=gQ e g;have u:=λa b c=>wZ 36 h L e _ p r z a b c;have w:=λa b c=>Ag 34 h L e r z a b c;have x:=qG 38;have bt:(!(Kh==Kh))=false:=rfl;exact⟨v,_,_,A,by simp_all only[t,Q,Z,y,e1,e2,e3,u,w,x,xl,bt];rfl⟩
theorem Fd (L:U T)(a:Sts L)(h:Y)(e:1<=h)(Z:h<=20)(v:Int)(p:v=least L (h:Int)\/v=((Lm L:Y):Int))(g i k A f:j W)(u y:Md):
  ∃(b w x c:Md) (H:j W),evSs (C 39) QC [g,i,k,O (.s,.lst L),O (u,nI h),O (.d,nI<|aB<|wN L),O (.d,.lst<|(tt (PL L) h 1000<|wN L).map bL),O (y,.int v),A,f,J]=.nx [g,i,k,O (.s,.lst L),O (b,nI h),O (w,nI<|aB<|wN L),O (x,.lst<|(tt (PL L) h 1000<|wN L).map bL),O (c,.int v),H,f,J]:=by
 obtain⟨F,N,l2,I,M,P,Q,r,z⟩:=gQ a e;obtain⟨r1,r2⟩:=jL a e r z;have e1:=λm=>nR 38 L a m;have o:mxN ((Kq L.length).map (lg (PL L)))=Lm L:=rfl;have D:decide (0<(h:Int))=true:=RI (by lia);have G:decide ((h:Int)<1073741824)=true:=RI (by lia);have le:(((aB (wN L):Y):Int)+(h:Int)-1) / (h:Int)=least L (h:Int):=by rw[<- kA a];rfl
 have t:((((tt (PL L) h 1000 (wN L)).map bL).length:Y):Int)=(((tt (PL L) h 1000 (wN L)).length:Y):Int):=by rw[Kr]
 have l:decide ((((tt (PL L) h 1000 (wN L)).length:Y):Int)<v)=false:=RR (by rcases p with rfl|rfl<;>lia);have n:decide ((((tt (PL L) h 1000 (wN L)).length:Y):Int)>least L (h:Int)+((Lm L:Y):Int))=false:=RR (by lia);exact⟨_,_,_,_,_,by simp_all only[D,G,le,e1,o,t,l,n];rfl⟩
theorem Hk (L:U T)(a:Sts L)(h:Y)(e:1<=h)(h2:h<=20)(v:Int)(A:v=least L (h:Int)\/v=((Lm L:Y):Int))(N:Y)(t:T)(y:Tp N t)(hN:N+50000<1000000000000000000)(k l w8 o9:j W)(H I M P:Md):
  ∃(c:T) (o3 Q Z o6 o7 o8 i:j W),Tp (N+20000) c/\evSs (C 39) QD [k,O (.d,t),l,O (.s,.lst L),O (H,nI h),O (I,nI<|aB<|wN L),O (M,.lst<|(tt (PL L) h 1000<|wN L).map bL),O (P,.int v),w8,o9,J]=.nx [k,O (.d,c),l,o3,Q,Z,o6,o7,o8,i,J]:=by
 obtain⟨rk,o⟩:=cV a;obtain⟨F,N',l2,b1,b2,b3,b4,r,z⟩:=gQ a e;have hs:=kO a;have e2:∀m g,C 39 310 [(m,.lst L),(g,.int 1)]=.ok ((.d,.lst ((tt (PL L) 1 1000 (wN L)).map bL)),[]):=λm g=>nC 36 L a 1 PX m g;have D:((((tt (PL L) 1 1000 (wN L)).map bL).length:Y):Int)=((aB (wN L):Y):Int):=by rw[Kr,sX o 1000 (wN L) (bU L)<|by lia]
 have G:((((tt (PL L) h 1000 (wN L)).map bL).length:Y):Int)=(((tt (PL L) h 1000 (wN L)).length:Y):Int):=by rw[Kr]
 obtain⟨md,b,l3,c,f,r',z',x,e1⟩:=zC 37 N h e L a t y (by lia) .s .s;obtain⟨r1,r2⟩:=jL a e r' z';have lo:(((b.map bL).length:Y):Int)=((b.length:Y):Int):=by rw[Kr]
 have n:decide (((b.length:Y):Int)<v)=false:=RR (by rcases A with rfl|rfl<;>lia);have p:decide (2 * ((b.length:Y):Int)<(((tt (PL L) h 1000 (wN L)).length:Y):Int))=false:=RR (by lia);have u:(!(((aB (wN L):Y):Int)==((aB (wN L):Y):Int)))=false:=bii _;have w:(decide (Int.natAbs 2<18446744073709551616) || decide (((b.length:Y):Int).natAbs<18446744073709551616))=true:=by rw[RI<|show Int.natAbs 2<18446744073709551616 by decide];rfl
 exact⟨c,_,_,_,_,_,_,_,f,by simp_all only[e1,lo,n,w,G,p,e2,D,u];rfl⟩
abbrev QQ:U S:=[
   .asg (.l []) 3 (.call 278 [.io 1]),
   .asg (.l [3]) 4 (.call 279 [.io 1]),
   .asg (.q [3] []) 5 (.op .sum Kg [.comp Kg .seq [.var 3] [10] J<|.op .ix Kg [.var 10,.cst<|.int 2]]),
   .asg (.q [3,4] []) 6 (.call 310 [.var 3,.var 4]),
   .asg (.q [3,4] []) 7 (.call 266 [.var 3,.var 4,.call 294 [.var 3,.var 4]]),
   .ite (.q [3,4,6] []) (.not (.call 358 [.var 3,.var 4,.var 6])) [
    .ret [] (.cst<|.bl Kg)] [],
   .ite (.q [3,4,6,7] []) (.or (.op .isnB Kg [.call 356 [.var 3,.var 4,.var 6],.cst (.bl Kh)]) (.not (.call 272 [.var 7]))) [
    .ret [] (.cst<|.bl Kg)] [],
   .asg (.q [3,4] [5]) 8 (.op .add Kg [.op .fdiv Kg [.op .sub Kg [.op .add Kg [.var 5,.var 4],.cst<|.int 1],.var 4],.call 286 [.var 3]]),
   .ite (.q [6,7,8] []) (.or (.op .lt Kg [.op .len Kg [.var 6],.var 7]) (.op .gt Kg [.op .len Kg [.var 6],.var 8])) [
    .ret [] (.cst<|.bl Kg)] [],
   .asg (.l [3,4]) 9 (.call 359 [.io 1,.var 3,.var 4]),
   .ite (.q [6,7,9] []) (.or (.op .lt Kg [.op .len Kg [.var 9],.var 7]) (.op .lt Kg [.op .mul Kg [.cst (.int 2),.op .len Kg [.var 9]],.op .len Kg [.var 6]])) [
    .ret [] (.cst<|.bl Kg)] [],
   .ite (.q [3] [5]) (.op .ne Kg [.op .len Kg [.call 310 [.var 3,.cst (.int 1)]],.var 5]) [
    .ret [] (.cst<|.bl Kg)] []]
theorem EX (N:Y)(t:T)(ht:Tp N t)(hN:N+100000<1000000000000000000)(a b o3 P g i k f c:j W):
  ∃l z A D F G H I,Tp (N+30000) l/\evSs (C 39) QQ [a,O (.d,t),b,o3,P,g,i,k,f,c,J]=.nx [a,O (.d,l),b,z,A,D,F,G,H,I,J]:=by
 obtain⟨md,L,t1,r,l1,l2,l3,e1⟩:=wU (L:=37) ht (by lia);have o:Sts L:=⟨l1,l2,l3⟩;obtain⟨md2,h,m,u,h1,h2,e2⟩:=wG (L:=37) r (by lia);obtain⟨h,rfl⟩:=Pd (show 0<=h by lia);have n:∃w,evSs (C 39) QA [a,O (.d,t),b,o3,P,g,i,k,f,c,J]=.nx [a,O (.d,m),b,O (.s,.lst L),O (w,nI h),g,i,k,f,c,J]:=⟨_,by simp_all only[e1,e2];rfl⟩;obtain⟨w,n⟩:=n;obtain⟨v,x,m7,M,hB⟩:=Gj L o h (by lia) (by lia) a (O (.d,m)) b g i k f c w;obtain⟨e,m5,m6,y,w8,hC⟩:=Fd L o h (by lia) (by lia) v M a (O (.d,m)) b f c x m7;obtain⟨l,Q,Z,a5,a6,a7,a8,a9,p,hD⟩:=Hk L o h (by lia) (by lia) v M (N+300+3) m u (by lia) a b w8 c e m5 m6 y;refine⟨l,Q,Z,a5,a6,a7,a8,a9,tm p<|by lia,?_⟩;rw[show QQ=QA++(QB++(QC++QD)) from rfl,go1 n,go1 hB,go1 hC,hD]
theorem xY (t:T)(F:Tp 0 t)(u:j W):
  ∃I v o3 h k l m n o,aS [2] (evSs (C 39) QQ) ((Kq 3).map λ(i:Y)=>[((.d,.int (i:Int)):W)]) [u,O (.d,t),J,J,J,J,J,J,J,J,J]=.nx [u,I,v,o3,h,k,l,m,n,o,J]:=by
 obtain⟨L,G,s,v,o3,h,k,l,m,n,o,_,rfl⟩:=aU (tg:=[2]) (f:=evSs (C 39) QQ) (g:=λ(i:Y)=>[((.d,.int (i:Int)):W)])
  (λpre z=>∃(s:T) (v o3 h k l m n o:j W),Tp (30000 * pre.length) s/\z=[u,O (.d,s),v,o3,h,k,l,m,n,o,J])
  (Kq 3) [] [u,O (.d,t),J,J,J,J,J,J,J,J,J] ⟨t,J,J,J,J,J,J,J,J,F,rfl⟩
  (by
   rintro p i r z hp ⟨s,v,o3,h,k,l,m,n,o,x,A⟩;subst A;have w:=RY MH hp;simp only[Lq,K9,KJ,Kz] at w;obtain⟨H,a,b,c,d,e,f,g,y,D⟩:=EX _ s x (by lia) u (O (.d,.int (i:Int))) o3 h k l m n o;exact⟨_,_,rfl,D,H,_,a,b,c,d,e,f,g,tm y<|by rw[KJ,Lf];lia,rfl⟩)
 exact⟨_,_,_,_,_,_,_,_,_,G⟩
theorem pure_law (a:U Int):∃m bs,C 40 0 [(.d,.scr a)]=.ok ((m,.bl Kh),bs):=by have b:Tp 0 (oA (cut a J (O 63)) 0 0):=⟨_,0,0,rfl,Kt _⟩;have e1:=zH a;obtain⟨o,p,o3,g,h,i,k,l,n,c⟩:=xY _ b<|O (.d,.scr a);generalize oA (cut a J<|O 63) 0 0=t0 at e1 c;have e:(decide ((3:Int).natAbs<4611686018427387904)&&fits 3)=true:=rfl;have f:(3:Int).toNat=3:=rfl;rw[show C 40 0 [(.d,.scr a)]=runF (C 39) pU [(.d,.scr a)] from rfl,x_run _ _ _ rfl];exact⟨_,_,by simp_all only[pU,e1,e,f,c];rfl⟩
end
end P78

namespace A78
open PySem PySem.Spec PyProof.Rows L2 L3 MR
noncomputable def top (i:Y):R0:=PySem.Challenge.pw_broadrow_k78_whole_none_is_much_shorter.main.body.getD i<|.Pass ⟨0,0,0,0⟩
abbrev vd:R0:=top 1
abbrev tR:R0:=top 2
abbrev tL:R0:=top 3
abbrev vt:R0:=top 5
abbrev wF:R0:=top 6
abbrev wQ:R0:=top 7
abbrev wX:R0:=top 8
abbrev vj:R0:=top 9
abbrev wR:R0:=top 10
abbrev vM:R0:=top 11
abbrev vo:R0:=top 12
abbrev sL:R0:=top 13
abbrev xq:R0:=top 14
abbrev um:R0:=top 15
abbrev uh:R0:=top 16
abbrev wC:R0:=top 17
abbrev u7:R0:=top 19
abbrev uM:R0:=top 20
abbrev uO:R0:=top 21
abbrev vN:R0:=top 22
abbrev ua:R0:=top 23
abbrev sP:R0:=top 24
abbrev v5:R0:=top 25
abbrev wm:R0:=top 26
abbrev uQ:R0:=top 27
abbrev sR:R0:=top 28
abbrev s0:R0:=top 29
structure Glb (K:Kk)(w:Ks)(mg:Str->j B):Prop where
 mk ::
structure Calls (P:RS)(w:Ks)(K:Kk)(mg:Str->j B)(base:RU)(n:Y)(C:M.Call):Prop where
 c263:ae P w K mg base n C "alike" 263 []
 c264:ae P w K mg base n C "sort_of" 264 []
 c265:ae P w K mg base n C "are_numbers" 265 []
 c310:ae P w K mg base n C "timetable" 310 []
 c290:ae P w K mg base n C "those_behind" 290 []
 c311:ae P w K mg base n C "deal" 311 [0,1]
 c299:ae P w K mg base n C "put_falling" 299 [0]
 c356:ae P w K mg base n C "is_timetable" 356 []
 c357:ae P w K mg base n C "is_beat" 357 []
 c302:ae P w K mg base n C "is_dealt" 302 []
 c294:ae P w K mg base n C "shown" 294 []
 c266:ae P w K mg base n C "shows" 266 []
 c267:ae P w K mg base n C "least_by_width" 267 []
 c268:ae P w K mg base n C "is_waiting_row" 268 []
 c295:ae P w K mg base n C "longest_row" 295 []
 c296:ae P w K mg base n C "in_order" 296 []
 c179:ae P w K mg base n C "_law_tape" 179 []
 c201:ae P w K mg base n C "_law_draw" 201 [0]
 c278:ae P w K mg base n C "_law_waits" 278 [0]
 c279:ae P w K mg base n C "_law_hands" 279 [0]
 c308:ae P w K mg base n C "_law_can" 308 []
 c272:ae P w K mg base n C "_law_whole" 272 []
 c303:ae P w K mg base n C "_law_is_deal" 303 []
 c358:ae P w K mg base n C "_law_is_table" 358 []
 c359:ae P w K mg base n C "_law_other_table" 359 [0]
 c286:ae P w K mg base n C "_law_longest" 286 []
abbrev DD (x:Str)(e:R0)(N:U Str)(g:M.Fn):Prop:=∀{P:RS} {w:Ks} {K:Kk} {d:Str->j B} {a:RU} {n:Y} {C:M.Call} {f:RL} {c:B} {A:KO} {b:U Env} {s:Ki} {H:Hp} {E:XK},Calls P w K d a n C->Txt d->Glb K w d->Room n (A.deeper<|LQ x (defScope e) s.heap.objs.size f c)->SSs (kx CX0 P w K d a N x (defScope e) f c A b s H E).nox (slN N.length) g.io C (defBody e) g.body
theorem HZ:au ["one","other","mine","theirs"] ["one","other"] (defScope vd):=fsc
theorem JM:DD "alike" vd ["one","other","mine","theirs"] aQ:=λ{_ _ _ _ _ _ _ _ _ _ _ s _ _} b T G a=>
 have S:=HZ
 (@ssc _ _ _ _ _ _ _ _ (zIf (qS a (aD b.c264 a (@say _ _ _ _ _ _ _ (sV 0) sa0 rfl rfl)) (aD b.c264 a (@say _ _ _ _ _ _ _ (sV 1) sa0 rfl rfl))) (ss1 (aJ sO)) ss0)
    (@ssc _ _ _ _ _ _ _ _ (zIf (cx (tB (Hl (by decide) Mw (by decide) Np T.isin T.list T.tup (sV 0)))) (ss1 (aJ (sEq a (sM 0) (sM 1)))) ss0)
    (@ssc _ _ _ _ _ _ _ _ (zIf (qS a (bM (hm:=T.len) (ha:=(sV 0))) (bM (hm:=T.len) (ha:=(sV 1)))) (ss1 (aJ sO)) ss0)
    (@ssc _ _ _ _ _ _ _ _ (jH 2 3 S.nd (Bp (hm:=T.zip) (ha:=(sV 0)) (hb:=(sV 1))) (ss1 (zIf (cx (tB (aD b.c263 a (@say _ _ _ _ _ _ _ (sV 2) (@say _ _ _ _ _ _ _ (sV 3) sa0 rfl rfl) rfl rfl)))) (ss1 (aJ sO)) ss0)))
    (ss1 (aJ sO))))))
theorem FI:au ["thing"] ["thing"] (defScope tR):=fsc
theorem JN:DD "sort_of" tR ["thing"] bb:=λ{_ _ _ _ _ _ _ _ _ _ _ s _ _} a T G b=>
 have S:=FI
 (@ssc _ _ _ _ _ _ _ _ (zIf (tB (cM (by decide) QH T.isin T.bool (sV 0))) (ss1 (aJ sS)) ss0)
    (@ssc _ _ _ _ _ _ _ _ (zIf (tB (cM (by decide) Qv T.isin T.int (sV 0))) (ss1 (aJ sS)) ss0)
    (@ssc _ _ _ _ _ _ _ _ (zIf (tB (cM (by decide) Ry T.isin T.str (sV 0))) (ss1 (aJ sS)) ss0)
    (@ssc _ _ _ _ _ _ _ _ (zIf (tB (cM (by decide) Mw T.isin T.list (sV 0))) (ss1 (aJ sS)) ss0)
    (ss1 (aJ (sIf (tB (cM (by decide) Np T.isin T.tup (sM 0))) sS sS)))))))
theorem Gk:au ["thing"] ["thing"] (defScope tL):=fsc
theorem IP:DD "are_numbers" tL ["thing"] bE:=λ{_ _ _ _ _ _ _ _ _ _ _ s _ _} b T G a=>
 have S:=Gk
 (ss1 (aJ (sBW (jn (cM (by decide) Np T.isin T.tup (sV 0)) (vA1 (we (hm:=T.all) (ha:=(sC1 [] [] [] [] (bh (sV 0)) (λ_ _ _ _=>(sEq a (aD b.c264 a (@say _ _ _ _ _ _ _ (sV 0) sa0 rfl rfl)) sS)) csc .nil .nil))))))))
theorem Ib:au ["steps","hands","left","awaited","later","ready","beats","beat","number","other"] ["steps","hands"] (defScope vt):=fsc
theorem Jq:DD "timetable" vt ["steps","hands","left","awaited","later","ready","beats","beat","number","other"] b7:=λ{_ _ _ _ _ _ _ _ _ _ _ s _ _} b T G a=>
 have S:=Ib
 (@ssc _ _ _ _ _ _ _ _ (@zA _ _ _ _ _ _ _ 2 _ _ _ _ S.nd (sC1 [] [] [] [] (bh (sV 0)) (fun _ _ _ _=>(@aj _ _ _ _ _ _ _ _ _ (sV 0) sI (fun _ _=>rfl))) csc .nil .nil) rfl rfl rfl rfl rfl rfl)
    (@ssc _ _ _ _ _ _ _ _ (@zA _ _ _ _ _ _ _ 3 _ _ _ _ S.nd (sC1 [] [] [] [] (bh (sV 0)) (λ_ _ _ _=>(bM (hm:=T.len) (ha:=(@aj _ _ _ _ _ _ _ _ _ (sV 0) sI (λ_ _=>rfl))))) csc .nil .nil) rfl rfl rfl rfl rfl rfl)
    (@ssc _ _ _ _ _ _ _ _ (@zA _ _ _ _ _ _ _ 4 _ _ _ _ S.nd (aD b.c290 a (@say _ _ _ _ _ _ _ (sV 0) sa0 rfl rfl)) rfl rfl rfl rfl rfl rfl)
    (@ssc _ _ _ _ _ _ _ _ (Jg 5 [3] [3] [("awaited",s.heap.objs.size+2)] ["awaited"] (wu (hm:=T.range) (ha:=(jm (bM (hm:=T.len) (ha:=(sV 0))) sI)) (hb:=(mz sI)) (hc:=(mz sI))) (λ_ _ _ _=>(fY a (@aj _ _ _ _ _ _ _ _ _ (sV 1) (sV 0) (λ_ _=>rfl)) sI)) (λ_ _ _ _=>(sV 0)) csc (eY .nil) (frc .nil) S.nd)
    (@ssc _ _ _ _ _ _ _ _ (@zA _ _ _ _ _ _ _ 6 _ _ _ _ S.nd (@sLx _ _ _ _ _ _ _ (by decide) sl0) rfl rfl rfl rfl rfl rfl)
    (@ssc _ _ _ _ _ _ _ _ (wW (tB (sV 5)) (@ssc _ _ _ _ _ _ _ _ (@zA _ _ _ _ _ _ _ 7 _ _ _ _ S.nd (aD b.c311 a (sai 5 (sai 2 (@say _ _ _ _ _ _ _ (sV 1) sa0 rfl rfl)))) rfl rfl rfl rfl rfl rfl)
     (@ssc _ _ _ _ _ _ _ _ (GY 8 S.nd (bh (sQ (zI [2] [2] [("left",s.heap.objs.size+1)] ["left"] (bh (sV 7)) (λ_ _ _ _=>(fY a (@aj _ _ _ _ _ _ _ _ _ (sV 1) (@aj _ _ _ _ _ _ _ _ _ (sV 0) sI (λ_ _=>rfl)) (λ_ _=>rfl)) sI)) (λ_ _ _ _=>(@aj _ _ _ _ _ _ _ _ _ (sV 0) sI (λ_ _=>rfl))) csc (eY .nil) (frc .nil)))) (ss1 (cA 9 S.nd (bh (@aj _ _ _ _ _ _ _ _ _ (sV 4) (sV 8) (λ_ _=>rfl))) (@ssc _ _ _ _ _ _ _ _ (iq 3 (jm (@aj _ _ _ _ _ _ _ _ _ (sV 3) (sV 9) (λ_ _=>rfl)) sI) (sV 9))
       (ss1 (zIf (fY a (@aj _ _ _ _ _ _ _ _ _ (sV 3) (sV 9) (λ_ _=>rfl)) sI) (ss1 (HE (aD b.c299 a (sai 5 (@say _ _ _ _ _ _ _ (sV 9) sa0 rfl rfl))))) ss0))))))
     (ss1 (mI 6 (sM 7))))))
    (ss1 (aJ (sM 6)))))))))
theorem GD:au ["steps","told","number","step","one"] ["steps"] (defScope wF):=fsc
theorem JZ:DD "those_behind" wF ["steps","told","number","step","one"] bw:=λ{_ _ _ _ _ _ _ _ _ _ _ s _ _} a T G b=>
 have S:=GD
 (@ssc _ _ _ _ _ _ _ _ (zC1 1 [] [] [] [] (bh (sV 0)) (λ_ _ _ _=>(@sLx _ _ _ _ _ _ _ (by decide) sl0)) csc .nil .nil S.nd)
    (@ssc _ _ _ _ _ _ _ _ (jH 2 3 S.nd (l9 (hm:=T.enum) (ha:=(sV 0))) (ss1 (cA 4 S.nd (bh (@aj _ _ _ _ _ _ _ _ _ (sV 3) sI (λ_ _=>rfl))) (ss1 (Fx 1 4 2)))))
    (ss1 (aJ (sM 1)))))
theorem GN:au ["ready","left","hands","beat","free","number","many"] ["ready","left","hands"] (defScope wQ):=fsc
theorem JL:DD "deal" wQ ["ready","left","hands","beat","free","number","many"] gY:=λ{_ _ _ _ _ _ _ _ _ _ _ s _ _} b T G a=>
 have S:=GN
 (@ssc _ _ _ _ _ _ _ _ (@zA _ _ _ _ _ _ _ 3 _ _ _ _ S.nd (@sLx _ _ _ _ _ _ _ (by decide) sl0) rfl rfl rfl rfl rfl rfl)
    (@ssc _ _ _ _ _ _ _ _ (@zA _ _ _ _ _ _ _ 4 _ _ _ _ S.nd (sV 2) rfl rfl rfl rfl rfl rfl)
    (@ssc _ _ _ _ _ _ _ _ (wW (tW (tY (iB (sV 4) sI) (wA1 (tB (sV 0))))) (@ssc _ _ _ _ _ _ _ _ (@zA _ _ _ _ _ _ _ 5 _ _ _ _ S.nd (@aj _ _ _ _ _ _ _ _ _ (sV 0) (mz sI) (fun _ _=>rfl)) rfl rfl rfl rfl rfl rfl)
     (@ssc _ _ _ _ _ _ _ _ (@zA _ _ _ _ _ _ _ 6 _ _ _ _ S.nd (GW (hm:=T.min) (ha:=(sV 4)) (hb:=(@aj _ _ _ _ _ _ _ _ _ (sV 1) (sV 5) (λ_ _=>rfl)))) rfl rfl rfl rfl rfl rfl)
     (@ssc _ _ _ _ _ _ _ _ (mI 3 (@sTx _ _ _ _ _ _ _ (by decide) (@slx _ _ _ _ _ _ _ (sV 5) (@slx _ _ _ _ _ _ _ (sV 6) sl0 rfl) rfl)))
     (@ssc _ _ _ _ _ _ _ _ (@zA _ _ _ _ _ _ _ 4 _ _ _ _ S.nd (jm (sV 4) (sV 6)) rfl rfl rfl rfl rfl rfl)
     (@ssc _ _ _ _ _ _ _ _ (iq 1 (jm (@aj _ _ _ _ _ _ _ _ _ (sV 1) (sV 5) (λ_ _=>rfl)) (sV 6)) (sV 5))
     (ss1 (zIf (fY a (@aj _ _ _ _ _ _ _ _ _ (sV 1) (sV 5) (λ_ _=>rfl)) sI) (ss1 (HE (FK 0))) ss0))))))))
    (ss1 (aJ (sM 3))))))
theorem Hh:au ["numbers","number","low","high","middle"] ["numbers","number"] (defScope wX):=fsc
theorem Jb:DD "put_falling" wX ["numbers","number","low","high","middle"] bC:=λ{_ _ _ _ _ _ _ _ _ _ _ s _ _} a T G b=>
 have S:=Hh
 (@ssc _ _ _ _ _ _ _ _ (@zA _ _ _ _ _ _ _ 2 _ _ _ _ S.nd sI rfl rfl rfl rfl rfl rfl)
    (@ssc _ _ _ _ _ _ _ _ (@zA _ _ _ _ _ _ _ 3 _ _ _ _ S.nd (bM (hm:=T.len) (ha:=(sV 0))) rfl rfl rfl rfl rfl rfl)
    (@ssc _ _ _ _ _ _ _ _ (wW (oP (sV 2) (sV 3)) (@ssc _ _ _ _ _ _ _ _ (@zA _ _ _ _ _ _ _ 4 _ _ _ _ S.nd (wO (cD (sV 2) (sV 3)) sI) rfl rfl rfl rfl rfl rfl)
     (ss1 (zIf (iB (@aj _ _ _ _ _ _ _ _ _ (sV 0) (sV 4) (λ_ _=>rfl)) (sV 1)) (ss1 (@zA _ _ _ _ _ _ _ 2 _ _ _ _ S.nd (cD (sV 4) sI) rfl rfl rfl rfl rfl rfl)) (ss1 (@zA _ _ _ _ _ _ _ 3 _ _ _ _ S.nd (sV 4) rfl rfl rfl rfl rfl rfl))))))
    (ss1 (E3 0 2 1)))))
theorem Hq:au ["steps","hands","thing","left","beat","one"] ["steps","hands","thing"] (defScope vj):=fsc
theorem Jl:DD "is_timetable" vj ["steps","hands","thing","left","beat","one"] bo:=λ{_ _ _ _ _ _ _ _ _ _ _ s _ _} b T G a=>
 have S:=Hq
 (@ssc _ _ _ _ _ _ _ _ (zIf (cx (tB (cM (by decide) Mw T.isin T.list (sV 2)))) (ss1 (aJ sO)) ss0)
    (@ssc _ _ _ _ _ _ _ _ (@zA _ _ _ _ _ _ _ 3 _ _ _ _ S.nd (sC1 [] [] [] [] (bh (sV 0)) (λ_ _ _ _=>(@aj _ _ _ _ _ _ _ _ _ (sV 0) sI (λ_ _=>rfl))) csc .nil .nil) rfl rfl rfl rfl rfl rfl)
    (@ssc _ _ _ _ _ _ _ _ (cA 4 S.nd (bh (sV 2)) (@ssc _ _ _ _ _ _ _ _ (zIf (cx (tB (aD b.c357 a (@say _ _ _ _ _ _ _ (sV 4) (@say _ _ _ _ _ _ _ (bM (hm:=T.len) (ha:=(sV 0))) (@say _ _ _ _ _ _ _ (sV 1) sa0 rfl rfl) rfl rfl) rfl rfl)))) (ss1 (aJ sO)) ss0)
     (@ssc _ _ _ _ _ _ _ _ (cA 5 S.nd (bh (sV 4)) (ss1 (zIf (tB (J2 (hm:=T.any) (ha:=(sC1 [3] [3] [("left",s.heap.objs.size+1)] ["left"] (bh (@aj _ _ _ _ _ _ _ _ _ (@aj _ _ _ _ _ _ _ _ _ (sV 0) (@aj _ _ _ _ _ _ _ _ _ (sV 5) sI (λ_ _=>rfl)) (λ_ _=>rfl)) sI (λ_ _=>rfl))) (λ_ _ _ _=>(sNe a (@aj _ _ _ _ _ _ _ _ _ (sV 1) (sV 0) (λ_ _=>rfl)) sI)) csc (eY .nil) (frc .nil))))) (ss1 (aJ sO)) ss0)))
     (ss1 (cA 5 S.nd (bh (sV 4)) (ss1 (iq 3 (jm (@aj _ _ _ _ _ _ _ _ _ (sV 3) (@aj _ _ _ _ _ _ _ _ _ (sV 5) sI (λ_ _=>rfl)) (λ_ _=>rfl)) (@aj _ _ _ _ _ _ _ _ _ (sV 5) sI (λ_ _=>rfl))) (@aj _ _ _ _ _ _ _ _ _ (sV 5) sI (λ_ _=>rfl)))))))))
    (ss1 (aJ (we (hm:=T.all) (ha:=(sC1 [] [] [] [] (bh (sM 3)) (λ_ _ _ _=>(sEq a (sV 0) sI)) csc .nil .nil))))))))
theorem Hs:au ["thing","many","hands","numbers"] ["thing","many","hands"] (defScope wR):=fsc
theorem J7:DD "is_beat" wR ["thing","many","hands","numbers"] da:=λ{_ _ _ _ _ _ _ _ _ _ _ s _ _} b T G a=>
 have S:=Hs
 (@ssc _ _ _ _ _ _ _ _ (zIf (tW (wOr (cx (tB (cM (by decide) Mw T.isin T.list (sV 0)))) (wO1 (cx (tB (we (hm:=T.all) (ha:=(sC1 [1] [1] [("many",s.heap.objs.size+1)] ["many"] (bh (sV 0)) (λ_ _ _ _=>(aD b.c302 a (@say _ _ _ _ _ _ _ (sV 0) (@say _ _ _ _ _ _ _ (sV 1) sa0 rfl rfl) rfl rfl))) csc (eY .nil) (frc .nil))))))))) (ss1 (aJ sO)) ss0)
    (@ssc _ _ _ _ _ _ _ _ (zC1 3 [] [] [] [] (bh (sV 0)) (λ_ _ _ _=>(@aj _ _ _ _ _ _ _ _ _ (sV 0) sI (λ_ _=>rfl))) csc .nil .nil S.nd)
    (ss1 (aJ (sBW (jn (sEq a (sV 3) (vB (hm:=T.sorted) (hm2:=T.set) (ha:=(sV 3)))) (vA1 (sLe (Ak (hm:=T.sum) (ha:=(sC1 [] [] [] [] (bh (sM 0)) (λ_ _ _ _=>(@aj _ _ _ _ _ _ _ _ _ (sV 0) sI (λ_ _=>rfl))) csc .nil .nil))) (sM 2)))))))))
theorem Hu:au ["thing","many"] ["thing","many"] (defScope vM):=fsc
theorem JO:DD "is_dealt" vM ["thing","many"] cO:=λ{_ _ _ _ _ _ _ _ _ _ _ s _ _} b T G a=>
 have S:=Hu
 (ss1 (aJ (sBW (jn (aD b.c265 a (@say _ _ _ _ _ _ _ (sV 0) sa0 rfl rfl)) (jn (sEq a (bM (hm:=T.len) (ha:=(sV 0))) sI) (jn (qF sI (@aj _ _ _ _ _ _ _ _ _ (sV 0) sI (λ_ _=>rfl)) (sM 1)) (vA1 (sGe (@aj _ _ _ _ _ _ _ _ _ (sV 0) sI (λ_ _=>rfl)) sI))))))))
theorem Ig:au ["steps","hands","least","row"] ["steps","hands"] (defScope vo):=fsc
theorem JJ:DD "shown" vo ["steps","hands","least","row"] eG:=λ{_ _ _ _ _ _ _ _ _ _ _ s _ _} a T G b=>
 have S:=Ig
 (@ssc _ _ _ _ _ _ _ _ (@zA _ _ _ _ _ _ _ 2 _ _ _ _ S.nd (aD a.c267 b (@say _ _ _ _ _ _ _ (sV 0) (@say _ _ _ _ _ _ _ (sV 1) sa0 rfl rfl) rfl rfl)) rfl rfl rfl rfl rfl rfl)
    (@ssc _ _ _ _ _ _ _ _ (@zA _ _ _ _ _ _ _ 3 _ _ _ _ S.nd (aD a.c295 b (@say _ _ _ _ _ _ _ (sV 0) sa0 rfl rfl)) rfl rfl rfl rfl rfl rfl)
    (ss1 (aJ (sIf (iB (bM (hm:=T.len) (ha:=(sV 3))) (sV 2)) (@sTx _ _ _ _ _ _ _ (by decide) (@slx _ _ _ _ _ _ _ sS (@slx _ _ _ _ _ _ _ (sV 3) sl0 rfl) rfl)) (@sTx _ _ _ _ _ _ _ (by decide) (@slx _ _ _ _ _ _ _ sS (@slx _ _ _ _ _ _ _ (sV 2) sl0 rfl) rfl)))))))
theorem F8:au ["steps","hands","thing","least"] ["steps","hands","thing"] (defScope sL):=fsc
theorem II:DD "shows" sL ["steps","hands","thing","least"] bf:=λ{_ _ _ _ _ _ _ _ _ _ _ s _ _} b T G a=>
 have S:=F8
 (@ssc _ _ _ _ _ _ _ _ (zIf (tW (wOr (cx (tB (cM (by decide) Np T.isin T.tup (sV 2)))) (wO1 (qS a (bM (hm:=T.len) (ha:=(sV 2))) sI)))) (ss1 (aJ sN)) ss0)
    (@ssc _ _ _ _ _ _ _ _ (@zA _ _ _ _ _ _ _ 3 _ _ _ _ S.nd (aD b.c267 a (@say _ _ _ _ _ _ _ (sV 0) (@say _ _ _ _ _ _ _ (sV 1) sa0 rfl rfl) rfl rfl)) rfl rfl rfl rfl rfl rfl)
    (@ssc _ _ _ _ _ _ _ _ (zIf (tB (aD b.c263 a (@say _ _ _ _ _ _ _ (sV 2) (@say _ _ _ _ _ _ _ (@sTx _ _ _ _ _ _ _ (by decide) (@slx _ _ _ _ _ _ _ sS (@slx _ _ _ _ _ _ _ (sV 3) sl0 rfl) rfl)) sa0 rfl rfl) rfl rfl))) (ss1 (aJ (sM 3))) ss0)
    (ss1 (aJ (sIf (tW (tY (fY a (@aj _ _ _ _ _ _ _ _ _ (sV 2) sI (λ_ _=>rfl)) sS) (wA1 (tB (aD b.c268 a (@say _ _ _ _ _ _ _ (sM 0) (@say _ _ _ _ _ _ _ (@aj _ _ _ _ _ _ _ _ _ (sV 2) sI (λ_ _=>rfl)) sa0 rfl rfl) rfl rfl)))))) (bM (hm:=T.len) (ha:=(@aj _ _ _ _ _ _ _ _ _ (sV 2) sI (λ_ _=>rfl)))) sN))))))
theorem Fg:au ["steps","hands"] ["steps","hands"] (defScope xq):=fsc
theorem IJ:DD "least_by_width" xq ["steps","hands"] aY:=λ{_ _ _ _ _ _ _ _ _ _ _ s _ _} a T G b=>
 have S:=Fg
 (ss1 (aJ (wO (jm (cD (Ak (hm:=T.sum) (ha:=(sC1 [] [] [] [] (bh (sM 0)) (λ_ _ _ _=>(@aj _ _ _ _ _ _ _ _ _ (sV 0) sI (λ_ _=>rfl))) csc .nil .nil))) (sV 1)) sI) (sV 1))))
theorem GU:au ["steps","thing"] ["steps","thing"] (defScope um):=fsc
theorem Kb:DD "is_waiting_row" um ["steps","thing"] ai:=λ{_ _ _ _ _ _ _ _ _ _ _ s _ _} a T G b=>
 have S:=GU
 (@ssc _ _ _ _ _ _ _ _ (zIf (tW (wOr (cx (tB (cM (by decide) Mw T.isin T.list (sV 1)))) (wO1 (cx (tB (aD a.c265 b (@say _ _ _ _ _ _ _ (Dz (hm:=T.tup) (ha:=(sV 1))) sa0 rfl rfl))))))) (ss1 (aJ sO)) ss0)
    (@ssc _ _ _ _ _ _ _ _ (zIf (cx (tB (we (hm:=T.all) (ha:=(sC1 [0] [0] [("steps",s.heap.objs.size+1)] ["steps"] (bh (sV 1)) (λ_ _ _ _=>(qF sI (sV 0) (bM (hm:=T.len) (ha:=(sV 1))))) csc (eY .nil) (frc .nil)))))) (ss1 (aJ sO)) ss0)
    (ss1 (aJ (we (hm:=T.all) (ha:=(sC2 [0] [0] [("steps",s.heap.objs.size+1)] ["steps"] (Bp (hm:=T.zip) (ha:=(sV 1)) (hb:=(JR (sV 1) sI))) (λ_ _ _ _=>(Gi (sV 0) (@aj _ _ _ _ _ _ _ _ _ (@aj _ _ _ _ _ _ _ _ _ (sV 2) (sV 1) (λ_ _=>rfl)) sI (λ_ _=>rfl)))) csc (eY .nil) (frc .nil))))))))
theorem Ia:au ["steps","lengths","number","told","choice","length"] ["steps"] (defScope uh):=fsc
theorem ID:DD "longest_row" uh ["steps","lengths","number","told","choice","length"] bD:=λ{_ _ _ _ _ _ _ _ _ _ _ s _ _} b T G a=>
 have S:=Ia
 (@ssc _ _ _ _ _ _ _ _ (@zA _ _ _ _ _ _ _ 1 _ _ _ _ S.nd (k7 (@sLx _ _ _ _ _ _ _ (by decide) (@slx _ _ _ _ _ _ _ sI sl0 rfl)) (bM (hm:=T.len) (ha:=(sV 0)))) rfl rfl rfl rfl rfl rfl)
    (@ssc _ _ _ _ _ _ _ _ (cA 2 S.nd (bh (aD b.c296 a (@say _ _ _ _ _ _ _ (sV 0) sa0 rfl rfl))) (ss1 (iq 1 (cD sI (Bv (hm:=T.max) (ha:=(sC1 [1] [1] [("lengths",s.heap.objs.size+1)] ["lengths"] (bh (@aj _ _ _ _ _ _ _ _ _ (@aj _ _ _ _ _ _ _ _ _ (sV 0) (sV 2) (λ_ _=>rfl)) sI (λ_ _=>rfl))) (λ_ _ _ _=>(@aj _ _ _ _ _ _ _ _ _ (sV 1) (sV 0) (λ_ _=>rfl))) csc (eY .nil) (frc .nil))))) (sV 2))))
    (@ssc _ _ _ _ _ _ _ _ (@zA _ _ _ _ _ _ _ 3 _ _ _ _ S.nd (@sLx _ _ _ _ _ _ _ (by decide) sl0) rfl rfl rfl rfl rfl rfl)
    (@ssc _ _ _ _ _ _ _ _ (@zA _ _ _ _ _ _ _ 4 _ _ _ _ S.nd (G9 T.list T.range (bM (hm:=T.len) (ha:=(sV 0)))) rfl rfl rfl rfl rfl rfl)
    (@ssc _ _ _ _ _ _ _ _ (cA 5 S.nd (wu (hm:=T.range) (ha:=(Bv (hm:=T.max) (ha:=(sV 1)))) (hb:=sI) (hc:=(mz sI))) (@ssc _ _ _ _ _ _ _ _ (mI 3 (@aj _ _ _ _ _ _ _ _ _ (zI [5,1] [5,1] [("lengths",s.heap.objs.size+1),("length",s.heap.objs.size+2)] ["length","lengths"] (bh (sV 4)) (fun _ _ _ _=>(fY a (@aj _ _ _ _ _ _ _ _ _ (sV 2) (sV 0) (fun _ _=>rfl)) (sV 1))) (fun _ _ _ _=>(sV 0)) csc (eY (eY .nil)) (frc (frc .nil))) sI (fun _ _=>rfl)))
     (ss1 (@zA _ _ _ _ _ _ _ 4 _ _ _ _ S.nd (@aj _ _ _ _ _ _ _ _ _ (@aj _ _ _ _ _ _ _ _ _ (sV 0) (sQ (@aj _ _ _ _ _ _ _ _ _ (sV 3) (mz sI) (λ_ _=>rfl))) (λ_ _=>rfl)) sI (λ_ _=>rfl)) rfl rfl rfl rfl rfl rfl))))
    (@ssc _ _ _ _ _ _ _ _ (Ij 3)
    (ss1 (aJ (sM 3)))))))))
theorem F7:au ["steps","awaited","later","told","at","number","other"] ["steps"] (defScope wC):=fsc
theorem Jd:DD "in_order" wC ["steps","awaited","later","told","at","number","other"] cK:=λ{_ _ _ _ _ _ _ _ _ _ _ s _ _} b T G a=>
 have S:=F7
 (@ssc _ _ _ _ _ _ _ _ (zC1 1 [] [] [] [] (bh (sV 0)) (λ_ _ _ _=>(bM (hm:=T.len) (ha:=(@aj _ _ _ _ _ _ _ _ _ (sV 0) sI (λ_ _=>rfl))))) csc .nil .nil S.nd)
    (@ssc _ _ _ _ _ _ _ _ (@zA _ _ _ _ _ _ _ 2 _ _ _ _ S.nd (aD b.c290 a (@say _ _ _ _ _ _ _ (sV 0) sa0 rfl rfl)) rfl rfl rfl rfl rfl rfl)
    (@ssc _ _ _ _ _ _ _ _ (J4 3 [] [] [] [] (l9 (hm:=T.enum) (ha:=(sV 1))) (λ_ _ _ _=>(fY a (sV 1) sI)) (λ_ _ _ _=>(sV 0)) csc .nil .nil S.nd)
    (@ssc _ _ _ _ _ _ _ _ (@zA _ _ _ _ _ _ _ 4 _ _ _ _ S.nd sI rfl rfl rfl rfl rfl rfl)
    (@ssc _ _ _ _ _ _ _ _ (wW (oP (sV 4) (bM (hm:=T.len) (ha:=(sV 3)))) (@ssc _ _ _ _ _ _ _ _ (@zA _ _ _ _ _ _ _ 5 _ _ _ _ S.nd (@aj _ _ _ _ _ _ _ _ _ (sV 3) (sV 4) (fun _ _=>rfl)) rfl rfl rfl rfl rfl rfl)
     (@ssc _ _ _ _ _ _ _ _ (cA 6 S.nd (bh (@aj _ _ _ _ _ _ _ _ _ (sV 2) (sV 5) (fun _ _=>rfl))) (@ssc _ _ _ _ _ _ _ _ (iq 1 (jm (@aj _ _ _ _ _ _ _ _ _ (sV 1) (sV 6) (fun _ _=>rfl)) sI) (sV 6))
      (ss1 (zIf (fY a (@aj _ _ _ _ _ _ _ _ _ (sV 1) (sV 6) (λ_ _=>rfl)) sI) (ss1 (mI 3 (sV 6))) ss0))))
     (ss1 (@zA _ _ _ _ _ _ _ 4 _ _ _ _ S.nd (cD (sV 4) sI) rfl rfl rfl rfl rfl rfl)))))
    (ss1 (aJ (sM 3))))))))
theorem Hz:au ["_law_script"] ["_law_script"] (defScope u7):=fsc
theorem Jc:DD "_law_tape" u7 ["_law_script"] cN:=λ{_ _ _ _ _ _ _ _ _ _ _ s _ _} a T G b=>
 have S:=Hz
 (ss1<|aJ<|@sLx _ _ _ _ _ _ _ (by decide)<|@slx _ _ _ _ _ _ _ (HH (hm:=T.list) (ha:=(Iw (sM 0) sI))) (@slx _ _ _ _ _ _ _ sI (@slx _ _ _ _ _ _ _ sI sl0 rfl) rfl) rfl)
theorem GZ:au ["_law_tape_here","_law_many","_law_digit","_law_at","_law_cell","_law_mixed"] ["_law_tape_here","_law_many"] (defScope uM):=fsc
theorem JP:DD "_law_draw" uM ["_law_tape_here","_law_many","_law_digit","_law_at","_law_cell","_law_mixed"] bW:=λ{_ _ _ _ _ _ _ _ _ _ _ s _ _} a T G b=>
 have S:=GZ
 (@ssc _ _ _ _ _ _ _ _ (zIf (iB (@aj _ _ _ _ _ _ _ _ _ (sV 0) sI (λ_ _=>rfl)) sI) (@ssc _ _ _ _ _ _ _ _ (@zA _ _ _ _ _ _ _ 2 _ _ _ _ S.nd (gg (@aj _ _ _ _ _ _ _ _ _ (sV 0) sI (λ_ _=>rfl)) (sV 1)) rfl rfl rfl rfl rfl rfl)
      (@ssc _ _ _ _ _ _ _ _ (iq 0 (v8 (@aj _ _ _ _ _ _ _ _ _ (sV 0) sI (λ_ _=>rfl)) (sV 1)) sI)
      (ss1 (aJ (sM 2))))) ss0)
    (@ssc _ _ _ _ _ _ _ _ (@zA _ _ _ _ _ _ _ 3 _ _ _ _ S.nd (@aj _ _ _ _ _ _ _ _ _ (sV 0) sI (λ_ _=>rfl)) rfl rfl rfl rfl rfl rfl)
    (@ssc _ _ _ _ _ _ _ _ (iq 0 (cD (sV 3) sI) sI)
    (@ssc _ _ _ _ _ _ _ _ (@zA _ _ _ _ _ _ _ 4 _ _ _ _ S.nd sI rfl rfl rfl rfl rfl rfl)
    (@ssc _ _ _ _ _ _ _ _ (zIf (iB (bM (hm:=T.len) (ha:=(@aj _ _ _ _ _ _ _ _ _ (sV 0) sI (λ_ _=>rfl)))) sI) (ss1 (@zA _ _ _ _ _ _ _ 4 _ _ _ _ S.nd (@aj _ _ _ _ _ _ _ _ _ (@aj _ _ _ _ _ _ _ _ _ (sV 0) sI (λ_ _=>rfl)) (gg (sV 3) (bM (hm:=T.len) (ha:=(@aj _ _ _ _ _ _ _ _ _ (sV 0) sI (λ_ _=>rfl))))) (λ_ _=>rfl)) rfl rfl rfl rfl rfl rfl)) ss0)
    (@ssc _ _ _ _ _ _ _ _ (zIf (tW (tY (oP (sV 3) (bM (hm:=T.len) (ha:=(@aj _ _ _ _ _ _ _ _ _ (sV 0) sI (fun _ _=>rfl))))) (wA1 (JG (sV 4) (IV sI sI))))) (@ssc _ _ _ _ _ _ _ _ (iq 0 (v8 (sV 4) (sV 1)) sI)
     (ss1 (aJ (gg (sM 4) (sM 1))))) ss0)
    (@ssc _ _ _ _ _ _ _ _ (@zA _ _ _ _ _ _ _ 5 _ _ _ _ S.nd (gg (k7 (cD (gg (sV 4) sI) sI) (cD (cD (k7 (k7 sI (sV 3)) (sV 3)) (k7 sI (sV 3))) sI)) sI) rfl rfl rfl rfl rfl rfl)
    (@ssc _ _ _ _ _ _ _ _ (@zA _ _ _ _ _ _ _ 5 _ _ _ _ S.nd (gg (cD (cD (k7 (sV 5) (sV 5)) (k7 sI (sV 3))) (gg (sV 4) sI)) sI) rfl rfl rfl rfl rfl rfl)
    (ss1 (aJ (gg (v8 (sM 5) sI) (sM 1))))))))))))
theorem Hv:au ["_law_tape_here","_law_many","_law_left","_law_turn","_law_ahead","_law_often","_law_k","_law_number","_law_found","_law_width"] ["_law_tape_here"] (defScope uO):=fsc
theorem Iu:DD "_law_waits" uO ["_law_tape_here","_law_many","_law_left","_law_turn","_law_ahead","_law_often","_law_k","_law_number","_law_found","_law_width"] f_law_waits:=λ{_ _ _ _ _ _ _ _ _ _ _ s _ _} b T G a=>
 have S:=Hv
 (@ssc _ _ _ _ _ _ _ _ (@zA _ _ _ _ _ _ _ 1 _ _ _ _ S.nd (@aj _ _ _ _ _ _ _ _ _ (@sLx _ _ _ _ _ _ _ (by decide) (@slx _ _ _ _ _ _ _ sI (@slx _ _ _ _ _ _ _ sI (@slx _ _ _ _ _ _ _ sI (@slx _ _ _ _ _ _ _ sI (@slx _ _ _ _ _ _ _ sI (@slx _ _ _ _ _ _ _ sI (@slx _ _ _ _ _ _ _ sI (@slx _ _ _ _ _ _ _ sI (@slx _ _ _ _ _ _ _ sI (@slx _ _ _ _ _ _ _ sI (@slx _ _ _ _ _ _ _ sI (@slx _ _ _ _ _ _ _ sI sl0 rfl) rfl) rfl) rfl) rfl) rfl) rfl) rfl) rfl) rfl) rfl) rfl)) (aD b.c201 a (sai 0 (@say _ _ _ _ _ _ _ sI sa0 rfl rfl))) (λ_ _=>rfl)) rfl rfl rfl rfl rfl rfl)
    (@ssc _ _ _ _ _ _ _ _ (@zA _ _ _ _ _ _ _ 2 _ _ _ _ S.nd (G9 T.list T.range (sV 1)) rfl rfl rfl rfl rfl rfl)
    (@ssc _ _ _ _ _ _ _ _ (@zA _ _ _ _ _ _ _ 3 _ _ _ _ S.nd (@sLx _ _ _ _ _ _ _ (by decide) sl0) rfl rfl rfl rfl rfl rfl)
    (@ssc _ _ _ _ _ _ _ _ (@zA _ _ _ _ _ _ _ 4 _ _ _ _ S.nd FQ rfl rfl rfl rfl rfl rfl)
    (@ssc _ _ _ _ _ _ _ _ (@zA _ _ _ _ _ _ _ 5 _ _ _ _ S.nd (cD sI (aD b.c201 a (sai 0 (@say _ _ _ _ _ _ _ sI sa0 rfl rfl)))) rfl rfl rfl rfl rfl rfl)
    (@ssc _ _ _ _ _ _ _ _ (cA 6 S.nd (vc (hm:=T.range) (ha:=(sV 1))) (@ssc _ _ _ _ _ _ _ _ (@zA _ _ _ _ _ _ _ 7 _ _ _ _ S.nd (EW 2 (aD b.c201 a (sai 0 (@say _ _ _ _ _ _ _ (Fh 2 T.len) sa0 rfl rfl)))) rfl rfl rfl rfl rfl rfl)
     (@ssc _ _ _ _ _ _ _ _ (Hc 4 a (As (hm:=T.sorted) (ha:=(Ka 3 [5,0] [5,0] [("_law_tape_here",s.heap.objs.size+1),("_law_often",s.heap.objs.size+2)] ["_law_often","_law_tape_here"] (λ_ _ _ _=>(fY a (aD b.c201 a (sai 2 (@say _ _ _ _ _ _ _ (sV 1) sa0 rfl rfl))) sI)) (λ_ _ _ _=>(sV 0)) csc (eY (eY .nil)) (frc (frc .nil))))) (sV 7))
     (ss1 (mI 3 (sV 7))))))
    (@ssc _ _ _ _ _ _ _ _ (@zA _ _ _ _ _ _ _ 8 _ _ _ _ S.nd (@sLx _ _ _ _ _ _ _ (by decide) sl0) rfl rfl rfl rfl rfl rfl)
    (@ssc _ _ _ _ _ _ _ _ (cA 6 S.nd (vc (hm:=T.range) (ha:=(sV 1))) (@ssc _ _ _ _ _ _ _ _ (@zA _ _ _ _ _ _ _ 9 _ _ _ _ S.nd (@aj _ _ _ _ _ _ _ _ _ (@sLx _ _ _ _ _ _ _ (by decide) (@slx _ _ _ _ _ _ _ sI (@slx _ _ _ _ _ _ _ (cD sI (aD b.c201 a (sai 0 (@say _ _ _ _ _ _ _ sI sa0 rfl rfl)))) (@slx _ _ _ _ _ _ _ (cD sI (aD b.c201 a (sai 0 (@say _ _ _ _ _ _ _ sI sa0 rfl rfl)))) (@slx _ _ _ _ _ _ _ (cD sI (aD b.c201 a (sai 0 (@say _ _ _ _ _ _ _ sI sa0 rfl rfl)))) sl0 rfl) rfl) rfl) rfl)) (wO (k7 (aD b.c201 a (sai 0 (@say _ _ _ _ _ _ _ sI sa0 rfl rfl))) sI) sI) (fun _ _=>rfl)) rfl rfl rfl rfl rfl rfl)
     (ss1 (mI 8 (@sTx _ _ _ _ _ _ _ (by decide) (@slx _ _ _ _ _ _ _ (@sTx _ _ _ _ _ _ _ (by decide) (@slx _ _ _ _ _ _ _ (wO (sV 6) sI) (@slx _ _ _ _ _ _ _ (IY (sV 6) sI) sl0 rfl) rfl)) (@slx _ _ _ _ _ _ _ (@sTx _ _ _ _ _ _ _ (by decide) sl0) (@slx _ _ _ _ _ _ _ (sV 9) (@slx _ _ _ _ _ _ _ (Ew a (sV 4) (sV 6)) sl0 rfl) rfl) rfl) rfl))))))
    (ss1 (aJ (sM 8)))))))))))
theorem Gq:au ["_law_tape_here"] ["_law_tape_here"] (defScope vN):=fsc
theorem J1:DD "_law_hands" vN ["_law_tape_here"] b5:=λ{_ _ _ _ _ _ _ _ _ _ _ s _ _} a T G b=>
 have S:=Gq
 (ss1<|aJ<|@aj _ _ _ _ _ _ _ _ _ (@sLx _ _ _ _ _ _ _ (by decide)<|@slx _ _ _ _ _ _ _ sI (@slx _ _ _ _ _ _ _ sI (@slx _ _ _ _ _ _ _ (cD sI<|aD a.c201 b<|sai 0<|@say _ _ _ _ _ _ _ sI sa0 rfl rfl) (@slx _ _ _ _ _ _ _ (cD sI<|aD a.c201 b<|sai 0<|@say _ _ _ _ _ _ _ sI sa0 rfl rfl) sl0 rfl) rfl) rfl) rfl) (aD a.c201 b<|sai 0<|@say _ _ _ _ _ _ _ sI sa0 rfl rfl) λ_ _=>rfl)
theorem Ie:au ["_law_steps","_law_left"] ["_law_steps","_law_left"] (defScope ua):=fsc
theorem Iq:DD "_law_can" ua ["_law_steps","_law_left"] c9:=λ{_ _ _ _ _ _ _ _ _ _ _ s _ _} b T G a=>
 have S:=Ie
 (ss1 (aJ (zI [1,0] [1,0] [("_law_steps",s.heap.objs.size+1),("_law_left",s.heap.objs.size+2)] ["_law_left","_law_steps"] (vc (hm:=T.range) (ha:=(bM (hm:=T.len) (ha:=(sV 0))))) (λ_ _ _ _=>(tW (tY (iB (@aj _ _ _ _ _ _ _ _ _ (sV 1) (sV 0) (λ_ _=>rfl)) sI) (wA1 (fY a (zI [1] [1] [("_law_left",s.heap.objs.size+2)] ["_law_left"] (bh (@aj _ _ _ _ _ _ _ _ _ (@aj _ _ _ _ _ _ _ _ _ (sV 2) (sV 0) (λ_ _=>rfl)) sI (λ_ _=>rfl))) (λ_ _ _ _=>(iB (@aj _ _ _ _ _ _ _ _ _ (sV 1) (sV 0) (λ_ _=>rfl)) sI)) (λ_ _ _ _=>(sV 0)) csc (eY .nil) (frc .nil)) (@sLx _ _ _ _ _ _ _ (by decide) sl0)))))) (λ_ _ _ _=>(sV 0)) csc (eY (eY .nil)) (frc (frc .nil)))))
theorem GJ:au ["_law_thing"] ["_law_thing"] (defScope sP):=fsc
theorem Jz:DD "_law_whole" sP ["_law_thing"] cj:=λ{_ _ _ _ _ _ _ _ _ _ _ s _ _} a T G b=>
 have S:=GJ
 (ss1 (aJ (sBW (jn (cM (by decide) Qv T.isin T.int (sV 0)) (vA1 (IQ (cM (by decide) QH T.isin T.bool (sV 0))))))))
theorem F4:au ["_law_many","_law_thing"] ["_law_many","_law_thing"] (defScope v5):=fsc
theorem JI:DD "_law_is_deal" v5 ["_law_many","_law_thing"] bF:=λ{_ _ _ _ _ _ _ _ _ _ _ s _ _} b T G a=>
 have S:=F4
 (@ssc _ _ _ _ _ _ _ _ (zIf (tW (wOr (cx (tB (cM (by decide) Np T.isin T.tup (sV 1)))) (wO1 (qS a (bM (hm:=T.len) (ha:=(sV 1))) sI)))) (ss1 (aJ sO)) ss0)
    (ss1 (aJ (sBW (jn (aD b.c272 a (@say _ _ _ _ _ _ _ (@aj _ _ _ _ _ _ _ _ _ (sV 1) sI (λ_ _=>rfl)) sa0 rfl rfl)) (jn (aD b.c272 a (@say _ _ _ _ _ _ _ (@aj _ _ _ _ _ _ _ _ _ (sV 1) sI (λ_ _=>rfl)) sa0 rfl rfl)) (jn (sLe sI (@aj _ _ _ _ _ _ _ _ _ (sV 1) sI (λ_ _=>rfl))) (jn (sLt (@aj _ _ _ _ _ _ _ _ _ (sV 1) sI (λ_ _=>rfl)) (sM 0)) (vA1 (sGt (@aj _ _ _ _ _ _ _ _ _ (sV 1) sI (λ_ _=>rfl)) sI))))))))))
theorem GC:au ["_law_steps","_law_hands_here","_law_thing","_law_beats","_law_done","_law_at","_law_beat","_law_last","_law_busy","_law_deal","_law_k","_law_step","_law_other"] ["_law_steps","_law_hands_here","_law_thing"] (defScope wm):=fsc
theorem JV:DD "_law_is_table" wm ["_law_steps","_law_hands_here","_law_thing","_law_beats","_law_done","_law_at","_law_beat","_law_last","_law_busy","_law_deal","_law_k","_law_step","_law_other"] bj:=λ{_ _ _ _ _ _ _ _ _ _ _ s _ _} b T G a=>
 have S:=GC
 (@ssc _ _ _ _ _ _ _ _ (zIf (cx (tB (cM (by decide) Mw T.isin T.list (sV 2)))) (ss1 (aJ sO)) ss0)
    (@ssc _ _ _ _ _ _ _ _ (zC1 3 [] [] [] [] (bh (sV 0)) (λ_ _ _ _=>(@sLx _ _ _ _ _ _ _ (by decide) sl0)) csc .nil .nil S.nd)
    (@ssc _ _ _ _ _ _ _ _ (zC1 4 [] [] [] [] (bh (sV 0)) (λ_ _ _ _=>sI) csc .nil .nil S.nd)
    (@ssc _ _ _ _ _ _ _ _ (jH 5 6 S.nd (l9 (hm:=T.enum) (ha:=(sV 2))) (@ssc _ _ _ _ _ _ _ _ (zIf (cx (tB (cM (by decide) Mw T.isin T.list (sV 6)))) (ss1 (aJ sO)) ss0)
     (@ssc _ _ _ _ _ _ _ _ (@zA _ _ _ _ _ _ _ 7 _ _ _ _ S.nd (mz sI) rfl rfl rfl rfl rfl rfl)
     (@ssc _ _ _ _ _ _ _ _ (@zA _ _ _ _ _ _ _ 8 _ _ _ _ S.nd sI rfl rfl rfl rfl rfl rfl)
     (@ssc _ _ _ _ _ _ _ _ (cA 9 S.nd (bh (sV 6)) (@ssc _ _ _ _ _ _ _ _ (zIf (tW (wOr (cx (tB (aD b.c303 a (@say _ _ _ _ _ _ _ (bM (hm:=T.len) (ha:=(sV 0))) (@say _ _ _ _ _ _ _ (sV 9) sa0 rfl rfl) rfl rfl)))) (wO1 (Gb (@aj _ _ _ _ _ _ _ _ _ (sV 9) sI (fun _ _=>rfl)) (sV 7))))) (ss1 (aJ sO)) ss0)
      (@ssc _ _ _ _ _ _ _ _ (@zA _ _ _ _ _ _ _ 7 _ _ _ _ S.nd (@aj _ _ _ _ _ _ _ _ _ (sV 9) sI (λ_ _=>rfl)) rfl rfl rfl rfl rfl rfl)
      (@ssc _ _ _ _ _ _ _ _ (@zA _ _ _ _ _ _ _ 8 _ _ _ _ S.nd (cD (sV 8) (@aj _ _ _ _ _ _ _ _ _ (sV 9) sI (λ_ _=>rfl))) rfl rfl rfl rfl rfl rfl)
      (@ssc _ _ _ _ _ _ _ _ (Fx 3 7 5)
      (ss1 (iq 4 (cD (@aj _ _ _ _ _ _ _ _ _ (sV 4) (sV 7) (λ_ _=>rfl)) (@aj _ _ _ _ _ _ _ _ _ (sV 9) sI (λ_ _=>rfl))) (sV 7))))))))
     (ss1 (zIf (iB (sV 8) (sV 1)) (ss1 (aJ sO)) ss0)))))))
    (@ssc _ _ _ _ _ _ _ _ (zIf (qS a (sV 4) (sC1 [] [] [] [] (bh (sV 0)) (λ_ _ _ _=>(@aj _ _ _ _ _ _ _ _ _ (sV 0) sI (λ_ _=>rfl))) csc .nil .nil)) (ss1 (aJ sO)) ss0)
    (@ssc _ _ _ _ _ _ _ _ (jH 10 11 S.nd (l9 (hm:=T.enum) (ha:=(sV 0))) (ss1 (cA 12 S.nd (bh (@aj _ _ _ _ _ _ _ _ _ (sV 11) sI (λ_ _=>rfl))) (ss1 (zIf (Gb (@aj _ _ _ _ _ _ _ _ _ (@aj _ _ _ _ _ _ _ _ _ (sV 3) (sV 10) (λ_ _=>rfl)) sI (λ_ _=>rfl)) (@aj _ _ _ _ _ _ _ _ _ (@aj _ _ _ _ _ _ _ _ _ (sV 3) (sV 12) (λ_ _=>rfl)) (mz sI) (λ_ _=>rfl))) (ss1 (aJ sO)) ss0)))))
    (ss1 (aJ sO))))))))
theorem G7:au ["_law_tape_here","_law_steps","_law_hands_here","_law_left","_law_beats","_law_free","_law_beat","_law_some","_law_lazy","_law_number","_law_many"] ["_law_tape_here","_law_steps","_law_hands_here"] (defScope uQ):=fsc
theorem Jn:DD "_law_other_table" uQ ["_law_tape_here","_law_steps","_law_hands_here","_law_left","_law_beats","_law_free","_law_beat","_law_some","_law_lazy","_law_number","_law_many"] aV:=λ{_ _ _ _ _ _ _ _ _ _ _ s _ _} b T G a=>
 have S:=G7
 (@ssc _ _ _ _ _ _ _ _ (zC1 3 [] [] [] [] (bh (sV 1)) (fun _ _ _ _=>(@aj _ _ _ _ _ _ _ _ _ (sV 0) sI (fun _ _=>rfl))) csc .nil .nil S.nd)
    (@ssc _ _ _ _ _ _ _ _ (@zA _ _ _ _ _ _ _ 4 _ _ _ _ S.nd (@sLx _ _ _ _ _ _ _ (by decide) sl0) rfl rfl rfl rfl rfl rfl)
    (@ssc _ _ _ _ _ _ _ _ (wW (iB (Ak (hm:=T.sum) (ha:=(sV 3))) sI) (@ssc _ _ _ _ _ _ _ _ (@zA _ _ _ _ _ _ _ 5 _ _ _ _ S.nd (sV 2) rfl rfl rfl rfl rfl rfl)
     (@ssc _ _ _ _ _ _ _ _ (@zA _ _ _ _ _ _ _ 6 _ _ _ _ S.nd (@sLx _ _ _ _ _ _ _ (by decide) sl0) rfl rfl rfl rfl rfl rfl)
     (@ssc _ _ _ _ _ _ _ _ (@zA _ _ _ _ _ _ _ 7 _ _ _ _ S.nd (aD b.c308 a (@say _ _ _ _ _ _ _ (sV 1) (@say _ _ _ _ _ _ _ (sV 3) sa0 rfl rfl) rfl rfl)) rfl rfl rfl rfl rfl rfl)
     (@ssc _ _ _ _ _ _ _ _ (@zA _ _ _ _ _ _ _ 8 _ _ _ _ S.nd (aD b.c201 a (sai 0 (@say _ _ _ _ _ _ _ sI sa0 rfl rfl))) rfl rfl rfl rfl rfl rfl)
     (@ssc _ _ _ _ _ _ _ _ (cA 9 S.nd (bh (sV 7)) (@ssc _ _ _ _ _ _ _ _ (@zA _ _ _ _ _ _ _ 10 _ _ _ _ S.nd (GW (hm:=T.min) (ha:=(sV 5)) (hb:=(@aj _ _ _ _ _ _ _ _ _ (sV 3) (sV 9) (fun _ _=>rfl)))) rfl rfl rfl rfl rfl rfl)
      (ss1 (zIf (tW (tY (iB (sV 10) sI) (wA1 (tW (wOr (oP (sV 8) sI) (wOr (fY a (sV 9) (@aj _ _ _ _ _ _ _ _ _ (sV 7) (mz sI) (fun _ _=>rfl))) (wO1 (fY a (aD b.c201 a (sai 0 (@say _ _ _ _ _ _ _ sI sa0 rfl rfl))) sI)))))))) (@ssc _ _ _ _ _ _ _ _ (zIf (fY a (sV 8) sI) (ss1 (@zA _ _ _ _ _ _ _ 10 _ _ _ _ S.nd (cD sI (aD b.c201 a (sai 0 (@say _ _ _ _ _ _ _ (sV 10) sa0 rfl rfl)))) rfl rfl rfl rfl rfl rfl)) ss0)
       (@ssc _ _ _ _ _ _ _ _ (mI 6 (@sTx _ _ _ _ _ _ _ (by decide) (@slx _ _ _ _ _ _ _ (sV 9) (@slx _ _ _ _ _ _ _ (sV 10) sl0 rfl) rfl)))
       (ss1 (@zA _ _ _ _ _ _ _ 5 _ _ _ _ S.nd (jm (sV 5) (sV 10)) rfl rfl rfl rfl rfl rfl)))) ss0))))
     (@ssc _ _ _ _ _ _ _ _ (jH 9 10 S.nd (FW (sV 6)) (ss1 (iq 3 (jm (@aj _ _ _ _ _ _ _ _ _ (sV 3) (sV 9) (λ_ _=>rfl)) (sV 10)) (sV 9))))
     (ss1 (mI 4 (sV 6))))))))))
    (ss1 (aJ (sM 4))))))
theorem E1:au ["_law_steps","_law_ends","_law_k","_law_number","_law_step","_law_other"] ["_law_steps"] (defScope sR):=fsc
theorem Io:DD "_law_longest" sR ["_law_steps","_law_ends","_law_k","_law_number","_law_step","_law_other"] bB:=λ{_ _ _ _ _ _ _ _ _ _ _ s _ _} a T G b=>
 have S:=E1
 (@ssc _ _ _ _ _ _ _ _ (zC1 1 [] [] [] [] (bh (sV 0)) (λ_ _ _ _=>sI) csc .nil .nil S.nd)
    (@ssc _ _ _ _ _ _ _ _ (cA 2 S.nd (vc (hm:=T.range) (ha:=(bM (hm:=T.len) (ha:=(sV 0))))) (ss1 (jH 3 4 S.nd (l9 (hm:=T.enum) (ha:=(sV 0))) (ss1 (cA 5 S.nd (bh (@aj _ _ _ _ _ _ _ _ _ (sV 4) sI (λ_ _=>rfl))) (ss1 (iq 1 (JY (hm:=T.max) (ha:=(@aj _ _ _ _ _ _ _ _ _ (sV 1) (sV 3) (λ_ _=>rfl))) (hb:=(cD (@aj _ _ _ _ _ _ _ _ _ (sV 1) (sV 5) (λ_ _=>rfl)) sI))) (sV 3))))))))
    (ss1 (aJ (Ih (hm:=T.max) (ha:=(cD (@sLx _ _ _ _ _ _ _ (by decide) (@slx _ _ _ _ _ _ _ sI sl0 rfl)) (sM 1))))))))
theorem S0:au ["_law_script","_law_tape_here","_law_k","_law_steps","_law_hands_here","_law_all","_law_told","_law_least","_law_most","_law_other"] ["_law_script"] (defScope s0):=fsc
theorem D0:DD "law" s0 ["_law_script","_law_tape_here","_law_k","_law_steps","_law_hands_here","_law_all","_law_told","_law_least","_law_most","_law_other"] pU:=λ{_ _ _ _ _ _ _ _ _ _ _ s _ _} b T G a=>
 have S:=S0
 (@ssc _ _ _ _ _ _ _ _ (@zA _ _ _ _ _ _ _ 1 _ _ _ _ S.nd (aD b.c179 a (@say _ _ _ _ _ _ _ (sV 0) sa0 rfl rfl)) rfl rfl rfl rfl rfl rfl)
    (@ssc _ _ _ _ _ _ _ _ (cA 2 S.nd (vc (hm:=T.range) (ha:=sI)) (@ssc _ _ _ _ _ _ _ _ (@zA _ _ _ _ _ _ _ 3 _ _ _ _ S.nd (aD b.c278 a (sai 1 sa0)) rfl rfl rfl rfl rfl rfl)
     (@ssc _ _ _ _ _ _ _ _ (@zA _ _ _ _ _ _ _ 4 _ _ _ _ S.nd (aD b.c279 a (sai 1 sa0)) rfl rfl rfl rfl rfl rfl)
     (@ssc _ _ _ _ _ _ _ _ (@zA _ _ _ _ _ _ _ 5 _ _ _ _ S.nd (Ak (hm:=T.sum) (ha:=(sC1 [] [] [] [] (bh (sV 3)) (λ_ _ _ _=>(@aj _ _ _ _ _ _ _ _ _ (sV 0) sI (λ_ _=>rfl))) csc .nil .nil))) rfl rfl rfl rfl rfl rfl)
     (@ssc _ _ _ _ _ _ _ _ (@zA _ _ _ _ _ _ _ 6 _ _ _ _ S.nd (aD b.c310 a (@say _ _ _ _ _ _ _ (sV 3) (@say _ _ _ _ _ _ _ (sV 4) sa0 rfl rfl) rfl rfl)) rfl rfl rfl rfl rfl rfl)
     (@ssc _ _ _ _ _ _ _ _ (@zA _ _ _ _ _ _ _ 7 _ _ _ _ S.nd (aD b.c266 a (@say _ _ _ _ _ _ _ (sV 3) (@say _ _ _ _ _ _ _ (sV 4) (@say _ _ _ _ _ _ _ (aD b.c294 a (@say _ _ _ _ _ _ _ (sV 3) (@say _ _ _ _ _ _ _ (sV 4) sa0 rfl rfl) rfl rfl)) sa0 rfl rfl) rfl rfl) rfl rfl)) rfl rfl rfl rfl rfl rfl)
     (@ssc _ _ _ _ _ _ _ _ (zIf (cx (tB (aD b.c358 a (@say _ _ _ _ _ _ _ (sV 3) (@say _ _ _ _ _ _ _ (sV 4) (@say _ _ _ _ _ _ _ (sV 6) sa0 rfl rfl) rfl rfl) rfl rfl)))) (ss1 (aJ sO)) ss0)
     (@ssc _ _ _ _ _ _ _ _ (zIf (tW (wOr (Dy (aD b.c356 a (@say _ _ _ _ _ _ _ (sV 3) (@say _ _ _ _ _ _ _ (sV 4) (@say _ _ _ _ _ _ _ (sV 6) sa0 rfl rfl) rfl rfl) rfl rfl)) sO) (wO1 (cx (tB (aD b.c272 a (@say _ _ _ _ _ _ _ (sV 7) sa0 rfl rfl))))))) (ss1 (aJ sO)) ss0)
     (@ssc _ _ _ _ _ _ _ _ (@zA _ _ _ _ _ _ _ 8 _ _ _ _ S.nd (cD (wO (jm (cD (sV 5) (sV 4)) sI) (sV 4)) (aD b.c286 a (@say _ _ _ _ _ _ _ (sV 3) sa0 rfl rfl))) rfl rfl rfl rfl rfl rfl)
     (@ssc _ _ _ _ _ _ _ _ (zIf (tW (wOr (oP (bM (hm:=T.len) (ha:=(sV 6))) (sV 7)) (wO1 (iB (bM (hm:=T.len) (ha:=(sV 6))) (sV 8))))) (ss1 (aJ sO)) ss0)
     (@ssc _ _ _ _ _ _ _ _ (@zA _ _ _ _ _ _ _ 9 _ _ _ _ S.nd (aD b.c359 a (sai 1 (@say _ _ _ _ _ _ _ (sV 3) (@say _ _ _ _ _ _ _ (sV 4) sa0 rfl rfl) rfl rfl))) rfl rfl rfl rfl rfl rfl)
     (@ssc _ _ _ _ _ _ _ _ (zIf (tW (wOr (oP (bM (hm:=T.len) (ha:=(sV 9))) (sV 7)) (wO1 (oP (k7 sI (bM (hm:=T.len) (ha:=(sV 9)))) (bM (hm:=T.len) (ha:=(sV 6))))))) (ss1 (aJ sO)) ss0)
     (ss1 (zIf (qS a (bM (hm:=T.len) (ha:=(aD b.c310 a (@say _ _ _ _ _ _ _ (sV 3) (@say _ _ _ _ _ _ _ sI sa0 rfl rfl) rfl rfl)))) (sV 5)) (ss1 (aJ sO)) ss0))))))))))))))
    (ss1 (aJ sO))))
end A78

namespace A78
open PySem PySem.Spec PyProof.Rows L2 L3 MR
abbrev Cl (n:Y):M.Call:=M.callR prog 1000000 1000001 n
section
variable {P:RS}{w:Ks}{K:Kk}{mg:Str->j B}{base:RU}
theorem all (d263:Df K mg "alike" vd ["one","other"])(d264:Df K mg "sort_of" tR ["thing"])(d265:Df K mg "are_numbers" tL ["thing"])(d310:Df K mg "timetable" vt ["steps","hands"])(d290:Df K mg "those_behind" wF ["steps"])(d311:Df K mg "deal" wQ ["ready","left","hands"])(d299:Df K mg "put_falling" wX ["numbers","number"])(d356:Df K mg "is_timetable" vj ["steps","hands","thing"])(d357:Df K mg "is_beat" wR ["thing","many","hands"])(d302:Df K mg "is_dealt" vM ["thing","many"])(d294:Df K mg "shown" vo ["steps","hands"])(d266:Df K mg "shows" sL ["steps","hands","thing"])(d267:Df K mg "least_by_width" xq ["steps","hands"])(d268:Df K mg "is_waiting_row" um ["steps","thing"])(d295:Df K mg "longest_row" uh ["steps"])(d296:Df K mg "in_order" wC ["steps"])(d179:Df K mg "_law_tape" u7 ["_law_script"])(d201:Df K mg "_law_draw" uM ["_law_tape_here","_law_many"])(d278:Df K mg "_law_waits" uO ["_law_tape_here"])(d279:Df K mg "_law_hands" vN ["_law_tape_here"])(d308:Df K mg "_law_can" ua ["_law_steps","_law_left"])(d272:Df K mg "_law_whole" sP ["_law_thing"])(d303:Df K mg "_law_is_deal" v5 ["_law_many","_law_thing"])(d358:Df K mg "_law_is_table" wm ["_law_steps","_law_hands_here","_law_thing"])(d359:Df K mg "_law_other_table" uQ ["_law_tape_here","_law_steps","_law_hands_here"])(d286:Df K mg "_law_longest" sR ["_law_steps"])  (T:Txt mg)(G:Glb K w mg):∀n,Calls P w K mg base n<|Cl n
|0=>
 have g:ae P w K mg base 0 (Cl 0) "alike" 263 []:=d263.z;have i:ae P w K mg base 0 (Cl 0) "sort_of" 264 []:=d264.z;have k:ae P w K mg base 0 (Cl 0) "are_numbers" 265 []:=d265.z;have N:ae P w K mg base 0 (Cl 0) "timetable" 310 []:=d310.z;have v:ae P w K mg base 0 (Cl 0) "those_behind" 290 []:=d290.z;have Q:ae P w K mg base 0 (Cl 0) "deal" 311 [0,1]:=d311.z;have F:ae P w K mg base 0 (Cl 0) "put_falling" 299 [0]:=d299.z;have Z:ae P w K mg base 0 (Cl 0) "is_timetable" 356 []:=d356.z;have c357:ae P w K mg base 0 (Cl 0) "is_beat" 357 []:=d357.z;have I:ae P w K mg base 0 (Cl 0) "is_dealt" 302 []:=d302.z;have x:ae P w K mg base 0 (Cl 0) "shown" 294 []:=d294.z;have l:ae P w K mg base 0 (Cl 0) "shows" 266 []:=d266.z;have m:ae P w K mg base 0 (Cl 0) "least_by_width" 267 []:=d267.z;have o:ae P w K mg base 0 (Cl 0) "is_waiting_row" 268 []:=d268.z;have y:ae P w K mg base 0 (Cl 0) "longest_row" 295 []:=d295.z;have D:ae P w K mg base 0 (Cl 0) "in_order" 296 []:=d296.z;have d:ae P w K mg base 0 (Cl 0) "_law_tape" 179 []:=d179.z;have e:ae P w K mg base 0 (Cl 0) "_law_draw" 201 [0]:=d201.z;have r:ae P w K mg base 0 (Cl 0) "_law_waits" 278 [0]:=d278.z;have t:ae P w K mg base 0 (Cl 0) "_law_hands" 279 [0]:=d279.z;have M:ae P w K mg base 0 (Cl 0) "_law_can" 308 []:=d308.z;have p:ae P w K mg base 0 (Cl 0) "_law_whole" 272 []:=d272.z;have L:ae P w K mg base 0 (Cl 0) "_law_is_deal" 303 []:=d303.z;have c358:ae P w K mg base 0 (Cl 0) "_law_is_table" 358 []:=d358.z;have c359:ae P w K mg base 0 (Cl 0) "_law_other_table" 359 [0]:=d359.z;have u:ae P w K mg base 0 (Cl 0) "_law_longest" 286 []:=d286.z
 ⟨g,i,k,N,v,Q,F,Z,c357,I,x,l,m,o,y,D,d,e,r,t,M,p,L,c358,c359,u⟩
|n+1=>
 have c:=all d263 d264 d265 d310 d290 d311 d299 d356 d357 d302 d294 d266 d267 d268 d295 d296 d179 d201 d278 d279 d308 d272 d303 d358 d359 d286  T G n;have g:ae P w K mg base (n+1) (Cl (n+1)) "alike" 263 []:=d263.s aQ HZ (C:=Cl n) (by intro f b A a s H E h;exact@JM P w K mg base n (Cl n) f b A a s H E c T G h);have i:ae P w K mg base (n+1) (Cl (n+1)) "sort_of" 264 []:=d264.s bb FI (C:=Cl n) (by intro f b A a s H E h;exact@JN P w K mg base n (Cl n) f b A a s H E c T G h);have k:ae P w K mg base (n+1) (Cl (n+1)) "are_numbers" 265 []:=d265.s bE Gk (C:=Cl n) (by intro f b A a s H E h;exact@IP P w K mg base n (Cl n) f b A a s H E c T G h);have N:ae P w K mg base (n+1) (Cl (n+1)) "timetable" 310 []:=d310.s b7 Ib (C:=Cl n) (by intro f b A a s H E h;exact@Jq P w K mg base n (Cl n) f b A a s H E c T G h);have v:ae P w K mg base (n+1) (Cl (n+1)) "those_behind" 290 []:=d290.s bw GD (C:=Cl n) (by intro f b A a s H E h;exact@JZ P w K mg base n (Cl n) f b A a s H E c T G h);have Q:ae P w K mg base (n+1) (Cl (n+1)) "deal" 311 [0,1]:=d311.s gY GN (C:=Cl n) (by intro f b A a s H E h;exact@JL P w K mg base n (Cl n) f b A a s H E c T G h);have F:ae P w K mg base (n+1) (Cl (n+1)) "put_falling" 299 [0]:=d299.s bC Hh (C:=Cl n) (by intro f b A a s H E h;exact@Jb P w K mg base n (Cl n) f b A a s H E c T G h);have Z:ae P w K mg base (n+1) (Cl (n+1)) "is_timetable" 356 []:=d356.s bo Hq (C:=Cl n) (by intro f b A a s H E h;exact@Jl P w K mg base n (Cl n) f b A a s H E c T G h);have c357:ae P w K mg base (n+1) (Cl (n+1)) "is_beat" 357 []:=d357.s da Hs (C:=Cl n) (by intro f b A a s H E h;exact@J7 P w K mg base n (Cl n) f b A a s H E c T G h);have I:ae P w K mg base (n+1) (Cl (n+1)) "is_dealt" 302 []:=d302.s cO Hu (C:=Cl n) (by intro f b A a s H E h;exact@JO P w K mg base n (Cl n) f b A a s H E c T G h);have x:ae P w K mg base (n+1) (Cl (n+1)) "shown" 294 []:=d294.s eG Ig (C:=Cl n) (by intro f b A a s H E h;exact@JJ P w K mg base n (Cl n) f b A a s H E c T G h);have l:ae P w K mg base (n+1) (Cl (n+1)) "shows" 266 []:=d266.s bf F8 (C:=Cl n) (by intro f b A a s H E h;exact@II P w K mg base n (Cl n) f b A a s H E c T G h);have m:ae P w K mg base (n+1) (Cl (n+1)) "least_by_width" 267 []:=d267.s aY Fg (C:=Cl n) (by intro f b A a s H E h;exact@IJ P w K mg base n (Cl n) f b A a s H E c T G h);have o:ae P w K mg base (n+1) (Cl (n+1)) "is_waiting_row" 268 []:=d268.s ai GU (C:=Cl n) (by intro f b A a s H E h;exact@Kb P w K mg base n (Cl n) f b A a s H E c T G h);have y:ae P w K mg base (n+1) (Cl (n+1)) "longest_row" 295 []:=d295.s bD Ia (C:=Cl n) (by intro f b A a s H E h;exact@ID P w K mg base n (Cl n) f b A a s H E c T G h);have D:ae P w K mg base (n+1) (Cl (n+1)) "in_order" 296 []:=d296.s cK F7 (C:=Cl n) (by intro f b A a s H E h;exact@Jd P w K mg base n (Cl n) f b A a s H E c T G h);have d:ae P w K mg base (n+1) (Cl (n+1)) "_law_tape" 179 []:=d179.s cN Hz (C:=Cl n) (by intro f b A a s H E h;exact@Jc P w K mg base n (Cl n) f b A a s H E c T G h);have e:ae P w K mg base (n+1) (Cl (n+1)) "_law_draw" 201 [0]:=d201.s bW GZ (C:=Cl n) (by intro f b A a s H E h;exact@JP P w K mg base n (Cl n) f b A a s H E c T G h);have r:ae P w K mg base (n+1) (Cl (n+1)) "_law_waits" 278 [0]:=d278.s f_law_waits Hv (C:=Cl n) (by intro f b A a s H E h;exact@Iu P w K mg base n (Cl n) f b A a s H E c T G h);have t:ae P w K mg base (n+1) (Cl (n+1)) "_law_hands" 279 [0]:=d279.s b5 Gq (C:=Cl n) (by intro f b A a s H E h;exact@J1 P w K mg base n (Cl n) f b A a s H E c T G h);have M:ae P w K mg base (n+1) (Cl (n+1)) "_law_can" 308 []:=d308.s c9 Ie (C:=Cl n) (by intro f b A a s H E h;exact@Iq P w K mg base n (Cl n) f b A a s H E c T G h);have p:ae P w K mg base (n+1) (Cl (n+1)) "_law_whole" 272 []:=d272.s cj GJ (C:=Cl n) (by intro f b A a s H E h;exact@Jz P w K mg base n (Cl n) f b A a s H E c T G h);have L:ae P w K mg base (n+1) (Cl (n+1)) "_law_is_deal" 303 []:=d303.s bF F4 (C:=Cl n) (by intro f b A a s H E h;exact@JI P w K mg base n (Cl n) f b A a s H E c T G h);have c358:ae P w K mg base (n+1) (Cl (n+1)) "_law_is_table" 358 []:=d358.s bj GC (C:=Cl n) (by intro f b A a s H E h;exact@JV P w K mg base n (Cl n) f b A a s H E c T G h);have c359:ae P w K mg base (n+1) (Cl (n+1)) "_law_other_table" 359 [0]:=d359.s aV G7 (C:=Cl n) (by intro f b A a s H E h;exact@Jn P w K mg base n (Cl n) f b A a s H E c T G h);have u:ae P w K mg base (n+1) (Cl (n+1)) "_law_longest" 286 []:=d286.s bB E1 (C:=Cl n)<|by intro f b A a s H E h;exact@Io P w K mg base n (Cl n) f b A a s H E c T G h
 ⟨g,i,k,N,v,Q,F,Z,c357,I,x,l,m,o,y,D,d,e,r,t,M,p,L,c358,c359,u⟩
end
theorem pure_law:∀a:U Int,a.length<=63->∃m bs,Cl 40 0 [(.d,.scr a)]=.ok ((m,.bl Kh),bs):=λa _=>P78.pure_law a
theorem all_mk {l:OS}{w:Ks}{K:Kk}{h:RU}{a:Str->j B}{fa:RL}(X:K.In h)(G:h.Ns K3 a)(hfa:a "law"=O (.ref fa))(r263:Raw K "alike" vd .none)(r264:Raw K "sort_of" tR .none)(r265:Raw K "are_numbers" tL .none)(r310:Raw K "timetable" vt .none)(r290:Raw K "those_behind" wF .none)(r311:Raw K "deal" wQ .none)(r299:Raw K "put_falling" wX .none)(r356:Raw K "is_timetable" vj .none)(r357:Raw K "is_beat" wR .none)(r302:Raw K "is_dealt" vM .none)(r294:Raw K "shown" vo .none)(r266:Raw K "shows" sL .none)(r267:Raw K "least_by_width" xq .none)(r268:Raw K "is_waiting_row" um .none)(r295:Raw K "longest_row" uh .none)(r296:Raw K "in_order" wC .none)(r179:Raw K "_law_tape" u7 .none)(r201:Raw K "_law_draw" uM .none)(r278:Raw K "_law_waits" uO .none)(r279:Raw K "_law_hands" vN .none)(r308:Raw K "_law_can" ua .none)(r272:Raw K "_law_whole" sP .none)(r303:Raw K "_law_is_deal" v5 .none)(r358:Raw K "_law_is_table" wm .none)(r359:Raw K "_law_other_table" uQ .none)(r286:Raw K "_law_longest" sR .none)(r0:Raw K "law" s0 .none)   (tx:Cu K ["isinstance","int","tuple","list","bool","sum","len","all","zip","range","enumerate","any","max","min","sorted","str","repr","abs","dict","set","reversed"]):
  ∃fd:LF,(∀(s:Ki) (v:B),My s fd ⟨[v],[]⟩ [("_law_script",v)])/\∀b:RU,K.In b->b.Ns K3 a->fI l.prog w K a b CX0 40 fa fd ["_law_script"] (spS K (Cl 40) 0 []):=by
 have e:Df K a "alike" vd ["one","other"]:=a0 X G r263 λ_ _ _ _ _ _=>u2 λ_ _=>rfl;have g:Df K a "sort_of" tR ["thing"]:=a0 X G r264 λ_ _ _ _ _ _=>u1 λ_=>rfl;have i:Df K a "are_numbers" tL ["thing"]:=a0 X G r265 λ_ _ _ _ _ _=>u1 λ_=>rfl;have L:Df K a "timetable" vt ["steps","hands"]:=a0 X G r310 λ_ _ _ _ _ _=>u2 λ_ _=>rfl;have u:Df K a "those_behind" wF ["steps"]:=a0 X G r290 λ_ _ _ _ _ _=>u1 λ_=>rfl;have M:Df K a "deal" wQ ["ready","left","hands"]:=a0 X G r311 λ_ _ _ _ _ _=>u3 λ_ _ _=>rfl;have A:Df K a "put_falling" wX ["numbers","number"]:=a0 X G r299 λ_ _ _ _ _ _=>u2 λ_ _=>rfl;have N:Df K a "is_timetable" vj ["steps","hands","thing"]:=a0 X G r356 λ_ _ _ _ _ _=>u3 λ_ _ _=>rfl;have P:Df K a "is_beat" wR ["thing","many","hands"]:=a0 X G r357 λ_ _ _ _ _ _=>u3 λ_ _ _=>rfl;have D:Df K a "is_dealt" vM ["thing","many"]:=a0 X G r302 λ_ _ _ _ _ _=>u2 λ_ _=>rfl;have x:Df K a "shown" vo ["steps","hands"]:=a0 X G r294 λ_ _ _ _ _ _=>u2 λ_ _=>rfl;have k:Df K a "shows" sL ["steps","hands","thing"]:=a0 X G r266 λ_ _ _ _ _ _=>u3 λ_ _ _=>rfl;have m:Df K a "least_by_width" xq ["steps","hands"]:=a0 X G r267 λ_ _ _ _ _ _=>u2 λ_ _=>rfl;have n:Df K a "is_waiting_row" um ["steps","thing"]:=a0 X G r268 λ_ _ _ _ _ _=>u2 λ_ _=>rfl;have y:Df K a "longest_row" uh ["steps"]:=a0 X G r295 λ_ _ _ _ _ _=>u1 λ_=>rfl;have z:Df K a "in_order" wC ["steps"]:=a0 X G r296 λ_ _ _ _ _ _=>u1 λ_=>rfl;have c:Df K a "_law_tape" u7 ["_law_script"]:=a0 X G r179 λ_ _ _ _ _ _=>u1 λ_=>rfl;have d:Df K a "_law_draw" uM ["_law_tape_here","_law_many"]:=a0 X G r201 λ_ _ _ _ _ _=>u2 λ_ _=>rfl;have p:Df K a "_law_waits" uO ["_law_tape_here"]:=a0 X G r278 λ_ _ _ _ _ _=>u1 λ_=>rfl;have r:Df K a "_law_hands" vN ["_law_tape_here"]:=a0 X G r279 λ_ _ _ _ _ _=>u1 λ_=>rfl;have I:Df K a "_law_can" ua ["_law_steps","_law_left"]:=a0 X G r308 λ_ _ _ _ _ _=>u2 λ_ _=>rfl;have o:Df K a "_law_whole" sP ["_law_thing"]:=a0 X G r272 λ_ _ _ _ _ _=>u1 λ_=>rfl;have H:Df K a "_law_is_deal" v5 ["_law_many","_law_thing"]:=a0 X G r303 λ_ _ _ _ _ _=>u2 λ_ _=>rfl;have Q:Df K a "_law_is_table" wm ["_law_steps","_law_hands_here","_law_thing"]:=a0 X G r358 λ_ _ _ _ _ _=>u3 λ_ _ _=>rfl;have Z:Df K a "_law_other_table" uQ ["_law_tape_here","_law_steps","_law_hands_here"]:=a0 X G r359 λ_ _ _ _ _ _=>u3 λ_ _ _=>rfl;have t:Df K a "_law_longest" sR ["_law_steps"]:=a0 X G r286 λ_ _ _ _ _ _=>u1 λ_=>rfl;have T:=Dj X G tx;have Gm:Glb K w a:=⟨⟩;exact AA X G hfa r0 (λ_ _ _ _ _ _ _ _=>.of_eq rfl) λf fd F b=>Fun.okM F S0 rfl (by decide) (by decide) (by decide) (λ_ _ _ _ _ _ h=>D0 (all e g i L u M A N P D x k m n y z c d p r I o H Q Z t  T Gm 39) T Gm h) λ_=>rfl
end A78

set_option maxHeartbeats 0
namespace H78
open PySem PySem.W TP
noncomputable abbrev pr:RS:=PySem.Challenge.pw_broadrow_k78_whole_none_is_much_shorter
def tn (i:Y):R0:=pr.main.body.getD i<|.Pass p0
noncomputable def rc:U Rc:=[.m,
.d,
.d,
.d,
.m,
.d,
.d,
.d,
.d,
.d,
.d,
.d,
.d,
.d,
.d,
.d,
.d,
.d,
.m,
.d,
.d,
.d,
.d,
.d,
.d,
.d,
.d,
.d,
.d,
.d]
theorem c0 (w:Ks):Cut pr rc 0 15 187 p0 26 688 154 369 ⟨172,0,175,147⟩ w:=λo=>by kernel_rfl
theorem c26 (w:Ks):Cut pr rc 26 154 369 ⟨172,0,175,147⟩ 4 105 174 393 ⟨228,0,248,15⟩ w:=λo=>by kernel_rfl
theorem ch:Ch pr rc 30 174 393 0 15 187 p0 (688+(105+(2))):=pM c0<|pM c26<|Cc<|by kernel_rfl
def q:RS:=view pr [29]
noncomputable def lo:U Str:=(["alike","sort_of","are_numbers","timetable","those_behind","deal","put_falling","is_timetable","is_beat","is_dealt","shown","shows","least_by_width","is_waiting_row","longest_row","in_order","_law_tape","_law_draw","_law_waits","_law_hands","_law_can","_law_whole","_law_is_deal","_law_is_table","_law_other_table","_law_longest"]:U R1).map Str.ofString
noncomputable def as:U RL:=[3,20,21,27,28,32,33,37,38,42,43,49,50,56,57,61,62,66,67,73,74,80,81,87,88,92,93,97,98,102,103,107,108,114,115,121,122,126,127,133,134,138,139,145,146,152,153,157,158,162,163,167,168,172,173]
def K:Lk->Frag:=kK pr rc 30 as
def hk:Hook:=hkk pr rc 30 174
abbrev Xt (s:Ki):RN:=xlAt q [] s&&recOk (RowW.records<|OpenRow.toRowW<|OpenLaw.row PySem.Challenge.rw_broadrow_k78_whole_none_is_much_shorter) s
theorem kin (w:Ks)(h:RU)(a:hk.says w h):(K w.params).In h:=Jr (by kernel_rfl) (by kernel_rfl) a
theorem lk (w:Ks):(λo=>((staticsOk (N4 pr.main.body) (LL w.params) (hp pr rc 30 174 w.params)&&namesBound pr (hp pr rc 30 174 w.params)&&gensDone ⟨hp pr rc 30 174 w.params,#[],{},393,o⟩&&laidKept (LL w.params) (hp pr rc 30 174 w.params)),openSeen q lo (N4 pr.main.body) Xt Kh ⟨hp pr rc 30 174 w.params,#[],{},393,o⟩,Hook.obs hk ⟨hp pr rc 30 174 w.params,#[],{},393,o⟩))=λ_=>(Kh,openGood q lo,Hook.val hk w):=by kernel_rfl
theorem e1:opening pr=plainProg pr.main.scope.names:=by kernel_rfl
theorem e2:NI pr=pr.main.body:=by kernel_rfl
theorem e3 (s:Ki):fenceModules? pr s=O s:=by kernel_rfl
theorem pre (w:Ks)(o:SG):topGo ME pr w 11 an 12 ⟨LL w.params,Od [],boot_drawn,boot_toks,o⟩ (topStub pr)=O ((sT pr rc w.params 0 15 187 o).abs,⟨denote ME<|cE pr,cE pr,p0,B0⟩):=by kernel_rfl
theorem blk (w:Ks)(o:SG):segRun ME pr w 11 an 1 1 (sT pr rc w.params 0 15 187 o).abs (blockOf (NI pr) (ev pr) (cE pr) p0 B0)=O (.next,(sT pr rc w.params 0 15 187 o).abs,cE pr,p0):=by kernel_rfl
theorem left:LeftO pr q lo Xt (Hook.obs hk) (Hook.val hk) 1708:=Ac e1 (by kernel_rfl) e3 e2 xG pre blk ch (by kernel_rfl) lk
end H78

set_option maxHeartbeats 4000000
open PySem PySem.W PyProof.Rows
set_option maxRecDepth 100000 in
set_option maxHeartbeats 0 in
theorem PySem.Challenge.cw_broadrow_k78_whole_none_is_much_shorter_holds : PySem.Challenge.rw_broadrow_k78_whole_none_is_much_shorter.Holds := by
 w_on; refine holds_law (by kernel_rfl) fun said=>?_
 refine holds_open (q:=H78.q) (loose:=H78.lo) (Xt:=H78.Xt) (XP:=XL H78.q []) (Yf:=Hook.obs H78.hk) (Ya:=Hook.val H78.hk) (YP:=Hook.says H78.hk) (N:=1708) (d:=TP.drec (H78.tn 29)) (kwd:=[]) H78.left (Hook.of H78.hk) (Hook.keeps H78.hk) (fun s e=>xl_of s (O9.mp e).1) XL.keeps (by kernel_rfl) (by kernel_rfl) (by kernel_rfl) (fun s e=>recFacts_of (O9.mp e).2) (by rfl) (by first | assumption | decide +kernel) (by decide +kernel) ⟨rfl,rfl,rfl,rfl,rfl,by decide +kernel⟩ ?hw ?hc
 case hw=>w_witness2
 refine MR.walkX (sx:="_law_script") (l:=PySem.Challenge.rw_broadrow_k78_whole_none_is_much_shorter) (k:=40) (C:=A78.Cl 40) (ix:=0) (K:=H78.K) A78.pure_law rfl (by kernel_rfl) ⟨rfl,by decide,by decide,rfl⟩ H78.kin ?F
 case F =>
  intro w mg fa h KX G hmg
  refine' A78.all_mk KX G hmg ?zr263 ?zr264 ?zr265 ?zr310 ?zr290 ?zr311 ?zr299 ?zr356 ?zr357 ?zr302 ?zr294 ?zr266 ?zr267 ?zr268 ?zr295 ?zr296 ?zr179 ?zr201 ?zr278 ?zr279 ?zr308 ?zr272 ?zr303 ?zr358 ?zr359 ?zr286 ?zr0   ?ztx
  case ztx=>refine' ⟨?_,?_,?_,?_,?_,?_,?_,?_,?_,?_,?_,?_,?_,?_,?_,?_,?_,?_,?_,?_,?_,trivial⟩<;>kernel_rfl
  all_goals exact TP.raw_mk (by kernel_rfl) (by kernel_rfl) (by kernel_rfl) (by kernel_rfl)
